package filter

import (
	"slices"
	"strings"

	"tachograph/api"
)

// mostTexts is how many texts All reads.
const mostTexts = 16

// Parse is a text's term.
func Parse(s string) (Term, api.Errno) {
	name, rest, ok := strings.Cut(s, "=")
	if !ok {
		return Term{}, api.ErrForm
	}
	name, not := strings.CutSuffix(name, "!")
	t := Term{Name: name, Not: not, Values: values(rest)}
	if !Right(t) {
		return Term{}, api.ErrForm
	}
	return t, api.OK
}

// values is those of the text behind the sign; what is odd there is left in them, and makes them no words.
func values(s string) []string {
	if s == "" {
		return nil
	}
	inner, opened := strings.CutPrefix(s, "(")
	inner, closed := strings.CutSuffix(inner, ")")
	if !opened || !closed {
		return []string{s}
	}
	// one value too many is enough to see, however long the text is
	return strings.SplitN(inner, ",", mostValues+1)
}

// Show is a term as text.
func Show(t Term) string {
	if !Right(t) {
		return ""
	}
	sign := "="
	if t.Not {
		sign = "!="
	}
	list := strings.Join(t.Values, ",")
	if len(t.Values) > 1 {
		list = "(" + list + ")"
	}
	return t.Name + sign + list
}

// All is texts' terms.
func All(l []string) ([]Term, api.Errno) {
	if len(l) > mostTexts {
		return nil, api.ErrForm
	}
	var all []Term
	for _, s := range l {
		t, e := Parse(s)
		if e != api.OK {
			return nil, e
		}
		all = append(all, t)
	}
	if !slices.ContainsFunc(all, picks) {
		return nil, api.ErrForm
	}
	return all, api.OK
}
