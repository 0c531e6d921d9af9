package filter_test

import (
	"slices"
	"strconv"
	"strings"
	"testing"

	"tachograph/api"
	"tachograph/filter"
)

// specials is the bytes that no word has.
const specials = "=!(),"

// is is a term that is not Not.
func is(name string, values ...string) filter.Term {
	return filter.Term{Name: name, Values: values}
}

// not is a term that is Not.
func not(name string, values ...string) filter.Term {
	return filter.Term{Name: name, Not: true, Values: values}
}

// say is terms to be read: the names and values quoted, cut off where they are long.
func say(l ...filter.Term) string {
	var told []string
	for _, x := range l {
		sign := " is "
		if x.Not {
			sign = " is not "
		}
		values := make([]string, len(x.Values))
		for i, v := range x.Values {
			values[i] = strconv.QuoteToASCII(v)
		}
		told = append(told, strconv.QuoteToASCII(x.Name)+sign+"["+strings.Join(values, " ")+"]")
	}
	s := "{" + strings.Join(told, "; ") + "}"
	return s[:min(len(s), 300)]
}

// other is the Not of a term.
func other(t filter.Term) filter.Term {
	t.Not = !t.Not
	return t
}

// isWord is what the chapter's words say of a word.
func isWord(s string) bool {
	for i := range len(s) {
		switch s[i] {
		case '=', '!', '(', ')', ',':
			return false
		}
	}
	return len(s) > 0 && len(s) < 65
}

// isRight is what they say of a term that is right.
func isRight(t filter.Term) bool {
	for _, s := range append([]string{t.Name}, t.Values...) {
		if !isWord(s) {
			return false
		}
	}
	return len(t.Values) < 17
}

// text is a term's text, as the chapter's words have it.
func text(t filter.Term) string {
	s := t.Name
	if t.Not {
		s += "!"
	}
	s += "="
	if len(t.Values) == 1 {
		return s + t.Values[0]
	}
	for i, v := range t.Values {
		if i == 0 {
			s += "(" + v
		} else {
			s += "," + v
		}
	}
	if len(t.Values) > 0 {
		s += ")"
	}
	return s
}

// matches is what they say of labels that match.
func matches(t filter.Term, l []api.Label) bool {
	for _, one := range l {
		if one.Name != t.Name {
			continue
		}
		if len(t.Values) == 0 {
			return t.Not
		}
		for _, v := range t.Values {
			if v == one.Value {
				return !t.Not
			}
		}
		return t.Not
	}
	if len(t.Values) == 0 {
		return !t.Not
	}
	return t.Not
}

// alike tells whether two terms are, value for value.
func alike(a, b filter.Term) bool {
	return a.Name == b.Name && a.Not == b.Not && slices.Equal(a.Values, b.Values)
}

// fill is bytes that words may have, of each kind: letters, blanks, control bytes, runes, and texts that are no UTF-8.
func fill() []string {
	return []string{"a", "Z9_", " ", "\x00", "\x1f\r\n", "\x7f", "\x80", "\xff", "é", "\xf0\x9f\x98\x80", "\xe2\x82", "\xc3x", "\xbd\xa1\xa8", "\u3000", "#&*<>[]{}\"'"}
}

// lengths is texts of so many bytes, each of another kind of bytes.
func lengths(many int) []string {
	var l []string
	for _, s := range fill() {
		l = append(l, strings.Repeat(s, many/len(s)+1)[:many])
	}
	return l
}

// words is words of all kinds: of one byte, of two, of 63 and of 64.
func words() []string {
	var l []string
	for _, many := range []int{1, 2, 3, 63, 64} {
		l = append(l, lengths(many)...)
	}
	return l
}

// noWords is texts that are none: of no byte, of 65 and more, with each of the bytes that none has, wherever it stands.
func noWords() []string {
	l := []string{"", strings.Repeat("a", 60) + "=(b)"}
	for _, many := range []int{65, 66, 128, 1000} {
		l = append(l, lengths(many)...)
	}
	for i := range len(specials) {
		c := specials[i : i+1]
		l = append(l, c, c+c, c+"a", "a"+c, "a"+c+"b", "ab"+c+"cd", "\xe2"+c, c+"\xff", "é"+c+"é")
		for at := range 64 { // short and long ones are not gone over in the same way
			whole := strings.Repeat("a", 63)
			l = append(l, whole[:at]+c+whole[at:])
		}
	}
	return l
}

// numbered is so many values that differ.
func numbered(many int) []string {
	var l []string
	for i := range many {
		l = append(l, "v"+strconv.Itoa(i))
	}
	return l
}

// P10.1

// checkWord holds what Word tells against what it must.
func checkWord(t *testing.T, s string, want bool) {
	t.Helper()
	if filter.Word(s) != want {
		t.Errorf("Word of %d bytes, %.80q: %v", len(s), s, !want)
	}
}

func TestWordOfEachLength(t *testing.T) {
	for many := range 400 {
		for _, s := range lengths(many) {
			checkWord(t, s, many >= 1 && many <= 64)
		}
	}
	checkWord(t, strings.Repeat("a", 1<<16), false)
	checkWord(t, strings.Repeat("a", 1<<16+1), false)
	checkWord(t, strings.Repeat("é", 32), true) // bytes, not runes
	checkWord(t, strings.Repeat("é", 33), false)
}

func TestWordOfEachByte(t *testing.T) {
	for b := range 256 {
		one := string([]byte{byte(b)})
		want := !strings.Contains(specials, one)
		checkWord(t, one, want)
		for at := range 64 {
			whole := strings.Repeat("k", 63)
			checkWord(t, whole[:at]+one+whole[at:], want)
		}
		checkWord(t, "\xe2"+one, want) // a byte that would begin a rune of more
		checkWord(t, one+"\xe2\x82", want)
		checkWord(t, "é"+one+"é", want)
	}
}

func TestWordOfRunesThatLookAlike(t *testing.T) {
	for _, s := range []string{"\uff1d", "\uff01", "\uff08", "\uff09", "\uff0c", "\u2260", "\u013d", "\xc0\xbd", "\xc0\xa1"} { // the last ones are = and ! by a longer way than UTF-8 allows
		checkWord(t, s, true)
		checkWord(t, "a"+s+"b", true)
	}
}

// checkRight holds what Right and Show tell against what they must.
func checkRight(t *testing.T, x filter.Term, want bool) {
	t.Helper()
	for _, one := range []filter.Term{x, other(x)} {
		shown := ""
		if want {
			shown = text(one)
		}
		if filter.Right(one) != want {
			t.Errorf("Right of %s: %v", say(one), !want)
		}
		if got := filter.Show(one); got != shown {
			t.Errorf("Show of %s: %.200q, want %.200q", say(one), got, shown)
		}
	}
}

func TestRightByTheName(t *testing.T) {
	for _, values := range [][]string{nil, {}, {"1"}, {"1", "2"}, numbered(16)} {
		for _, s := range words() {
			checkRight(t, is(s, values...), true)
		}
		for _, s := range noWords() {
			checkRight(t, is(s, values...), false)
		}
	}
	checkRight(t, filter.Term{}, false)
}

func TestRightByTheNumberOfValues(t *testing.T) {
	for many := range 40 {
		checkRight(t, is("a", numbered(many)...), many <= 16)
		checkRight(t, is("a", slices.Repeat([]string{"v"}, many)...), many <= 16) // the same one counts each time
	}
	checkRight(t, is("a", numbered(1000)...), false)
	checkRight(t, is("a", make([]string, 16)...), false)
	checkRight(t, is("a", make([]string, 17)...), false)
}

func TestRightByTheValues(t *testing.T) {
	for many := 1; many <= 16; many++ {
		for at := range many {
			for _, s := range words() {
				l := numbered(many)
				l[at] = s
				checkRight(t, is("a", l...), true)
			}
			for _, s := range noWords() {
				l := numbered(many)
				l[at] = s
				checkRight(t, is("a", l...), false)
			}
		}
	}
}

func TestRightOfTheSameValueTwice(t *testing.T) {
	checkRight(t, is("a", "b", "b"), true)
	checkRight(t, is("a", "a", "a"), true) // nor need it differ from the name
	for many := 2; many <= 16; many++ {
		for i := range many {
			for j := range i {
				l := numbered(many)
				l[i] = l[j]
				checkRight(t, is("a", l...), true)
			}
		}
	}
}

func TestShow(t *testing.T) {
	for _, c := range []struct {
		x    filter.Term
		want string
	}{
		{is("a"), "a="},
		{not("a"), "a!="},
		{filter.Term{Name: "a", Values: []string{}}, "a="},
		{is("a", "b"), "a=b"},
		{not("a", "b"), "a!=b"},
		{is("a", "b", "c"), "a=(b,c)"},
		{not("a", "b", "c"), "a!=(b,c)"},
		{is("a", "c", "b"), "a=(c,b)"}, // as they stand
		{is("a", "b", "b"), "a=(b,b)"},
		{not("room no", " ", "\x00", "é", "\xff"), "room no!=( ,\x00,é,\xff)"},
		{is("a", "1", "2", "3", "4", "5", "6", "7", "8", "9", "10", "11", "12", "13", "14", "15", "16"), "a=(1,2,3,4,5,6,7,8,9,10,11,12,13,14,15,16)"},
		{is("a", "1", "2", "3", "4", "5", "6", "7", "8", "9", "10", "11", "12", "13", "14", "15", "16", "17"), ""},
		{is(""), ""},
		{is("", "b"), ""},
		{is("a", ""), ""},
		{is("a", "b", ""), ""},
		{is("a", "", "b"), ""},
		{is("a", "(b)"), ""},
		{is("a", "b,c"), ""},
		{is("a!"), ""},
		{is("a=b"), ""},
	} {
		if got := filter.Show(c.x); got != c.want {
			t.Errorf("Show of %s: %q, want %q", say(c.x), got, c.want)
		}
	}
}

func TestSame(t *testing.T) {
	terms := func() []filter.Term { // those of each call share no memory
		return []filter.Term{
			{}, not(""), is("", ""), is("", "a"),
			is("a"), not("a"), is("b"), not("b"), is("A"), is("aa"), is("é"), is("a\x00"), is("a!"), is("a="),
			is("a", "1"), not("a", "1"), is("b", "1"), is("a", "2"), is("1", "a"), is("a", ""), not("a", ""), is("a", "1,2"), is("a", "(1,2)"),
			is("a", "1", "2"), not("a", "1", "2"), is("a", "2", "1"), is("a", "1", "1"), is("a", "1", "3"), is("a", "3", "2"), is("b", "1", "2"), is("a", "12"), is("a", "12", ""), is("a", "", "12"),
			is("a", "1", "2", "3"), is("a", "2", "3", "1"), is("a", "1", "2", "2"), is("a", "1", "1", "2"), is("a", "1", "", "3"), not("a", "1", "2", "3"),
			is("a", numbered(16)...), is("a", numbered(17)...), is("a", numbered(1000)...), not("a", numbered(1000)...),
		}
	}
	for i, a := range terms() {
		for j, b := range terms() {
			if filter.Same(a, b) != (i == j) {
				t.Errorf("Same of %s: %v", say(a, b), i != j)
			}
		}
	}
	for _, x := range []filter.Term{is("a"), not("a")} {
		empty := filter.Term{Name: x.Name, Not: x.Not, Values: []string{}}
		if !filter.Same(x, empty) || !filter.Same(empty, x) {
			t.Error("a list of none is one that is nil")
		}
	}
}

func TestSameOfEachValue(t *testing.T) {
	for many := 1; many <= 17; many++ {
		a := is("a", numbered(many)...)
		for at := range many {
			l := numbered(many)
			l[at] += "x"
			b := is("a", l...)
			if filter.Same(a, b) || filter.Same(b, a) {
				t.Errorf("Same of %s", say(a, b))
			}
			b = is("a", slices.Delete(l, at, at+1)...)
			if filter.Same(a, b) || filter.Same(b, a) {
				t.Errorf("Same of %s", say(a, b))
			}
		}
	}
}

// P10.4

// of is the labels of a text: name=value, and a blank ahead of the next one.
func of(s string) []api.Label {
	var l []api.Label
	for _, w := range strings.Fields(s) {
		name, value, _ := strings.Cut(w, "=")
		l = append(l, api.Label{Name: name, Value: value})
	}
	return l
}

// checkMatch holds what Match tells of a term against what it must, and of its Not.
func checkMatch(t *testing.T, x filter.Term, l []api.Label, want bool) {
	t.Helper()
	if filter.Match(x, l) != want {
		t.Errorf("Match of %s and %.200q: %v", say(x), l, !want)
	}
	if filter.Match(other(x), l) == want {
		t.Errorf("Match of %s and %.200q: %v", say(other(x)), l, want)
	}
}

func TestMatch(t *testing.T) {
	for _, c := range []struct {
		l string
		x filter.Term
		// of x, that is not Not
		want bool
	}{
		{"", is("a"), true}, // no labels
		{"", is("a", "1"), false},
		{"", is("a", "1", "2"), false},
		{"a=1", is("a"), false},
		{"a=1", is("b"), true},
		{"a=1", is("a", "1"), true},
		{"a=1", is("a", "2"), false},
		{"a=1", is("b", "1"), false}, // the value of another name
		{"a=1", is("1", "a"), false},
		{"a=1", is("1"), true},
		{"a=1", is("A"), true},
		{"a=1", is("aa"), true},
		{"aa=1", is("a"), true},
		{"a=x", is("a", "X"), false},
		{"a=1", is("a", "11"), false},
		{"a=11", is("a", "1"), false},
		{"a=1", is("a", "1", "2"), true},
		{"a=2", is("a", "1", "2"), true},
		{"a=3", is("a", "1", "2"), false},
		{"a=2", is("a", "1", "2", "3"), true},
		{"a=1", is("a", "1", "1"), true},
		{"a=2", is("a", "1", "1"), false},
		{"a=1 b=2", is("a", "1"), true},
		{"b=2 a=1", is("a", "1"), true},
		{"b=2 a=1", is("a", "2"), false},
		{"b=2 a=1", is("a"), false},
		{"b=2 c=1", is("a"), true},
		{"b=2 c=1", is("a", "1", "2"), false},
		{"b=1 c=2 d=3 e=4 f=5 g=6 h=7 a=8", is("a", "8"), true},
		{"b=1 c=2 d=3 e=4 f=5 g=6 h=7 a=8", is("a", "7"), false},
		{"b=1 c=2 d=3 e=4 f=5 g=6 h=7 a=8", is("a"), false},
		{"a=1 a=2", is("a", "1"), true}, // the first one counts
		{"a=1 a=2", is("a", "2"), false},
		{"a=2 a=1", is("a", "1"), false},
		{"a=1 a=2", is("a", "1", "2"), true},
		{"a=3 a=2", is("a", "1", "2"), false},
		{"a=1 a=2", is("a"), false},
		{"b=1 a=2 b=2 a=1", is("a", "2"), true},
		{"b=1 a=2 b=2 a=1", is("b", "2"), false},
		{"a=", is("a"), false}, // labels that no key has
		{"a=", is("a", ""), true},
		{"=1", is("a"), true},
		{"=1", is("", "1"), true},
	} {
		checkMatch(t, c.x, of(c.l), c.want)
	}
}

// rows is all rows of at most so many labels out of some.
func rows(l []api.Label, most int) [][]api.Label {
	all := [][]api.Label{nil}
	from := 0
	for range most {
		to := len(all)
		for _, row := range all[from:to] {
			for _, one := range l {
				all = append(all, append(slices.Clone(row), one))
			}
		}
		from = to
	}
	return all
}

// lists is all lists of at most so many values out of some.
func lists(l []string, most int) [][]string {
	all := [][]string{nil}
	from := 0
	for range most {
		to := len(all)
		for _, list := range all[from:to] {
			for _, one := range l {
				all = append(all, append(slices.Clone(list), one))
			}
		}
		from = to
	}
	return all
}

func TestMatchOfAllShortRows(t *testing.T) {
	for _, name := range []string{"a", "b", "1", ""} {
		for _, values := range lists([]string{"1", "2", ""}, 3) {
			for _, l := range rows(of("a=1 a=2 b=1 b=3 =1 c="), 3) {
				checkMatch(t, is(name, values...), l, matches(is(name, values...), l))
			}
		}
	}
}

func TestMatchOfEachPlace(t *testing.T) {
	for many := 1; many <= 20; many++ { // also more than a right term has
		values := numbered(many)
		for _, v := range values {
			checkMatch(t, is("a", values...), []api.Label{{Name: "b", Value: "x"}, {Name: "a", Value: v}}, true)
			checkMatch(t, is("a", values...), []api.Label{{Name: "a", Value: "x"}, {Name: "a", Value: v}}, false)
			checkMatch(t, is("a", values...), []api.Label{{Name: "b", Value: v}}, false)
		}
		var l []api.Label
		for i := range many {
			l = append(l, api.Label{Name: "n" + strconv.Itoa(i), Value: values[i]})
		}
		for i, one := range l {
			checkMatch(t, is(one.Name), l, false)
			checkMatch(t, is(one.Name, one.Value), l, true)
			checkMatch(t, is(one.Name, values[:i]...), l, false)
			checkMatch(t, is(one.Name, values[:i+1]...), l, true)
		}
	}
}

// TestMatchOfTextsOfAnyKind: bytes alone count, also in terms that are not right.
func TestMatchOfTextsOfAnyKind(t *testing.T) {
	texts := append(words(), noWords()[:100]...)
	for i, s := range texts {
		for _, u := range texts[i/2 : min(i/2+20, len(texts))] {
			l := []api.Label{{Name: "x", Value: s}, {Name: s, Value: u}}
			for _, x := range []filter.Term{is(s), is(s, u), is(u), is(u, s), is("x", s), is("x", u), is("x", "y", u), is(s, s)} {
				checkMatch(t, x, l, matches(x, l))
			}
		}
	}
}
