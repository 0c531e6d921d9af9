package filter_test

import (
	"slices"
	"strings"
	"testing"

	"tachograph/api"
	"tachograph/filter"
)

// P10.2

// reads is the term of a text, and whether there is one: of all that it could be, the one that is right and whose text it is.
func reads(s string) (filter.Term, bool) {
	for i := range len(s) {
		if s[i] != '=' {
			continue
		}
		for _, x := range couldBe(s[:i], s[i+1:]) {
			if isRight(x) && text(x) == s {
				return x, true
			}
		}
		if x, ok := inBrackets(s[:i], s[i+1:]); ok {
			return x, true
		}
	}
	return filter.Term{}, false
}

// couldBe is terms, right or not, of what stands ahead of a sign and behind it.
func couldBe(name, rest string) []filter.Term {
	var all []filter.Term
	for _, values := range [][]string{nil, {rest}, strings.Split(strings.Trim(rest, "()"), ",")} {
		all = append(all, is(name, values...), not(strings.TrimSuffix(name, "!"), values...))
	}
	return all
}

// inBrackets is the term of one value in brackets.
func inBrackets(name, rest string) (filter.Term, bool) {
	if len(rest) < 3 || rest[0] != '(' || rest[len(rest)-1] != ')' {
		return filter.Term{}, false
	}
	x := is(name, rest[1:len(rest)-1])
	if strings.HasSuffix(name, "!") {
		x = not(name[:len(name)-1], x.Values...)
	}
	return x, isRight(x)
}

// checkParse holds what Parse tells of a text against a term.
func checkParse(t *testing.T, s string, want filter.Term) {
	t.Helper()
	if got, e := filter.Parse(s); e != api.OK || !alike(got, want) {
		t.Errorf("Parse of %.200q: %s, %d; want %s", s, say(got), e, say(want))
	}
}

// checkNoTerm holds what Parse tells of a text that none has.
func checkNoTerm(t *testing.T, s string) {
	t.Helper()
	if got, e := filter.Parse(s); e != api.ErrForm || got.Name != "" || got.Not || len(got.Values) != 0 {
		t.Errorf("Parse of %.200q: %s, %d; want %d", s, say(got), e, api.ErrForm)
	}
}

// checkText holds what Parse tells of a text against what the chapter's words say.
func checkText(t *testing.T, s string) {
	t.Helper()
	if want, ok := reads(s); ok {
		checkParse(t, s, want)
	} else {
		checkNoTerm(t, s)
	}
}

func TestParse(t *testing.T) {
	for _, c := range []struct {
		s    string
		want filter.Term
	}{
		{"room=(1,2)", is("room", "1", "2")}, // the chapter's own
		{"a!=", not("a")},
		{"a=", is("a")},
		{"a=b", is("a", "b")},
		{"a!=b", not("a", "b")},
		{"a=(b)", is("a", "b")},
		{"a!=(b)", not("a", "b")},
		{"a=(b,c)", is("a", "b", "c")},
		{"a!=(b,c)", not("a", "b", "c")},
		{"a=(c,b)", is("a", "c", "b")},
		{"a=(b,b)", is("a", "b", "b")},
		{"a=(b,c,b)", is("a", "b", "c", "b")},
		{" = ", is(" ", " ")}, // blanks are bytes as others are
		{"a = b", is("a ", " b")},
		{"a !=(b, c )", not("a ", "b", " c ")},
		{"\x00=\xff", is("\x00", "\xff")},
		{"é!=(\xe2\x82,\x80)", not("é", "\xe2\x82", "\x80")},
		{"\xe2=\x82", is("\xe2", "\x82")},
		{"a=\r\n", is("a", "\r\n")},
		{"NOT=(And,or)", is("NOT", "And", "or")},
	} {
		checkParse(t, c.s, c.want)
		checkText(t, c.s)
	}
}

func TestParseOfWhatIsNone(t *testing.T) {
	for _, s := range []string{
		"", "a", "abc", " ", "a(b)", "(a)", "a,b", "\xff", "é", // without =
		"!", "a!", "a!b", "!a", "a!(b)", "a!!", // a lone !
		"=", "!=", "=b", "!=b", "=(b)", "!=(b,c)", "=()", // an empty name
		"==", "a==", "a==b", "a=b=", "a=b=c", "a=(b=c)", "a=(b,c=d)", "a=b,c=d", "a=(b)=", "a=(b)=(c)", "a=b!=c", "a!=b=c", "a!==b", "a!=!=b", "a=!=b", // more than one
		"a!!=b", "a!!=", "!a=b", "!a!=b", "a!b=c", "!!=b", "a=!", "a=!b", "a=b!", "a=b!c", "a!=!b", "a!=b!", "a!=!", "a=(!b)", "a=(b!,c)", "a=!(b)", "a=(b)!", "a! =b", "a!=(!)",
		"a=(", "a=((", "a=(b", "a=(b,c", "a!=(b", "a=(b,", // not closed
		"a=)", "a=b)", "a=b,c)", "a!=b)", "a=))", "a=,)", // not opened
		"a=()", "a!=()", "a=(())", "a=()()", // empty
		"a=((b))", "a=((b)", "a=(b))", "a=((b),c)", "a=(b,(c))", "a=(b(c))", "a=(b(c)", "a=(b)c)", "a=((b,c))", "a!=((b,c))", "a=(b,()c)", // inside one another
		"a=(b)c", "a=(b) ", "a=(b),", "a=(b),c", "a=(b)(c)", "a=(b,c)d", "a!=(b,c),(d)", "a=x(b)", "a= (b)", "a=b(", "a=b()", "a=b(c)", "a=(b)\x00", // followed by something, or behind something
		"a=,", "a=,b", "a=b,", "a=b,c", "a!=b,c", "a=,b,", // a comma without brackets
		"a=(,)", "a=(,b)", "a=(b,)", "a=(,b,c)", "a=(b,c,)", "a=(b,,c)", "a=(,,)", "a=(b,c,,d)", "a!=(,b)", "a!=(b,)", "a!=(b,,c)",
		"a,b=c", ",a=b", "a,=b", "(a)=b", "(a=b)", "(a=b", "a(=b", ")a=b", "a)=b", "(a,b)=c", "(=)", "(a!=b)", "a=b a=(", "(a)=(b)",
	} {
		checkNoTerm(t, s)
		checkText(t, s)
	}
}

// TestParseOfAllShortTexts: of each text of a few bytes, those that are special among them.
func TestParseOfAllShortTexts(t *testing.T) {
	for _, c := range []struct {
		bytes string
		most  int
	}{{"ab" + specials, 6}, {"a" + specials, 7}, {"a=!", 9}, {"a=(,)", 7}} {
		row := []string{""}
		for range c.most + 1 {
			var next []string
			for _, s := range row {
				checkText(t, s)
				for i := range len(c.bytes) {
					next = append(next, s+c.bytes[i:i+1])
				}
			}
			row = next
		}
	}
}

// some is terms of many kinds, all of them right.
func some() []filter.Term {
	l := []filter.Term{is("a"), is("a", "b"), is("a", "b", "c"), is("a", "b", "b"), is("ab", "cd", "ef", "gh"), is("room no", " ", "\x00"), is("é", "\xff", "\xe2\x82", "\x80"), is("a", numbered(15)...), is("a", numbered(16)...)}
	for i, s := range words() {
		l = append(l, is(s), is(s, s), is(s, "x", s), is("x", s, s, s), is("x", slices.Repeat([]string{s}, i%16+1)...))
	}
	for _, x := range slices.Clone(l) {
		l = append(l, other(x))
	}
	return l
}

// TestParseOfWhatIsShown: Parse tells the term that Show was handed.
func TestParseOfWhatIsShown(t *testing.T) {
	for _, x := range some() {
		s := filter.Show(x)
		checkParse(t, s, x)
		if got, _ := filter.Parse(s); !filter.Same(got, x) || filter.Show(got) != s || !filter.Right(got) {
			t.Errorf("Parse of %q: %s", s, say(got))
		}
	}
}

// TestParseOfTextsThatAreTurned: with a byte more, one less, and another one, in each place.
func TestParseOfTextsThatAreTurned(t *testing.T) {
	for _, x := range some()[:9] {
		for _, x := range []filter.Term{x, other(x)} {
			s := text(x)
			checkText(t, s)
			for at := range len(s) + 1 {
				for _, c := range []string{"=", "!", "(", ")", ",", "b", " ", "\x00", "\xff", "!=", "()", "),("} {
					checkText(t, s[:at]+c+s[at:])
					if at < len(s) {
						checkText(t, s[:at]+c+s[at+1:])
					}
				}
				checkText(t, s[:at])
				checkText(t, s[at:])
				checkText(t, s[:at]+s[min(at+1, len(s)):])
			}
		}
	}
}

// TestParseOfOneValueInBrackets: it is the term with this one value.
func TestParseOfOneValueInBrackets(t *testing.T) {
	for _, s := range words() {
		checkParse(t, "a=("+s+")", is("a", s))
		checkParse(t, "a!=("+s+")", not("a", s))
		checkParse(t, s+"=("+s+")", is(s, s))
		checkParse(t, s+"!=("+s+")", not(s, s))
	}
	for _, s := range noWords() {
		if strings.Contains(s, ",") { // more than one
			continue
		}
		checkNoTerm(t, "a=("+s+")")
		checkNoTerm(t, "a!=("+s+")")
		checkText(t, s+"=(b)") // a ! at its end is of the sign
	}
}

func TestParseByLength(t *testing.T) {
	for many := range 140 {
		for _, s := range lengths(many) {
			for _, u := range []string{s + "=", s + "!=", s + "=1", s + "!=1", s + "=(1,2)"} {
				checkText(t, u)
			}
			for at := range 4 {
				l := []string{"1", "2", "3", "4"}
				l[at] = s
				checkText(t, "a=("+strings.Join(l, ",")+")")
				checkText(t, "a!=("+strings.Join(l, ",")+")")
			}
			checkText(t, "a="+s)
			checkText(t, "a!=("+s+")")
		}
	}
	long := strings.Repeat("k", 64)
	checkParse(t, long+"="+long, is(long, long))
	checkNoTerm(t, long+"k="+long)
	checkNoTerm(t, long+"="+long+"k")
	checkNoTerm(t, long+"k=")
	checkNoTerm(t, long+"k!=")
	checkParse(t, long+"!=", not(long)) // the sign is none of the name
}

func TestParseByTheNumberOfValues(t *testing.T) {
	for _, name := range []string{"a=", "a!="} {
		for many := 2; many < 40; many++ {
			for _, l := range [][]string{numbered(many), slices.Repeat([]string{"v"}, many)} {
				s := name + "(" + strings.Join(l, ",") + ")"
				if many > 16 {
					checkNoTerm(t, s)
				} else {
					checkParse(t, s, filter.Term{Name: "a", Not: name == "a!=", Values: l})
				}
				checkNoTerm(t, name+strings.Join(l, ","))
				checkNoTerm(t, s[:len(s)-1])
				checkNoTerm(t, s[:len(s)-1]+",)")
			}
		}
	}
}

func TestParseOfLongTexts(t *testing.T) {
	for _, c := range fill() {
		for _, s := range []string{"", "a", "a=", "a!=", "a=(", "a=(b,"} {
			checkNoTerm(t, s+strings.Repeat(c, 1<<16))
			checkNoTerm(t, s+strings.Repeat(c, 1<<16)+")")
		}
	}
	for i := range len(specials) {
		long := strings.Repeat(specials[i:i+1], 1<<20)
		for _, s := range []string{"", "a", "a=", "a!=", "a=(", "a=(b,"} {
			checkNoTerm(t, s+long)
			checkNoTerm(t, s+long+")")
		}
	}
	checkNoTerm(t, "a=("+strings.Repeat("b,", 1<<20)+"b)")
	checkNoTerm(t, strings.Repeat("a=b ", 1<<18))
}

// P10.3

// checkAll holds what All tells of texts against what the chapter's words say.
func checkAll(t *testing.T, l []string) {
	t.Helper()
	var want []filter.Term
	wrong, picked := len(l) > 16, false
	for _, s := range l {
		x, ok := reads(s)
		want = append(want, x)
		wrong = wrong || !ok
		picked = picked || ok && !x.Not && len(x.Values) > 0
	}
	got, e := filter.All(l)
	if wrong || !picked {
		if e != api.ErrForm || len(got) != 0 {
			t.Errorf("All of %.300q: %s, %d; want %d", l, say(got...), e, api.ErrForm)
		}
		return
	}
	if e != api.OK || !slices.EqualFunc(got, want, alike) {
		t.Errorf("All of %.300q: %s, %d; want %s", l, say(got...), e, say(want...))
	}
}

// checkNone holds what All tells of texts that are not to be.
func checkNone(t *testing.T, l []string) {
	t.Helper()
	if got, e := filter.All(l); e != api.ErrForm || len(got) != 0 {
		t.Errorf("All of %.300q: %s, %d; want %d", l, say(got...), e, api.ErrForm)
	}
}

func TestAll(t *testing.T) {
	l := []string{"a!=1", "room=(1,2)", "kind=", "a!=", "b=(c)", "a!=1"}
	want := []filter.Term{not("a", "1"), is("room", "1", "2"), is("kind"), not("a"), is("b", "c"), not("a", "1")}
	if got, e := filter.All(l); e != api.OK || !slices.EqualFunc(got, want, alike) {
		t.Errorf("All of %q: %s, %d", l, say(got...), e)
	}
	checkNone(t, nil)
	checkNone(t, []string{})
	checkNone(t, []string{""})
}

// TestAllOfAllShortLists: of right texts and wrong ones, of terms that pick and that don't.
func TestAllOfAllShortLists(t *testing.T) {
	for _, l := range lists([]string{"a=1", "a=(1)", "b=(1,2)", "a=", "a!=", "a!=1", "b!=(1,2)", "a", "", "a=()"}, 4) {
		checkAll(t, l)
	}
}

func TestAllByTheNumber(t *testing.T) {
	for many := range 40 {
		for _, s := range []string{"a=1", "a=(1,2)", "a=", "a!=1", "a!=", "a"} {
			checkAll(t, slices.Repeat([]string{s}, many))
			for at := range many { // the one that picks, or that is wrong, in each place
				for _, one := range []string{"b=2", "b=(2,3)", "b=", "b!=", "b!=2", "b=()", "b", ""} {
					l := slices.Repeat([]string{s}, many)
					l[at] = one
					checkAll(t, l)
				}
			}
		}
	}
	checkNone(t, slices.Repeat([]string{"a=1"}, 17))
	checkNone(t, slices.Repeat([]string{"a=1"}, 1000))
	if l, e := filter.All(slices.Repeat([]string{"a=1"}, 16)); e != api.OK || len(l) != 16 {
		t.Error(l, e)
	}
}

func TestAllOfTermsThatDoNotPick(t *testing.T) {
	for _, l := range [][]string{{"a!=1"}, {"a!=(1,2)"}, {"a!="}, {"a="}, {"a!=1", "b!=2"}, {"a=", "b="}, {"a!=", "b=", "c!=1", "d!=(1,2)"}} {
		checkNone(t, l)
		for at := range len(l) + 1 {
			checkAll(t, slices.Insert(slices.Clone(l), at, "x=1"))
			checkAll(t, slices.Insert(slices.Clone(l), at, "x=(1,2)"))
			if _, e := filter.All(slices.Insert(slices.Clone(l), at, "x=1")); e != api.OK {
				t.Errorf("All of %q with x=1: %d", l, e)
			}
		}
	}
}

func TestAllOfATextThatIsNone(t *testing.T) {
	for _, s := range []string{"", "a", "=", "=1", "a==1", "a=1=2", "a=!1", "!a=1", "a=(", "a=()", "a=(1", "a=1)", "a=(1,)", "a=1,2", "a=((1))", strings.Repeat("k", 65) + "=1", "a=(" + strings.Join(numbered(17), ",") + ")"} {
		checkNone(t, []string{s})
		for many := 2; many <= 16; many++ {
			for at := range many {
				l := slices.Repeat([]string{"a=1"}, many)
				l[at] = s
				checkNone(t, l)
			}
		}
	}
}
