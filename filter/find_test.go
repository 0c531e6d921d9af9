package filter_test

import (
	"slices"
	"strconv"
	"strings"
	"testing"

	"tachograph/api"
	"tachograph/filter"
	"tachograph/index"
)

// entry is a key with its labels.
type entry struct {
	key string
	l   []api.Label
}

// pile is what an index has: keys with their labels.
type pile []entry

// without is a pile without a key.
func (p pile) without(key string) pile {
	return slices.DeleteFunc(slices.Clone(p), func(e entry) bool { return e.key == key })
}

// with is a pile with a key that has just these labels.
func (p pile) with(key string, l []api.Label) pile {
	return append(p.without(key), entry{key, l})
}

// found is the keys that all terms match, as the chapter's words have it.
func (p pile) found(l []filter.Term) []string {
	var all []string
	for _, e := range p {
		ok := true
		for _, x := range l {
			ok = ok && matches(x, e.l)
		}
		if ok {
			all = append(all, e.key)
		}
	}
	slices.Sort(all)
	return all
}

// index is an index of a pile.
func (p pile) index() *index.Index {
	x := index.New()
	for _, e := range p {
		x.Set(e.key, e.l)
	}
	return x
}

// checkFind holds keys that are found against those that must be.
func checkFind(t *testing.T, x *index.Index, l []filter.Term, want []string) {
	t.Helper()
	if got := filter.Find(x, l); !slices.Equal(got, want) {
		t.Errorf("Find of %s: %.300q, want %.300q", say(l...), got, want)
	}
}

// rooms is a pile of a few keys, with labels of few names.
func rooms() pile {
	return pile{
		{"g", of("a=1 b=1")}, {"p", of("a=1 b=2 c=1")}, {"q", of("a=2")}, {"r", of("b=2")}, {"s", nil}, {"e", of("a=3 c=2")},
		{"k", of("c=1 a=2 b=1")}, {"\xff", of("a=1")}, {"a", of("b=a a=b")}, {"\x00", of("c=1")}, {"1", of("1=a")}, {"aa", of("b=3")},
	}
}

// terms is terms on a few names, Not and not, of no values, of one and of more.
func terms() []filter.Term {
	var l []filter.Term
	for _, name := range []string{"a", "b", "z"} {
		for _, values := range [][]string{nil, {"1"}, {"2", "1"}, {"4"}} {
			l = append(l, is(name, values...), not(name, values...))
		}
	}
	return l
}

// P10.5

func TestFind(t *testing.T) {
	p := pile{{"p", of("a=1 b=1")}, {"q", of("a=2")}, {"r", of("b=2")}, {"s", nil}}
	x := p.index()
	for _, c := range []struct{ terms, want string }{
		{"", "p q r s"}, // all keys
		{"a=1", "p"},
		{"a!=1", "q r s"},
		{"a=", "r s"},
		{"a!=", "p q"}, // the chapter's own
		{"a=(1,2)", "p q"},
		{"a=(2,1)", "p q"},
		{"a=(1,1)", "p"},
		{"a!=(1,2)", "r s"},
		{"a=3", ""},
		{"a!=3", "p q r s"},
		{"a=(3,2)", "q"},
		{"c=", "p q r s"},
		{"c!=", ""},
		{"c=1", ""},
		{"c!=1", "p q r s"},
		{"a=(1,2) b=", "q"},
		{"b= a=(1,2)", "q"},
		{"a=(1,2) b!=", "p"},
		{"a!=1 b!=2", "q s"},
		{"a= b=", "s"},
		{"a!= b!=", "p"},
		{"a=1 a=2", ""},
		{"a=1 a!=1", ""},
		{"a= a!=", ""},
		{"a=1 a=1", "p"},
		{"a=1 b=1", "p"},
		{"a=1 b=2", ""},
		{"a=(1,2) a=(2,3)", "q"},
		{"a!=1 a=(1,2)", "q"},
		{"1=a", ""},
		{"p=", "p q r s"},
	} {
		var l []filter.Term
		for _, s := range strings.Fields(c.terms) {
			one, e := filter.Parse(s)
			if e != api.OK {
				t.Fatal(s, e)
			}
			l = append(l, one)
		}
		checkFind(t, x, l, strings.Fields(c.want))
		checkFind(t, x, l, p.found(l))
	}
}

func TestFindOfNilAndOfNoKeys(t *testing.T) {
	for _, x := range []*index.Index{nil, index.New(), (*index.Index)(nil).Copy(), index.New().Copy()} {
		checkFind(t, x, nil, nil)
		checkFind(t, x, []filter.Term{}, nil)
		for _, a := range terms() {
			checkFind(t, x, []filter.Term{a}, nil)
			for _, b := range terms() {
				checkFind(t, x, []filter.Term{a, b}, nil)
			}
		}
	}
}

// TestFindOfAllShortLists: of each row of at most three terms out of some.
func TestFindOfAllShortLists(t *testing.T) {
	p, all := rooms(), terms()
	x := p.index()
	checkFind(t, x, nil, p.found(nil))
	for _, a := range all {
		checkFind(t, x, []filter.Term{a}, p.found([]filter.Term{a}))
		for _, b := range all {
			checkFind(t, x, []filter.Term{a, b}, p.found([]filter.Term{a, b}))
			for _, c := range all {
				l := []filter.Term{a, b, c}
				checkFind(t, x, l, p.found(l))
			}
		}
	}
}

func TestFindOfMany(t *testing.T) {
	p := rooms()
	x := p.index()
	for many := range 40 { // also more than All tells
		for i, a := range terms() {
			l := slices.Repeat([]filter.Term{a}, many)
			checkFind(t, x, l, p.found(l))
			for at := range many {
				l[at] = terms()[(i+at)%len(terms())]
				checkFind(t, x, l, p.found(l))
			}
		}
	}
}

// TestFindByEachPlace: one that leaves keys out, among many that leave none out, wherever it stands.
func TestFindByEachPlace(t *testing.T) {
	p := rooms()
	x := p.index()
	for many := 1; many < 40; many++ {
		for at := range many {
			for _, a := range terms() {
				l := slices.Repeat([]filter.Term{not("a", "none"), is("none")}, many)[:many]
				l[at] = a
				checkFind(t, x, l, p.found([]filter.Term{a}))
			}
		}
	}
}

// TestFindOverTime: of keys that are set anew, and dropped.
func TestFindOverTime(t *testing.T) {
	x, p := index.New(), pile{}
	for _, c := range []struct{ key, l string }{ // a stroke: it is dropped
		{"b", "a=1"}, {"a", "a=1 b=1"}, {"c", ""}, {"a", "a=2"}, {"c", "z=1"}, {"b", "-"}, {"b", "b=2 a=2"}, {"c", "a=4"}, {"a", "-"}, {"a", "b=1"}, {"c", "-"}, {"b", ""}, {"b", "-"}, {"a", "-"}, {"a", "a=1"},
	} {
		if c.l == "-" {
			x.Drop(c.key)
			p = p.without(c.key)
		} else {
			x.Set(c.key, of(c.l))
			p = p.with(c.key, of(c.l))
		}
		o := x.Copy()
		for _, a := range terms() {
			checkFind(t, x, []filter.Term{a}, p.found([]filter.Term{a}))
			for _, b := range terms() {
				checkFind(t, x, []filter.Term{a, b}, p.found([]filter.Term{a, b}))
				checkFind(t, o, []filter.Term{b, a}, p.found([]filter.Term{a, b}))
			}
		}
	}
}

// TestFindOfTextsOfAnyKind: keys and labels that are no words, and terms that are not right, are found by their bytes.
func TestFindOfTextsOfAnyKind(t *testing.T) {
	var p pile
	for i, s := range append(words(), noWords()[:60]...) {
		if !index.Key(s) {
			continue
		}
		p = p.with(s, []api.Label{{Name: s, Value: "1"}}).with("k"+strconv.Itoa(i), []api.Label{{Name: "x", Value: s}})
	}
	x := p.index()
	for _, s := range append(words(), noWords()[:60]...) {
		for _, a := range []filter.Term{is(s), is(s, "1"), is("x", s), is("x", s, "y"), is("x", "y", s), is(s, s)} {
			checkFind(t, x, []filter.Term{a}, p.found([]filter.Term{a}))
			checkFind(t, x, []filter.Term{other(a)}, p.found([]filter.Term{other(a)}))
			l := []filter.Term{a, not("x")}
			checkFind(t, x, l, p.found(l))
		}
	}
}

// TestFindByManyValues: of terms of one to 16 values, and of more than a right one has.
func TestFindByManyValues(t *testing.T) {
	var p pile
	for i := range 30 {
		p = append(p, entry{"k" + strconv.Itoa(i*7%30), []api.Label{{Name: "a", Value: "v" + strconv.Itoa(i%25)}, {Name: "b", Value: "v" + strconv.Itoa(i%2)}}})
	}
	x := p.index()
	for many := range 30 {
		for _, values := range [][]string{numbered(many), slices.Repeat(numbered(3), many), append(numbered(many), "none")} {
			for _, l := range [][]filter.Term{{is("a", values...)}, {not("a", values...)}, {is("a", values...), is("b", "v1")}, {is("b", "v1"), is("a", values...)}, {not("b", "v1"), is("a", values...)}, {is("a", values...), not("a", "v2")}} {
				checkFind(t, x, l, p.found(l))
			}
		}
	}
}

func TestFindOfManyKeys(t *testing.T) {
	var p pile
	for i := range 2000 {
		n := i * 7 % 2000
		l := of("all=1 own=" + strconv.Itoa(n) + " ten=" + strconv.Itoa(n%10))
		if n%3 == 0 {
			l = append(l, api.Label{Name: "rest", Value: "0"})
		}
		p = append(p, entry{"k" + strconv.Itoa(n), l})
	}
	x := p.index()
	for _, l := range [][]filter.Term{
		nil, {is("all", "1")}, {not("all", "1")}, {is("own", "77")}, {is("ten", "3", "4")}, {not("ten", "3", "4")}, {is("rest")}, {not("rest")},
		{is("all", "1"), is("own", "78", "77", "81")}, {is("all", "1"), is("rest"), not("ten", "3")}, {not("rest"), is("ten", "0", "9", "5")}, {is("rest", "0"), is("ten", "7")},
	} {
		checkFind(t, x, l, p.found(l))
	}
}
