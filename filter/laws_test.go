package filter_test

import (
	"slices"
	"testing"

	"tachograph/api"
	"tachograph/filter"
	"tachograph/sets"
)

// P10.6

// TestATermAndItsNot: just one of both matches, and each key is found by just one.
func TestATermAndItsNot(t *testing.T) {
	p := rooms()
	x := p.index()
	for _, a := range append(terms(), some()...) {
		for _, e := range p {
			if filter.Match(a, e.l) == filter.Match(other(a), e.l) {
				t.Errorf("%s and its Not of %q: both, or none", say(a), e.l)
			}
		}
		one, rest := filter.Find(x, []filter.Term{a}), filter.Find(x, []filter.Term{other(a)})
		if len(sets.And(one, rest)) != 0 || !slices.Equal(sets.Or(one, rest), x.Keys()) {
			t.Errorf("%s finds %q, and its Not %q", say(a), one, rest)
		}
		checkFind(t, x, []filter.Term{a, other(a)}, nil)
		checkFind(t, x, []filter.Term{other(a), a}, nil)
	}
}

// orders is all orders of some texts.
func orders(l []string) [][]string {
	if len(l) == 0 {
		return [][]string{nil}
	}
	var all [][]string
	for i, one := range l {
		for _, rest := range orders(slices.Delete(slices.Clone(l), i, i+1)) {
			all = append(all, append([]string{one}, rest...))
		}
	}
	return all
}

// TestEachOrder: in which order terms stand makes no difference, nor their values.
func TestEachOrder(t *testing.T) {
	p := rooms()
	x := p.index()
	for _, l := range [][]string{
		{"a=1", "b=2", "c=1"}, {"a=(1,2)", "b!=2", "c="}, {"a!=", "b=(1,2)", "a!=3", "c=1"}, {"a=1", "a=1", "b!=", "z="}, {"a=(1,2)", "a=(2,3)", "b="}, {"a=1", "a=2", "b=1"},
		{"a=1", "z!="}, {"a=1", "a"}, {"a!=1", "b!=1", "c!=1"}, {"a=", "b=", "c=1", "1="}, {"a!=", "a=(4,3,2,1)", "b!=4", "z!=1"},
	} {
		terms, e := filter.All(l)
		want := p.found(terms)
		for _, turned := range orders(l) {
			got, again := filter.All(turned)
			if again != e || len(got) != len(terms) {
				t.Errorf("All of %q: %s, %d; of %q: %d", turned, say(got...), again, l, e)
				continue
			}
			for i, one := range got {
				checkParse(t, turned[i], one)
			}
			checkFind(t, x, got, want)
		}
	}
	for _, values := range orders([]string{"1", "2", "5", "2"}) {
		checkFind(t, x, []filter.Term{is("a", values...)}, p.found([]filter.Term{is("a", "1", "2")}))
		checkFind(t, x, []filter.Term{not("a", values...)}, p.found([]filter.Term{not("a", "1", "2")}))
	}
}

// R4, R5

// scribble writes over a list of texts, and over the room behind it.
func scribble(l []string) {
	l = l[:cap(l)]
	for i := range l {
		l[i] = "!"
	}
}

// scribbleTerms writes over a list of terms and the values in it, and over the room behind them.
func scribbleTerms(l []filter.Term) {
	for _, x := range l {
		scribble(x.Values)
	}
	l = l[:cap(l)]
	for i := range l {
		l[i] = filter.Term{Name: "!", Not: true}
	}
}

// TestListsThatAreHandedIn: neither they nor the room behind them is changed.
func TestListsThatAreHandedIn(t *testing.T) {
	labels := of("b=2 a=1 a=2 z=9 x=8 x=7")
	values := []string{"3", "1", "2", "1", "9", "8", "7"}
	texts := []string{"c!=1", "a=(3,1)", "b=", "a=1", "x=", "x", "x"}
	p := rooms()
	x := p.index()
	for many := range 6 {
		for _, name := range []string{"a", "x", "", "="} {
			l, v, s := slices.Clone(labels), slices.Clone(values), slices.Clone(texts)
			list := []filter.Term{is(name, v[:many]...), not(name, v[:many]...), is(name, v[:2]...), not("b"), is("b", v[:1]...), is("z", v[6])}
			list = append(list[many:], list[:many]...) // each one is the first one once
			own := slices.Clone(list)
			for _, one := range list {
				filter.Right(one)
				filter.Show(one)
				filter.Match(one, l[:many])
				for _, two := range list {
					filter.Same(one, two)
				}
			}
			filter.All(s[:many])
			for few := range list {
				filter.Find(x, list[:few])
			}
			if !slices.Equal(l, labels) || !slices.Equal(v, values) || !slices.Equal(s, texts) {
				t.Errorf("%d: %q, %q, %q", many, l, v, s)
			}
			for i, one := range list { // the same memory, too
				if !alike(one, own[i]) || len(one.Values) > 0 && &one.Values[0] != &own[i].Values[0] || cap(one.Values) != cap(own[i].Values) {
					t.Errorf("%d: the term %d is %s", many, i, say(one))
				}
			}
		}
	}
	for i, e := range p {
		if !slices.Equal(x.Labels(e.key), rooms().index().Labels(e.key)) {
			t.Errorf("%d: %q has %q", i, e.key, x.Labels(e.key))
		}
	}
}

// TestAnswersAreNewMemory: what one answer becomes changes no other one.
func TestAnswersAreNewMemory(t *testing.T) {
	for _, a := range some() {
		s := filter.Show(a)
		first, _ := filter.Parse(s)
		second, _ := filter.Parse(s)
		scribble(first.Values)
		if !alike(second, a) {
			t.Errorf("Parse of %q: %s then", s, say(second))
		}
		checkParse(t, s, a)
	}
	p := rooms()
	x := p.index()
	for _, l := range [][]filter.Term{nil, {is("a", "1")}, {is("a", "1"), not("b")}, {not("a")}, {is("a")}, {is("a", "1", "2"), is("b", "1")}} {
		first, second := filter.Find(x, l), filter.Find(x, l)
		scribble(first)
		if !slices.Equal(second, p.found(l)) {
			t.Errorf("Find of %s: %q then", say(l...), second)
		}
		checkFind(t, x, l, p.found(l))
		checkFind(t, x, nil, p.found(nil))
	}
}

// TestListsOfOneAnswer: the values of no two terms share memory, spare room neither; nor is the list of texts kept.
func TestListsOfOneAnswer(t *testing.T) {
	for many := 1; many <= 16; many++ {
		var l []string
		for i := range many {
			l = append(l, []string{"a=(1,2,3)", "a=1", "a=(1)", "a=", "a!=(1,2)"}[i%5])
		}
		for at := range many {
			got, e := filter.All(l)
			want, _ := filter.All(l)
			if e != api.OK {
				t.Fatal(l, e)
			}
			for i, one := range want {
				want[i].Values = slices.Clone(one.Values)
			}
			scribble(got[at].Values)
			for i := range got {
				if i != at && !alike(got[i], want[i]) {
					t.Errorf("All of %q: %s, when the values of %d have turned", l, say(got...), at)
				}
			}
			again, _ := filter.All(l)
			scribbleTerms(got)
			if !slices.EqualFunc(again, want, alike) {
				t.Errorf("All of %q: %s, when another answer has turned", l, say(again...))
			}
			kept := slices.Clone(l)
			scribble(l)
			if !slices.EqualFunc(again, want, alike) {
				t.Errorf("All of %q: %s, when the texts have turned", kept, say(again...))
			}
			l = kept
		}
	}
}

// TestTermsAreNotKept: Find answers of the terms as they are when it is asked.
func TestTermsAreNotKept(t *testing.T) {
	p := rooms()
	x := p.index()
	l := []filter.Term{is("a", "1"), not("b", "1", "2")}
	before := filter.Find(x, l)
	want := p.found(l)
	l[0].Values[0], l[1].Values[0], l[1].Not = "2", "1", false
	if !slices.Equal(before, want) {
		t.Errorf("Find: %q, want %q", before, want)
	}
	checkFind(t, x, l, p.found(l))
}

// TestOneAnswer: it hangs on no order in which keys and labels came.
func TestOneAnswer(t *testing.T) {
	p := rooms()
	for from := range p {
		var turned pile
		for i := range p {
			e := p[(from+5*i)%len(p)]
			l := slices.Clone(e.l)
			slices.Reverse(l)
			turned = append(turned, entry{e.key, l})
		}
		x := turned.index()
		for _, a := range terms() {
			for _, b := range terms() {
				for range 3 {
					l := []filter.Term{a, b}
					checkFind(t, x, l, p.found(l))
				}
			}
		}
	}
}
