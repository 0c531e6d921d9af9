package index_test

import (
	"slices"
	"strconv"
	"testing"

	"tachograph/api"
	"tachograph/index"
)

// P9.5

// checkLaw holds keys against their labels: found by each one, and by no other one.
func checkLaw(t *testing.T, what string, x *index.Index, a asked) {
	t.Helper()
	for _, key := range x.Keys() {
		l := x.Labels(key)
		for _, name := range a.names {
			any := false
			for _, value := range a.values {
				has := slices.Contains(l, api.Label{Name: name, Value: value})
				any = any || has
				if slices.Contains(x.Find(name, value), key) != has {
					t.Errorf("%s: %q with %q: found by %q=%q: %v", what, key, l, name, value, !has)
				}
			}
			if slices.Contains(x.With(name), key) != any {
				t.Errorf("%s: %q with %q: found with %q: %v", what, key, l, name, !any)
			}
		}
	}
}

// step is a call that turns an index: Set, or Drop.
type step struct {
	key  string
	l    []api.Label
	drop bool
}

// do does a step on an index, and is the pile behind it.
func (s step) do(t *testing.T, x *index.Index, p pile) pile {
	t.Helper()
	if s.drop {
		if got, want := x.Drop(s.key), p.has(s.key); got != want {
			t.Errorf("Drop of %q: %v", s.key, got)
		}
		return p.without(s.key)
	}
	if !index.Key(s.key) || !index.Right(s.l) {
		checkError(t, "Set", x.Set(s.key, s.l), api.ErrArg)
		return p
	}
	checkError(t, "Set", x.Set(s.key, s.l), api.OK)
	return p.with(s.key, s.l)
}

// TestAllShortRows: each row of four steps out of ten, with a look behind it.
func TestAllShortRows(t *testing.T) {
	steps := []step{
		{key: "a"}, {key: "a", l: of("x=1")}, {key: "a", l: of("x=2")}, {key: "a", l: of("y=1 x=1")}, {key: "b", l: of("x=1")}, {key: "b", l: of("y=x")},
		{key: "a", drop: true}, {key: "b", drop: true}, {key: "a", l: of("x=1 x=2")}, {key: "", l: of("x=1")},
	}
	a := asked{[]string{"a", "b", ""}, []string{"x", "y", "1"}, []string{"1", "2", "x"}}
	many := len(steps)
	for n := range many * many * many * many {
		x, p := index.New(), pile{}
		what := ""
		for _, one := range []int{n / many / many / many, n / many / many % many, n / many % many, n % many} {
			p = steps[one].do(t, x, p)
			what += strconv.Itoa(one) + " "
		}
		checkIndex(t, what, x, p, a)
		checkLaw(t, what, x, a)
	}
}

// numbers is a row of numbers that look like chance, always the same of one seed.
func numbers(many int, seed uint64) []int {
	l := make([]int, many)
	x := 88172645463325252 + seed*2654435761
	for i := range l {
		x ^= x << 13
		x ^= x >> 7
		x ^= x << 17
		l[i] = int(x >> 20)
	}
	return l
}

// odd is keys, names and values at the edges.
func odd() asked {
	l := []string{"a", "b", "\x00", "\xff", "é", "aa", "A", "\x80", "=", lengths(64)[0], lengths(64)[6]}
	return asked{append([]string{"", lengths(65)[0]}, l...), append([]string{""}, l...), append([]string{lengths(65)[0]}, l...)}
}

// mixed is many steps, some of them wrong.
func mixed(many int, seed uint64, a asked) []step {
	var l []step
	for _, n := range numbers(many, seed) {
		s := step{key: a.keys[n%len(a.keys)], drop: n>>5%5 == 0}
		for i := range n >> 8 % 5 {
			m := n >> (10 + 4*i)
			s.l = append(s.l, api.Label{Name: a.names[m%len(a.names)], Value: a.values[m>>3%len(a.values)]})
		}
		l = append(l, s)
	}
	return l
}

func TestLongRows(t *testing.T) {
	a := odd()
	for seed := range uint64(10) {
		x, p := index.New(), pile{}
		var copies []*index.Index
		var piles []pile
		for i, s := range mixed(300, seed, a) {
			p = s.do(t, x, p)
			if i%10 == 0 {
				checkIndex(t, "step "+strconv.Itoa(i), x, p, a)
				copies, piles = append(copies, x.Copy()), append(piles, p)
			}
			if i%50 == 0 {
				checkLaw(t, "step "+strconv.Itoa(i), x, a)
			}
			if i%70 == 69 {
				x = x.Copy() // it goes on from there
			}
		}
		for i, o := range copies {
			checkIndex(t, "copy "+strconv.Itoa(i), o, piles[i], a)
		}
	}
}

// TestManyKeys: of a name that all have, of one that some have, and of one with another value for each key.
func TestManyKeys(t *testing.T) {
	x := index.New()
	var all, third []string
	for i := range 2000 {
		n := i * 7 % 2000
		key := "k" + strconv.Itoa(10000+n)
		l := of("all=1 own=" + strconv.Itoa(n))
		if n%3 == 0 {
			l = append(l, api.Label{Name: "rest", Value: "0"})
		}
		checkError(t, "Set", x.Set(key, l), api.OK)
	}
	for n := range 2000 {
		key := "k" + strconv.Itoa(10000+n)
		all = append(all, key)
		if n%3 == 0 {
			third = append(third, key)
		}
		checkList(t, "Find of its own", x.Find("own", strconv.Itoa(n)), []string{key})
	}
	checkList(t, "Keys", x.Keys(), all)
	checkList(t, "Find of all", x.Find("all", "1"), all)
	checkList(t, "With of all", x.With("own"), all)
	checkList(t, "Find of a third", x.Find("rest", "0"), third)
	if x.Size() != 2*len(all)+len(third) {
		t.Errorf("Size %d", x.Size())
	}
}

// R4, R5

// scribble writes over a list of keys, and over the room behind it.
func scribble(l []string) {
	l = l[:cap(l)]
	for i := range l {
		l[i] = "!"
	}
}

// scribbleLabels writes over a list of labels, and over the room behind it.
func scribbleLabels(l []api.Label) {
	l = l[:cap(l)]
	for i := range l {
		l[i] = api.Label{Name: "!", Value: "!"}
	}
}

func TestListsThatAreHandedIn(t *testing.T) {
	room := of("z=1 y=2 x=3 w=4 d=5 c=6 b=7 a=8 b=9 v=1")
	for many := range len(room) + 1 {
		l := slices.Clone(room)
		x, p := index.New(), pile{}
		index.Right(l[:many])
		if x.Set("k", l[:many]) == api.OK {
			p = p.with("k", room[:many])
		}
		if !slices.Equal(l, room) {
			t.Errorf("%d labels: %q, and ahead of it %q", many, l, room)
		}
		o := x.Copy()
		scribbleLabels(l)
		checkIndex(t, "when the list has other labels", x, p, few())
		checkIndex(t, "a copy, when the list has other labels", o, p, few())
	}
}

func TestAnswersAreNewMemory(t *testing.T) {
	a := few()
	x, p := index.New(), pile{}
	for _, c := range []entry{{"a", of("x=1 y=2 z=3")}, {"b", of("x=1")}, {"c", of("x=2")}, {"d", nil}} {
		x.Set(c.key, c.l)
		p = p.with(c.key, c.l)
	}
	o := x.Copy()
	for _, one := range []*index.Index{x, o, o.Copy()} {
		scribble(one.Keys())
		for _, key := range a.keys {
			scribbleLabels(one.Labels(key))
		}
		for _, name := range a.names {
			scribble(one.With(name))
			for _, value := range a.values {
				scribble(one.Find(name, value))
			}
		}
		checkIndex(t, "when the answers have turned", x, p, a)
		checkIndex(t, "a copy, when the answers have turned", o, p, a)
	}
	first, second := x.Keys(), x.Keys()
	scribble(first)
	checkList(t, "Keys", second, []string{"a", "b", "c", "d"})
	l, m := x.Labels("a"), o.Labels("a")
	scribbleLabels(l)
	checkLabels(t, "Labels", m, of("x=1 y=2 z=3"))
}

// TestOneAnswer: it hangs on no order in which keys and labels came.
func TestOneAnswer(t *testing.T) {
	l := []entry{{"a", of("x=1 y=1")}, {"b", of("x=2 y=1")}, {"c", of("x=1 y=2")}, {"d", of("z=1")}, {"e", nil}}
	p := pile(l)
	for from := range l {
		x := index.New()
		for i := range l {
			e := l[(from+3*i)%len(l)]
			for _, turned := range orders(e.l) {
				checkError(t, "Set", x.Set(e.key, turned), api.OK)
			}
		}
		for range 20 {
			checkIndex(t, "in another order", x, p, few())
		}
	}
}
