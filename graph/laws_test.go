package graph_test

import (
	"slices"
	"strconv"
	"testing"

	"tachograph/agg"
	"tachograph/api"
	"tachograph/graph"
)

// P11.4

// checkLaw: no key is both made and a source, each is made of one at most, and Of, Into and All tell of the same rules.
func checkLaw(t *testing.T, what string, g *graph.Graph, keys []string) {
	t.Helper()
	for _, key := range keys {
		_, ok := g.Into(key)
		if ok && len(g.Of(key)) > 0 {
			t.Errorf("%s: %q is made, and a source", what, key)
		}
	}
	var from []graph.Rule
	l := g.All()
	for i, r := range l {
		if !graph.Right(r) {
			t.Errorf("%s: %s is not right", what, say(r))
		}
		if i == 0 || l[i-1].Src != r.Src {
			from = append(from, g.Of(r.Src)...)
		}
		if one, ok := g.Into(r.Dst); !ok || one != r {
			t.Errorf("%s: %s, and Into tells %s", what, say(r), say(one))
		}
		for j, one := range l {
			if one.Src == r.Dst || i != j && one.Dst == r.Dst {
				t.Errorf("%s: %s and %s", what, say(r), say(one))
			}
		}
	}
	checkList(t, what+": Of of each Src", from, l)
}

// step is a call that turns a graph: Add of a rule, Drop of its ends, or Gone of its Src.
type step struct {
	do byte // + - 0
	r  graph.Rule
}

// on does a step on a graph, and is the pile behind it.
func (s step) on(t *testing.T, g *graph.Graph, p pile) pile {
	t.Helper()
	switch s.do {
	case '+':
		return checkAdd(t, g, p, s.r)
	case '-':
		return checkDrop(t, g, p, s.r.Src, s.r.Dst)
	}
	return checkGone(t, g, p, s.r.Src)
}

// TestAllShortRows: each row of four steps out of all that there are with three keys, with a look behind it.
func TestAllShortRows(t *testing.T) {
	keys := []string{"a", "b", "c"}
	steps := []step{{'+', cut("a", "b", agg.Max, 7, 3)}, {'+', cut("b", "c", agg.Sum, 10, 10)}, {'+', rule("a", "a")}}
	for _, src := range keys {
		steps = append(steps, step{'0', rule(src, "")})
		for _, dst := range keys {
			if src != dst {
				steps = append(steps, step{'+', rule(src, dst)}, step{'-', rule(src, dst)})
			}
		}
	}
	many := len(steps)
	for n := range many * many * many * many {
		g, p := graph.New(), pile(nil)
		for _, one := range []int{n / many / many / many, n / many / many % many, n / many % many, n % many} {
			p = steps[one].on(t, g, p)
		}
		what := "row " + strconv.Itoa(n)
		checkGraph(t, what, g, p, keys)
		checkLaw(t, what, g, keys)
		if t.Failed() {
			return // one row tells enough
		}
	}
}

// numbers is a row of numbers that look like chance, always the same of one seed.
func numbers(many int, seed uint64) []int {
	l := make([]int, many)
	x := 88172645463325252 + seed*2654435761
	for i := range l {
		x ^= x << 13
		x ^= x >> 7
		x ^= x << 17
		l[i] = int(x >> 20)
	}
	return l
}

// mixed is many steps, some of them wrong.
func mixed(many int, seed uint64, keys []string) []step {
	var l []step
	for _, n := range numbers(many, seed) {
		src, dst := keys[n%len(keys)], keys[n>>8%len(keys)]
		if n>>16%3 > 0 {
			src = keys[n>>40%4] // few sources with many rules
		}
		s := step{'+', cut(src, dst, n>>20%8+n>>24%2, n>>26%12, n>>30%12)}
		if n>>34%2 == 0 {
			s.r.Kind, s.r.Size, s.r.Align = agg.Last, 10, 9
		}
		switch n >> 36 % 8 {
		case 0:
			s.do = '0'
		case 1, 2:
			s.do = '-'
		}
		l = append(l, s)
	}
	return l
}

func TestLongRows(t *testing.T) {
	keys := append(sortedKeys(), "", lengths(64)[0], lengths(65)[0])
	for seed := range uint64(20) {
		g, p := graph.New(), pile(nil)
		var copies []*graph.Graph
		var piles []pile
		for i, s := range mixed(300, seed, keys) {
			what := "seed " + strconv.Itoa(int(seed)) + ", step " + strconv.Itoa(i)
			p = s.on(t, g, p)
			checkGraph(t, what, g, p, keys)
			if i%20 == 0 {
				checkLaw(t, what, g, keys)
				copies, piles = append(copies, g.Copy()), append(piles, p)
			}
			if i%70 == 69 {
				g = g.Copy() // it goes on from there
			}
		}
		for i, o := range copies {
			checkGraph(t, "copy "+strconv.Itoa(i), o, piles[i], keys)
		}
	}
}

// TestManyRules: from one key, from many of them, and one each.
func TestManyRules(t *testing.T) {
	const many = 3000
	g := graph.New()
	wide, pairs := make([]graph.Rule, many), make([]graph.Rule, many)
	for i := range many {
		at := i * 7 % many // each one once, in an order that is not theirs
		n := strconv.Itoa(10000 + at)
		wide[at], pairs[at] = cut("w", "w"+n, agg.Min, many, at), cut("s"+n, "d"+n, agg.Max, many, at)
		checkError(t, "Add", g.Add(wide[at]), api.OK)
		checkError(t, "Add", g.Add(pairs[at]), api.OK)
		checkError(t, "Add to what is made", g.Add(rule("x", "w"+n)), api.ErrTwice)
		checkError(t, "Add from what is made", g.Add(rule("d"+n, "x")), api.ErrRule)
		checkError(t, "Add to a source", g.Add(rule("x", "s"+n)), api.ErrRule)
	}
	checkList(t, "Of", g.Of("w"), wide)
	checkList(t, "All", g.All(), slices.Concat(pairs, wide))
	o := g.Copy()
	if g.Gone("w") != many || g.Gone("w") != 0 {
		t.Error("Gone of a source")
	}
	checkList(t, "All behind Gone", g.All(), pairs)
	for _, r := range wide {
		if one, e := o.Drop("w", r.Dst); one != r || e != api.OK {
			t.Errorf("Drop of %s: %s, %d", say(r), say(one), e)
		}
	}
	for _, r := range pairs[1:] {
		if o.Gone(r.Dst) != 1 || o.Gone(r.Src) != 0 {
			t.Errorf("Gone of %s", say(r))
		}
	}
	checkList(t, "All of the copy", o.All(), pairs[:1])
}

// R4, R5

// scribble writes over a list of rules, and over the room behind it.
func scribble(l []graph.Rule) {
	l = l[:cap(l)]
	for i := range l {
		l[i] = cut("!", "?", agg.Count, 99, 98)
	}
}

// TestAnswersAreNewMemory: what a caller does to an answer changes nothing.
func TestAnswersAreNewMemory(t *testing.T) {
	for many := range 10 { // lists with room behind them, and without
		g, p := graph.New(), pile(nil)
		for i := range many {
			p = checkAdd(t, g, p, rule("a", strconv.Itoa(i*7%10)))
		}
		p = checkAdd(t, g, p, rule("b", "c"))
		keys := append(few(), "0", "1", "2", "3", "4", "5", "6", "7", "8", "9", "10")
		o := g.Copy()
		for _, one := range []*graph.Graph{g, o, o.Copy()} {
			scribble(one.All())
			for _, key := range keys {
				scribble(one.Of(key))
			}
			checkGraph(t, "when the answers have turned", g, p, keys)
			checkGraph(t, "a copy, when the answers have turned", o, p, keys)
		}
		of, all := g.Of("a"), g.All()
		scribble(g.Of("a"))
		scribble(g.All())
		checkList(t, "Of, when another answer has turned", of, p.of("a"))
		checkList(t, "All, when another answer has turned", all, p.all())
		was := p
		p = checkAdd(t, g, p, rule("a", "10"))
		p = checkDrop(t, g, p, "a", "0")
		checkList(t, "Of, when the graph has turned", of, was.of("a"))
		checkList(t, "All, when the graph has turned", all, was.all())
		checkGone(t, g, p, "a")
		checkList(t, "Of, when all are gone", of, was.of("a"))
		checkList(t, "All, when all are gone", all, was.all())
		scribble(append(o.Of("a"), rule("x", "y"))) // nor does what is put behind it
		checkAdd(t, o, was, rule("a", "10"))
		checkList(t, "Of the copy", o.Of("a"), append(was, rule("a", "10")).of("a"))
	}
}

// orders is all orders of some rules.
func orders(l []graph.Rule) [][]graph.Rule {
	if len(l) == 0 {
		return [][]graph.Rule{nil}
	}
	var all [][]graph.Rule
	for i, one := range l {
		for _, rest := range orders(slices.Delete(slices.Clone(l), i, i+1)) {
			all = append(all, append([]graph.Rule{one}, rest...))
		}
	}
	return all
}

// TestOneAnswer: it hangs on no order in which the rules came, nor on how often it is asked.
func TestOneAnswer(t *testing.T) {
	l := of("m>c m>a n>b o>d m>e n>aa")
	for _, turned := range orders(l) {
		g, p := made(t, turned...)
		o := g.Copy()
		for range 5 {
			checkGraph(t, "in another order", g, p, []string{"m", "n", "a", "aa"})
			checkGraph(t, "in another order, a copy", o, l, []string{"m", "n", "a", "aa"})
		}
		p = checkDrop(t, g, p, "m", "c")
		p = checkGone(t, g, p, "n")
		checkGraph(t, "in another order, and some out", g, p, []string{"m", "n", "a", "aa", "c"})
	}
}
