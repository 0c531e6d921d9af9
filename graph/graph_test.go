package graph_test

import (
	"math"
	"slices"
	"strconv"
	"strings"
	"testing"

	"tachograph/agg"
	"tachograph/api"
	"tachograph/graph"
)

// rule is a rule of sums of 10.
func rule(src, dst string) graph.Rule {
	return graph.Rule{Src: src, Dst: dst, Kind: agg.Sum, Size: 10}
}

// cut is a rule of its own kind, size and alignment.
func cut(src, dst string, kind, size, align int) graph.Rule {
	return graph.Rule{Src: src, Dst: dst, Kind: kind, Size: size, Align: align}
}

// of is the rules of a text: src>dst, and a blank ahead of the next one.
func of(s string) []graph.Rule {
	var l []graph.Rule
	for _, w := range strings.Fields(s) {
		src, dst, _ := strings.Cut(w, ">")
		l = append(l, rule(src, dst))
	}
	return l
}

// say is rules to be read.
func say(l ...graph.Rule) string {
	var told []string
	for _, r := range l {
		s := strconv.QuoteToASCII(r.Src) + ">" + strconv.QuoteToASCII(r.Dst)
		for _, n := range []int{r.Kind, r.Size, r.Align} {
			s += "," + strconv.Itoa(n)
		}
		told = append(told, s)
	}
	s := "[" + strings.Join(told, " ") + "]"
	return s[:min(len(s), 400)]
}

// below tells whether one text is below another one, byte by byte.
func below(a, b string) bool {
	for i := range len(a) {
		if i == len(b) {
			return false // b begins a
		}
		if a[i] != b[i] {
			return a[i] < b[i]
		}
	}
	return len(a) < len(b)
}

// pile is what a graph must have, in no order.
type pile []graph.Rule

// those is the rules of a pile of which something holds, by Src, then by Dst.
func (p pile) those(holds func(r graph.Rule) bool) pile {
	var l pile
	for _, r := range p {
		if !holds(r) {
			continue
		}
		i := 0
		for i < len(l) && (below(l[i].Src, r.Src) || l[i].Src == r.Src && below(l[i].Dst, r.Dst)) {
			i++
		}
		l = slices.Insert(l, i, r)
	}
	return l
}

// all is all of them.
func (p pile) all() pile {
	return p.those(func(r graph.Rule) bool { return true })
}

// of is those from a key.
func (p pile) of(src string) pile {
	return p.those(func(r graph.Rule) bool { return r.Src == src })
}

// into is those into a key.
func (p pile) into(dst string) pile {
	return p.those(func(r graph.Rule) bool { return r.Dst == dst })
}

// isKey is what the chapter's words say of a key.
func isKey(s string) bool {
	return len(s) > 0 && len(s) < 65
}

// isRight is what they say of a rule that is right.
func isRight(r graph.Rule) bool {
	switch {
	case !isKey(r.Src), !isKey(r.Dst), r.Src == r.Dst:
		return false
	case r.Kind < 1, r.Kind > 7:
		return false
	case r.Size < 1, r.Size > 1099511627776:
		return false
	}
	return r.Align > -1 && r.Align < r.Size
}

// added is a pile behind Add, and what that answers.
func (p pile) added(r graph.Rule) (pile, api.Errno) {
	switch {
	case !isRight(r):
		return p, api.ErrArg
	case len(p.into(r.Dst)) > 0:
		return p, api.ErrTwice
	case len(p.of(r.Dst)) > 0, len(p.into(r.Src)) > 0:
		return p, api.ErrRule
	}
	return append(slices.Clone(p), r), api.OK
}

// dropped is a pile behind Drop, and what that answers.
func (p pile) dropped(src, dst string) (pile, graph.Rule, api.Errno) {
	for _, r := range p {
		if r.Src == src && r.Dst == dst {
			return p.those(func(one graph.Rule) bool { return one != r }), r, api.OK
		}
	}
	return p, graph.Rule{}, api.ErrNone
}

// gone is a pile behind Gone, and what that answers.
func (p pile) gone(key string) (pile, int) {
	rest := p.those(func(r graph.Rule) bool { return r.Src != key && r.Dst != key })
	return rest, len(p) - len(rest)
}

// checkList holds rules that were told against those that must be.
func checkList(t *testing.T, what string, got, want []graph.Rule) {
	t.Helper()
	if !slices.Equal(got, want) {
		t.Errorf("%s: %s, want %s", what, say(got...), say(want...))
	}
}

// checkError holds an error against the one that must be.
func checkError(t *testing.T, what string, got, want api.Errno) {
	t.Helper()
	if got != want {
		t.Errorf("%s: error %d, want %d", what, got, want)
	}
}

// checkGraph holds all that a graph tells, of some keys, against a pile.
func checkGraph(t *testing.T, what string, g *graph.Graph, p pile, keys []string) {
	t.Helper()
	checkList(t, what+": All", g.All(), p.all())
	for _, key := range keys {
		checkList(t, what+": Of "+strconv.QuoteToASCII(key), g.Of(key), p.of(key))
		r, ok := g.Into(key)
		var got pile
		if ok {
			got = pile{r}
		} else if r != (graph.Rule{}) {
			t.Errorf("%s: Into %q: no, and %s", what, key, say(r))
		}
		checkList(t, what+": Into "+strconv.QuoteToASCII(key), got, p.into(key))
	}
}

// checkAdd adds a rule, holds what is answered against what must be, and is the pile behind it.
func checkAdd(t *testing.T, g *graph.Graph, p pile, r graph.Rule) pile {
	t.Helper()
	p, want := p.added(r)
	checkError(t, "Add of "+say(r), g.Add(r), want)
	return p
}

// checkDrop drops a rule, holds what is answered against what must be, and is the pile behind it.
func checkDrop(t *testing.T, g *graph.Graph, p pile, src, dst string) pile {
	t.Helper()
	p, want, e := p.dropped(src, dst)
	got, told := g.Drop(src, dst)
	if got != want || told != e {
		t.Errorf("Drop of %q and %q: %s, error %d, want %s, error %d", src, dst, say(got), told, say(want), e)
	}
	return p
}

// checkGone takes a key's rules out, holds what is answered against what must be, and is the pile behind it.
func checkGone(t *testing.T, g *graph.Graph, p pile, key string) pile {
	t.Helper()
	p, want := p.gone(key)
	if got := g.Gone(key); got != want {
		t.Errorf("Gone of %q: %d, want %d", key, got, want)
	}
	return p
}

// made is a graph of a pile's rules, and that pile in an order of its own.
func made(t *testing.T, l ...graph.Rule) (*graph.Graph, pile) {
	t.Helper()
	g := graph.New()
	for _, r := range l {
		checkError(t, "Add of "+say(r), g.Add(r), api.OK)
	}
	return g, slices.Clone(l)
}

// few is what graphs of short keys are asked.
func few() []string {
	long := strings.Repeat("k", 65)
	return []string{"a", "b", "c", "d", "e", "f", "x", "y", "z", "", "A", "aa", "ab", "é", "\x00", "a\x00", "\xff", long[:64], long}
}

// lengths is texts of so many bytes, each of another kind of bytes.
func lengths(many int) []string {
	var l []string
	for _, s := range []string{"a", "Z9_", " ", "\x00", "\x7f", "\x80", "\xff", "é", "\xf0\x9f\x98\x80", "\xe2\x82", "\xc3\x28", "=,()\r\n>"} {
		l = append(l, strings.Repeat(s, many/len(s)+1)[:many])
	}
	return l
}

// P11.1

// checkRight holds what Right tells against what it must, and Add to a graph without rules.
func checkRight(t *testing.T, r graph.Rule, want bool) {
	t.Helper()
	if graph.Right(r) != want {
		t.Errorf("Right of %s: %v", say(r), !want)
	}
	g, p, e := graph.New(), pile{}, api.ErrArg
	if want {
		p, e = append(p, r), api.OK
	}
	checkError(t, "Add of "+say(r), g.Add(r), e)
	checkGraph(t, "behind Add of "+say(r), g, p, []string{r.Src, r.Dst, "k"})
}

func TestRightByTheKeys(t *testing.T) {
	for _, many := range []int{0, 1, 2, 3, 32, 33, 62, 63, 64, 65, 66, 127, 128, 129, 256, 257, 320, 1 << 16} {
		right := many >= 1 && many <= 64
		for _, s := range lengths(many) {
			checkRight(t, rule(s, "key"), right)
			checkRight(t, rule("key", s), right)
			checkRight(t, rule(s, s), false)
		}
	}
	checkRight(t, graph.Rule{}, false)
	checkRight(t, rule(strings.Repeat("é", 32), "k"), true) // bytes, not runes
	checkRight(t, rule(strings.Repeat("é", 33), "k"), false)
	checkRight(t, rule("k", strings.Repeat("é", 32)), true)
	checkRight(t, rule("k", strings.Repeat("é", 33)), false)
}

func TestRightOfEachByte(t *testing.T) {
	for b := range 256 {
		s := string([]byte{byte(b)})
		checkRight(t, rule(s, "key"), true)
		checkRight(t, rule("key", s), true)
		checkRight(t, rule(s, s+s), true)
		checkRight(t, rule(s, s), false)
	}
}

func TestRightOfKeysThatAreNearlyTheSame(t *testing.T) {
	long := strings.Repeat("k", 63)
	l := []string{"a", "A", "aa", "a\x00", "\x00a", " a", "a ", "é", "e\u0301", "É", "\xff", "\xfe", "\ufffd", "\xc3", "K", "\u212a", long, long + "k", long + "l"}
	for i, src := range l {
		for j, dst := range l {
			checkRight(t, rule(src, dst), i != j)
		}
	}
}

func TestRightByTheKind(t *testing.T) {
	for kind := -300; kind <= 300; kind++ {
		checkRight(t, cut("a", "b", kind, 10, 9), kind >= 1 && kind <= 7)
	}
	for _, kind := range []int{math.MinInt, math.MinInt + 1, -1 << 32, -1<<32 + 1, 1 << 8, 1<<8 + 1, 1 << 16, 1<<16 + 1, 1 << 32, 1<<32 + 1, math.MaxInt} {
		checkRight(t, cut("a", "b", kind, 10, 9), false)
	}
	for _, kind := range []int{agg.Sum, agg.Min, agg.Max, agg.Count, agg.First, agg.Last, agg.Range} {
		checkRight(t, cut("a", "b", kind, 10, 9), true)
	}
}

// sizes is sizes of buckets, and numbers that can be none.
func sizes() []int {
	const most = 1 << 40
	return []int{
		math.MinInt, math.MinInt + 1, -most - 1, -most, -1 << 32, -10, -2, -1, 0, 1, 2, 3, 10, 255, 256, 257, 1 << 16, 1<<31 - 1, 1 << 31, 1<<32 - 1, 1 << 32, 1<<32 + 1,
		most/2 - 1, most / 2, most/2 + 1, most - 2, most - 1, most, most + 1, most + 2, 2*most - 1, 2 * most, 1<<62 + 1, math.MaxInt - 1, math.MaxInt,
	}
}

func TestRightByTheSizeAndTheAlignment(t *testing.T) {
	for _, size := range sizes() {
		can := size >= 1 && size <= 1<<40
		checkRight(t, cut("a", "b", agg.Max, size, 0), can)
		for _, align := range append(sizes(), size-1, size, size+1, -size, size/2) {
			checkRight(t, cut("a", "b", agg.Max, size, align), can && align >= 0 && align < size)
		}
	}
}

func TestRightOfSmallSizes(t *testing.T) {
	for size := -3; size <= 12; size++ {
		for align := -3; align <= 14; align++ {
			checkRight(t, cut("a", "b", agg.Last, size, align), size >= 1 && align >= 0 && align < size)
		}
	}
}

// TestAddInItsOrder: what comes ahead of what, by what is there.
func TestAddInItsOrder(t *testing.T) {
	for _, c := range []struct {
		there, src, dst string
		want            api.Errno
	}{
		{"", "a", "b", api.OK},
		{"a>b", "a", "b", api.ErrTwice}, // the same
		{"a>b", "c", "b", api.ErrTwice}, // of another one
		{"a>b", "b", "a", api.ErrRule},  // the other way round: b is made, and a is a source
		{"a>b", "b", "c", api.ErrRule},  // Src is made
		{"a>b", "c", "a", api.ErrRule},  // Dst is a source
		{"a>b", "a", "c", api.OK},       // many from one
		{"a>b", "c", "d", api.OK},
		{"a>b c>d", "b", "c", api.ErrRule}, // both hold
		{"a>b c>d", "b", "d", api.ErrTwice},
		{"a>b c>d", "d", "b", api.ErrTwice}, // Dst is made, and Src as well
		{"a>b c>d", "a", "d", api.ErrTwice},
		{"a>b c>d", "c", "a", api.ErrRule},
		{"a>b c>d", "d", "a", api.ErrRule},
		{"a>b a>c", "b", "c", api.ErrTwice},
		{"a>b a>c", "c", "d", api.ErrRule},
		{"a>b a>c", "a", "d", api.OK},
		{"a>b a>c", "d", "a", api.ErrRule},
		{"a>b", "b", "b", api.ErrArg}, // not right, where others apply as well
		{"a>b", "a", "a", api.ErrArg},
		{"a>b", "", "b", api.ErrArg},
		{"a>b", "b", "", api.ErrArg},
		{"a>b", "", "a", api.ErrArg},
		{"a>b", "", "", api.ErrArg},
	} {
		g, p := made(t, of(c.there)...)
		if _, want := p.added(rule(c.src, c.dst)); want != c.want {
			t.Fatalf("%s, and %s to %s: the pile says %d", c.there, c.src, c.dst, want)
		}
		p = checkAdd(t, g, p, rule(c.src, c.dst))
		checkGraph(t, c.there+", and "+c.src+" to "+c.dst, g, p, few())
	}
}

// TestExample is the chapter's.
func TestExample(t *testing.T) {
	g := graph.New()
	checkError(t, "a to b", g.Add(rule("a", "b")), api.OK)
	checkError(t, "b to c", g.Add(rule("b", "c")), api.ErrRule)
	checkError(t, "a to c", g.Add(rule("a", "c")), api.OK)
	checkError(t, "d to c", g.Add(rule("d", "c")), api.ErrTwice)
	checkGraph(t, "behind it", g, of("a>b a>c"), few())
}

// TestAddOfTheSameCutInAnotherWay: by another Kind, Size or Align it is a second one into the same key, and the first one stays.
func TestAddOfTheSameCutInAnotherWay(t *testing.T) {
	g, p := made(t, cut("a", "b", agg.Min, 10, 3), cut("a", "c", agg.Max, 20, 3))
	for _, r := range []graph.Rule{
		cut("a", "b", agg.Min, 10, 3), cut("a", "b", agg.Max, 10, 3), cut("a", "b", agg.Min, 11, 3), cut("a", "b", agg.Min, 10, 4), cut("a", "b", agg.Range, 1<<40, 0),
		cut("d", "b", agg.Max, 10, 3), cut("a", "c", agg.Min, 10, 3), cut("c", "b", agg.Last, 1, 0),
	} {
		checkError(t, "Add of "+say(r), g.Add(r), api.ErrTwice)
		checkGraph(t, "behind Add of "+say(r), g, p, few())
	}
}

// TestAddThatIsNotRight: it is ErrArg whatever else applies, and changes nothing.
func TestAddThatIsNotRight(t *testing.T) {
	g, p := made(t, of("a>b a>c d>e")...)
	long := strings.Repeat("k", 65)
	for _, ends := range []string{"a>b", "d>b", "b>d", "b>f", "f>a", "a>f", "x>y", "b>a", "e>c"} {
		r := of(ends)[0]
		for _, wrong := range []graph.Rule{
			cut(r.Src, r.Dst, 0, 10, 0), cut(r.Src, r.Dst, 8, 10, 0), cut(r.Src, r.Dst, -1, 10, 0),
			cut(r.Src, r.Dst, 1, 0, 0), cut(r.Src, r.Dst, 1, -10, 0), cut(r.Src, r.Dst, 1, 1<<40+1, 0),
			cut(r.Src, r.Dst, 1, 10, 10), cut(r.Src, r.Dst, 1, 10, -1), cut(r.Src, r.Dst, 1, 1, 1),
			rule(r.Src, r.Src), rule(r.Dst, r.Dst), rule("", r.Dst), rule(r.Src, ""), rule(long, r.Dst), rule(r.Src, long),
		} {
			checkError(t, "Add of "+say(wrong), g.Add(wrong), api.ErrArg)
			checkGraph(t, "behind Add of "+say(wrong), g, p, few())
		}
	}
}

// TestAddOfEachKind: what is added is told as it was, each field of it.
func TestAddOfEachKind(t *testing.T) {
	g, p := graph.New(), pile{}
	var keys []string
	for kind := agg.Sum; kind <= agg.Range; kind++ {
		for _, c := range [][2]int{{1, 0}, {10, 0}, {10, 1}, {10, 9}, {1 << 40, 0}, {1 << 40, 7}, {1 << 40, 1<<40 - 1}} {
			dst := "k" + strconv.Itoa(len(p))
			keys = append(keys, dst)
			p = checkAdd(t, g, p, cut("src", dst, kind, c[0], c[1]))
		}
	}
	if len(p) != 49 {
		t.Errorf("%d rules", len(p))
	}
	checkGraph(t, "each kind", g, p, append(keys, "src"))
	for _, key := range keys {
		p = checkDrop(t, g, p, "src", key)
	}
	checkGraph(t, "each kind dropped", g, nil, append(keys, "src"))
}

// P11.2

func TestDrop(t *testing.T) {
	there := []graph.Rule{cut("a", "b", agg.Min, 10, 3), cut("a", "c", agg.Max, 1<<40, 1<<40-1), cut("d", "e", agg.Range, 1, 0)}
	for _, c := range []struct {
		src, dst string
		want     graph.Rule // none: ErrNone
	}{
		{"a", "b", there[0]},
		{"a", "c", there[1]},
		{"d", "e", there[2]},
		{"b", "a", graph.Rule{}}, // the other way round
		{"c", "a", graph.Rule{}},
		{"e", "d", graph.Rule{}},
		{"d", "b", graph.Rule{}}, // the Src of another one
		{"a", "e", graph.Rule{}},
		{"a", "a", graph.Rule{}}, // the same twice
		{"b", "b", graph.Rule{}},
		{"b", "c", graph.Rule{}}, // two of one
		{"a", "d", graph.Rule{}}, // two sources
		{"x", "b", graph.Rule{}}, // a key that is none
		{"a", "x", graph.Rule{}},
		{"x", "y", graph.Rule{}},
		{"", "", graph.Rule{}},
		{"", "b", graph.Rule{}},
		{"a", "", graph.Rule{}},
		{"A", "b", graph.Rule{}},
		{"a", "B", graph.Rule{}},
		{"aa", "b", graph.Rule{}},
		{"a", "bb", graph.Rule{}},
		{"a\x00", "b", graph.Rule{}},
		{strings.Repeat("a", 65), "b", graph.Rule{}},
		{"a", strings.Repeat("b", 65), graph.Rule{}},
	} {
		g, p := made(t, there...)
		want := api.OK
		if c.want == (graph.Rule{}) {
			want = api.ErrNone
		}
		rest, r, e := p.dropped(c.src, c.dst)
		if r != c.want || e != want {
			t.Fatalf("%q and %q: the pile says %s, %d", c.src, c.dst, say(r), e)
		}
		checkDrop(t, g, p, c.src, c.dst)
		checkGraph(t, "behind Drop of "+say(rule(c.src, c.dst)), g, rest, few())
		checkDrop(t, g, rest, c.src, c.dst) // there no more
		checkGraph(t, "behind a second Drop of "+say(rule(c.src, c.dst)), g, rest, few())
	}
}

// TestDropTellsEndsApart: where one ends and the other one begins counts.
func TestDropTellsEndsApart(t *testing.T) {
	pairs := [][2]string{{"a", "bc"}, {"ab", "c"}, {"abc", "d"}, {"a>b", "e"}, {"a", "b>e"}, {"a\x00b", "f"}, {"a", "\x00bf"}, {"ac", "b"}, {"\xe2", "\x82\xac"}, {"\xe2\x82", "\xac"}}
	var l []graph.Rule
	var keys []string
	for i, ends := range pairs {
		l = append(l, cut(ends[0], ends[1], agg.Last, i+1, i))
		keys = append(keys, ends[0], ends[1])
	}
	for i := range pairs {
		g, p := made(t, l...)
		checkGraph(t, "ends", g, p, keys)
		for j := range pairs {
			one := pairs[(i+j)%len(pairs)]
			p = checkDrop(t, g, p, one[0], one[1])
			checkGraph(t, "ends", g, p, keys)
		}
	}
	for i := range pairs {
		for j := range pairs {
			g, p := made(t, l[i])
			p = checkDrop(t, g, p, pairs[j][0], pairs[j][1])
			checkGraph(t, "ends", g, p, keys)
		}
	}
}

func TestDropOfOneOfMany(t *testing.T) {
	there := of("m>d m>b m>f m>a m>c m>e a0>x a0>y n>z")
	for i := range there {
		for j := range there {
			for k := range there {
				g, p := made(t, there...)
				for _, r := range []graph.Rule{there[i], there[j], there[k]} {
					p = checkDrop(t, g, p, r.Src, r.Dst)
				}
				checkGraph(t, "behind three Drops", g, p, append(few(), "m", "n", "a0"))
			}
		}
	}
}

func TestGone(t *testing.T) {
	const there = "m>b m>a m>c n>d n>e o>f"
	for _, c := range []struct {
		key  string
		many int
	}{
		{"m", 3}, {"n", 2}, {"o", 1}, // rules from it
		{"a", 1}, {"b", 1}, {"c", 1}, {"d", 1}, {"f", 1}, // one into it
		{"x", 0}, {"M", 0}, {"mm", 0}, {"m\x00", 0}, // none
		{"", 0}, {strings.Repeat("m", 65), 0}, {"\xff", 0}, // keys that are none
	} {
		g, p := made(t, of(there)...)
		if _, many := p.gone(c.key); many != c.many {
			t.Fatalf("%q: the pile says %d", c.key, many)
		}
		keys := append(few(), "m", "n", "o")
		p = checkGone(t, g, p, c.key)
		checkGraph(t, "behind Gone of "+strconv.QuoteToASCII(c.key), g, p, keys)
		p = checkGone(t, g, p, c.key) // the same twice
		checkGraph(t, "behind a second Gone of "+strconv.QuoteToASCII(c.key), g, p, keys)
		for _, key := range []string{"n", "c", "a", "m", "f", "o", "x", "b"} {
			p = checkGone(t, g, p, key)
			checkGraph(t, "behind Gone of "+strconv.QuoteToASCII(c.key)+" and of others", g, p, keys)
		}
		checkGraph(t, "behind Gone of all", g, nil, keys)
	}
}

// TestAddAgain: of what was dropped, or is gone, nothing stands in the way of another one.
func TestAddAgain(t *testing.T) {
	out := []func(t *testing.T, g *graph.Graph, p pile) pile{
		func(t *testing.T, g *graph.Graph, p pile) pile { return checkDrop(t, g, p, "a", "b") },
		func(t *testing.T, g *graph.Graph, p pile) pile { return checkGone(t, g, p, "a") },
		func(t *testing.T, g *graph.Graph, p pile) pile { return checkGone(t, g, p, "b") },
	}
	next := []graph.Rule{rule("a", "b"), cut("a", "b", agg.Max, 7, 5), rule("b", "a"), rule("c", "b"), rule("b", "c"), rule("c", "a"), rule("a", "c")}
	for _, there := range []string{"a>b", "a>b x>y", "a>b a>d", "a>b a>A a>d"} {
		for _, take := range out {
			for _, r := range next {
				g, p := made(t, of(there)...)
				p = take(t, g, p)
				checkGraph(t, "out", g, p, few())
				p = checkAdd(t, g, p, r)
				checkGraph(t, "another one", g, p, few())
				p = checkAdd(t, g, p, r) // once alone
				p = checkDrop(t, g, p, r.Src, r.Dst)
				checkGraph(t, "out again", g, p, few())
				p = checkAdd(t, g, p, rule("a", "b"))
				checkGraph(t, "the first one again", g, p, few())
			}
		}
	}
}

// P11.3

// sortedKeys is keys at the edges, byte by byte.
func sortedKeys() []string {
	return []string{
		"\x00", "\x00\x00", "\x00a", "\x01", "10", "9", "A", "Z", "a", "a\x00", "a\x00b", "aa", "aaa", "ab", "a\x7f", "a\x80", "a\xff", "b", "ba",
		"\x7f", "\x80", "\x80\x00", "\x80\x80", "\xc3", "\xc3\xa9", "\xe2\x82", "\xe2\x82\xac", "\xef\xbf\xbd", "\xf0\x9f\x98\x80", "\xfe", "\xff", "\xff\x00", strings.Repeat("\xff", 64),
	}
}

// TestOrder: Of by Dst and All by Src, then by Dst, whatever the order in which they came.
func TestOrder(t *testing.T) {
	keys := sortedKeys()
	for step := range len(keys) { // 33 of them: a step that 3 and 11 don't part meets each one
		if step%3 == 0 || step%11 == 0 {
			continue
		}
		g, h := graph.New(), graph.New()
		var wantOf, wantAll, wantTwo []graph.Rule
		for i := range keys {
			key := keys[i*step%len(keys)]
			checkError(t, "Add to one", g.Add(rule("src", key)), api.OK)
			checkError(t, "Add from one", h.Add(rule(key, "dst"+key[:min(len(key), 61)])), api.OK)
			checkError(t, "Add of a second one", h.Add(cut(key, "Dst"+key[:min(len(key), 61)], agg.Count, i+1, i)), api.OK)
			wantOf = append(wantOf, rule("src", keys[i]))
			wantAll = append(wantAll, rule(keys[i], "dst"+keys[i][:min(len(keys[i]), 61)]))
			wantTwo = append(wantTwo, graph.Rule{Src: keys[i], Dst: "Dst"}, graph.Rule{Src: keys[i], Dst: "dst"})
		}
		checkList(t, "Of", g.Of("src"), wantOf)
		checkList(t, "All of one Src", g.All(), wantOf)
		var firsts, ends []graph.Rule
		for _, r := range h.All() {
			if r.Kind == agg.Sum {
				firsts = append(firsts, r)
			}
			ends = append(ends, graph.Rule{Src: r.Src, Dst: r.Dst[:3]})
		}
		checkList(t, "All", firsts, wantAll)
		checkList(t, "All of two each", ends, wantTwo)
	}
}

func TestOfAndInto(t *testing.T) {
	g, p := made(t, cut("m", "b", agg.Min, 5, 4), cut("n", "d", agg.Max, 6, 3), cut("m", "a", agg.Last, 7, 2), cut("m", "c", agg.Range, 8, 1))
	checkList(t, "Of m", g.Of("m"), []graph.Rule{cut("m", "a", agg.Last, 7, 2), cut("m", "b", agg.Min, 5, 4), cut("m", "c", agg.Range, 8, 1)})
	checkList(t, "Of n", g.Of("n"), []graph.Rule{cut("n", "d", agg.Max, 6, 3)})
	for _, r := range p {
		if got, ok := g.Into(r.Dst); !ok || got != r {
			t.Errorf("Into %q: %s, %v", r.Dst, say(got), ok)
		}
		checkList(t, "Of what is made", g.Of(r.Dst), nil)
	}
	for _, key := range []string{"m", "n", "x", "", "A", "ab", "a\x00", "\xff", strings.Repeat("a", 65)} {
		if r, ok := g.Into(key); ok || r != (graph.Rule{}) {
			t.Errorf("Into %q: %s, %v", key, say(r), ok)
		}
	}
	for _, key := range []string{"x", "", "M", "mm", "m\x00", "\xff", strings.Repeat("m", 65)} {
		checkList(t, "Of "+strconv.QuoteToASCII(key), g.Of(key), nil)
	}
	checkGraph(t, "when it was asked", g, p, append(few(), "m", "n"))
}

func TestOfNone(t *testing.T) {
	g := graph.New()
	checkGraph(t, "without rules", g, nil, few())
	checkDrop(t, g, nil, "a", "b")
	checkDrop(t, g, nil, "", "")
	checkGone(t, g, nil, "a")
	checkGone(t, g, nil, "")
	checkGraph(t, "without rules still", g, nil, few())
	if h := graph.New(); h == g || h == nil {
		t.Error("New is another one each time")
	}
}

// TestCopy: what is done to either one behind it leaves the other one as it was.
func TestCopy(t *testing.T) {
	checkGraph(t, "a copy of none", graph.New().Copy(), nil, few())
	turn := []func(t *testing.T, g *graph.Graph, p pile) pile{
		func(t *testing.T, g *graph.Graph, p pile) pile { return checkAdd(t, g, p, rule("a", "Z")) }, // ahead of the others
		func(t *testing.T, g *graph.Graph, p pile) pile { return checkAdd(t, g, p, rule("a", "c")) }, // between
		func(t *testing.T, g *graph.Graph, p pile) pile { return checkAdd(t, g, p, rule("a", "y")) }, // behind
		func(t *testing.T, g *graph.Graph, p pile) pile { return checkAdd(t, g, p, rule("e", "f")) }, // of another Src
		func(t *testing.T, g *graph.Graph, p pile) pile { return checkDrop(t, g, p, "a", "b") },
		func(t *testing.T, g *graph.Graph, p pile) pile { return checkDrop(t, g, p, "a", "d") },
		func(t *testing.T, g *graph.Graph, p pile) pile { return checkGone(t, g, p, "a") },
		func(t *testing.T, g *graph.Graph, p pile) pile { return checkGone(t, g, p, "z") },
		func(t *testing.T, g *graph.Graph, p pile) pile {
			p = checkDrop(t, g, p, "a", "b")
			return checkAdd(t, g, p, cut("a", "b", agg.Max, 5, 4))
		},
	}
	for _, first := range turn {
		for _, second := range turn {
			for _, there := range []string{"a>b a>d x>z", "a>b a>d a>e0 x>z", "a>b a>d a>e0 a>e1 a>e2 x>z"} { // with and without room behind a list
				g, p := made(t, of(there)...)
				o := g.Copy()
				checkGraph(t, "a copy", o, p, few())
				q := first(t, g, p)
				checkGraph(t, "one that has turned", g, q, few())
				checkGraph(t, "a copy, when the other one has turned", o, p, few())
				own := o.Copy()
				r := second(t, o, p)
				checkGraph(t, "a copy that has turned", o, r, few())
				checkGraph(t, "one, when its copy has turned", g, q, few())
				checkGraph(t, "a copy of a copy", own, p, few())
				q = second(t, g, q)
				r = first(t, o, r)
				checkGraph(t, "both have turned", g, q, few())
				checkGraph(t, "both have turned, the copy", o, r, few())
				checkGraph(t, "both have turned, the copy's copy", own, p, few())
			}
		}
	}
}

// R1

// TestGraphThatIsNone: one of nil, and one that New did not give.
func TestGraphThatIsNone(t *testing.T) {
	for _, g := range []*graph.Graph{nil, new(graph.Graph), {}} {
		for range 2 {
			for _, r := range []graph.Rule{rule("a", "b"), rule("a", "a"), {}, cut("a", "b", 0, 0, 0)} {
				checkError(t, "Add to none", g.Add(r), api.ErrNil)
			}
			for _, ends := range [][2]string{{"a", "b"}, {"", ""}, {"a", "a"}} {
				if r, e := g.Drop(ends[0], ends[1]); r != (graph.Rule{}) || e != api.ErrNil {
					t.Errorf("Drop of none: %s, %d", say(r), e)
				}
			}
			if g.Gone("a") != 0 || g.Gone("") != 0 || g.Copy() != nil {
				t.Error("Gone or Copy of none")
			}
			checkGraph(t, "none", g, nil, few())
		}
	}
}
