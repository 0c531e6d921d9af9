package space_test

import (
	"math"
	"slices"
	"strconv"
	"testing"

	"tachograph/agg"
	"tachograph/api"
	"tachograph/filter"
	"tachograph/graph"
	"tachograph/policy"
	"tachograph/rows"
	"tachograph/space"
)

// P12.7

// checkLaw: each closed bucket from both lines on has just what the source's samples in it make. (Of a space without Restore and Relink, and of times below 1000.)
func checkLaw(t *testing.T, what string, s *space.Space) {
	t.Helper()
	for _, r := range s.Rules() {
		src, dst := s.Series(r.Src), s.Series(r.Dst)
		if src.Max() > 1000 {
			continue
		}
		for b := 0; end(b, r.Size, r.Align) <= start(src.Max(), r.Size, r.Align); b = end(b, r.Size, r.Align) {
			if b < src.Line() || b < dst.Line() {
				continue
			}
			last := end(b, r.Size, r.Align) - 1
			var want []api.Sample
			if l := src.Range(b, last); len(l) > 0 {
				v, _ := agg.Fold(r.Kind, l)
				want = []api.Sample{at(b, v)}
			}
			if l := dst.Range(b, last); !slices.Equal(l, want) {
				t.Errorf("%s: %s has %s from %d, not %s", what, sayRule(r), say(l), b, say(want))
			}
		}
	}
}

// TestAllShortRows: each row of four steps out of a few.
func TestAllShortRows(t *testing.T) {
	steps := []func(b *both){
		func(b *both) { b.add("a", at(3, 1), 0, -1) },
		func(b *both) { b.add("a", at(7, 2), policy.Sum, -1) },
		func(b *both) { b.add("a", at(12, 4), 0, -1) },
		func(b *both) { b.add("b", at(21, 8), 0, -1) },
		func(b *both) { b.incr("a", 25, 16, -1) },
		func(b *both) { b.del("a", 0, 9, -1) },
		func(b *both) { b.del("b", 10, 99, -1) },
		func(b *both) { b.alter("a", 15, policy.Last, nil, -1) },
		func(b *both) { b.alter("b", 9, policy.Min, nil, -1) },
		func(b *both) { b.drop("a") },
		func(b *both) { b.create("a", plain("k=z"), -1) },
		func(b *both) { b.link(sums("a", "b"), -1) },
		func(b *both) { b.link(cut("b", "a", agg.Max, 5, 2), -1) },
		func(b *both) { b.unlink("a", "b", -1) },
	}
	many := len(steps)
	for n := range many * many * many * many {
		b := begin(t, "a", "b")
		for _, i := range []int{n % many, n / many % many, n / many / many % many, n / many / many / many} {
			steps[i](b)
		}
		checkLaw(t, "row "+strconv.Itoa(n), b.s)
		if t.Failed() {
			t.Fatalf("row %d", n) // one row tells enough
		}
	}
}

// numbers is a row of numbers that look like chance, always the same of one seed.
func numbers(many int, seed uint64) []int {
	l := make([]int, many)
	x := 88172645463325252 + seed*2654435761
	for i := range l {
		x ^= x << 13
		x ^= x >> 7
		x ^= x << 17
		l[i] = int(x >> 20)
	}
	return l
}

// turn does a step that a number tells, some of them wrong.
func turn(b *both, n int, keys []string) {
	key, other := keys[n%len(keys)], keys[n>>8%len(keys)]
	if n>>12%3 > 0 {
		key = keys[n>>14%2] // few keys with many samples
	}
	t, v := n>>16%100, n>>24%50-20
	switch n >> 32 % 20 {
	case 0:
		b.create(key, space.Options{Size: 128 + v, Retention: t, Policy: n >> 36 % 8, Labels: labelled("k=" + key)}, -1)
	case 1:
		b.alter(key, t*(n>>36%2), n>>37%6+1, labelled("k="+other), -1)
	case 2:
		if n>>36%4 == 0 {
			b.drop(key)
		}
	case 3, 4, 5:
		b.link(cut(key, other, n>>36%7+1, t%12+n>>39%2, n>>24%12), -1)
	case 6:
		b.unlink(key, other, -1)
	case 7, 8:
		b.del(key, t, t+n>>36%30, -1)
	case 9, 10, 11:
		b.incr(key, t, v, -1)
	default:
		b.add(key, at(t, v), n>>36%7, -1)
	}
}

func TestLongRows(t *testing.T) {
	keys := []string{"a", "b", "c", "d", "e"}
	for seed := range uint64(30) {
		b := begin(t, keys...)
		var kept []*both
		for i, n := range numbers(600, seed) {
			turn(b, n, keys)
			checkLaw(t, "seed "+strconv.Itoa(int(seed))+", step "+strconv.Itoa(i), b.s)
			if i%100 == 50 {
				kept = append(kept, &both{t, b.s, b.p, b.keys})
				b = &both{t, b.s.Copy(), b.p.copied(), b.keys} // it goes on from there
			}
			if t.Failed() {
				t.Fatalf("seed %d, step %d", seed, i)
			}
		}
		for _, one := range kept {
			one.check("one that was copied")
		}
	}
}

// restoring does a step with Restore and Relink, behind which the law needs not hold, or another one.
func restoring(b *both, n int, keys []string) {
	key, other := keys[n%len(keys)], keys[n>>8%len(keys)]
	switch n >> 40 % 8 {
	case 0, 1:
		b.relink(cut(key, other, n>>36%7+1, n>>16%12+1, n>>24%12), -1)
	case 2:
		b.drop(key)
		greatest := n >> 16 % 100
		line := max(0, greatest-n>>24%50)
		var l []api.Sample
		for t := line; t < greatest+n>>30%2; t += n>>32%9 + 1 {
			l = append(l, at(t, t*7%13))
		}
		b.restore(key, space.Options{Size: 128, Retention: n >> 44 % 2 * 40, Policy: policy.Last, Labels: labelled("k=" + key)}, greatest, line, l, -1)
	default:
		turn(b, n, keys)
	}
}

// TestLongRowsWithRestore: the same as TestLongRows, without the law.
func TestLongRowsWithRestore(t *testing.T) {
	keys := []string{"a", "b", "c", "d"}
	for seed := range uint64(20) {
		b := begin(t, keys...)
		for i, n := range numbers(500, 100+seed) {
			restoring(b, n, keys)
			if t.Failed() {
				t.Fatalf("seed %d, step %d", seed, i)
			}
		}
	}
}

// TestManySamples: rules from a key with many chunks.
func TestManySamples(t *testing.T) {
	s, p := space.New(), newPile()
	for _, key := range []string{"a", "b", "c", "d"} {
		if s.Create(key, plain("")) != api.OK || p.create(key, plain("")) != api.OK {
			t.Fatal(key)
		}
	}
	rules := []graph.Rule{cut("a", "b", agg.Sum, 300, 7), cut("a", "c", agg.Range, 5000, 0), cut("a", "d", agg.Last, 3, 1)}
	for _, r := range rules[:2] {
		if s.Link(r) != api.OK || p.link(r) != api.OK {
			t.Fatal(sayRule(r))
		}
	}
	for i, n := range numbers(3000, 7) {
		x := at((i*3+n%500)%9000, n>>20)
		if s.Add("a", x, policy.Sum) != p.add("a", x, policy.Sum) {
			t.Fatal(x)
		}
	}
	checkSpace(t, "many samples", s, p)
	if s.Link(rules[2]) != api.OK || p.link(rules[2]) != api.OK {
		t.Fatal(sayRule(rules[2]))
	}
	checkSpace(t, "Link of many samples", s, p)
	many, e := s.Del("a", 1111, 7777)
	if piled, _ := p.del("a", 1111, 7777); many != piled || many < 1000 || e != api.OK {
		t.Error(many, e)
	}
	checkSpace(t, "Del of many samples", s, p)
}

// TestManyKeys: one source of many, and many pairs.
func TestManyKeys(t *testing.T) {
	const many = 500
	s := space.New()
	create := func(key string) {
		if e := s.Create(key, plain("k="+key)); e != api.OK {
			t.Fatal(key, e)
		}
	}
	create("a")
	for i := range many {
		n := strconv.Itoa(1000 + i*7%many)
		for _, key := range []string{"w" + n, "s" + n, "d" + n} {
			create(key)
		}
		if s.Link(sums("a", "w"+n)) != api.OK || s.Link(sums("s"+n, "d"+n)) != api.OK {
			t.Fatal(n)
		}
	}
	for _, x := range of("1:1 5:2 12:4") {
		s.Add("a", x, 0)
		s.Add("s1005", x, 0)
	}
	for i := range many {
		n := strconv.Itoa(1000 + i)
		l, e := s.Tell("w"+n, rows.Query{To: 99})
		if e != api.OK || !slices.Equal(l, of("0:3")) {
			t.Errorf("w%s: %s, %d", n, say(l), e)
		}
		l, _ = s.Tell("d"+n, rows.Query{To: 99})
		if want := n == "1005"; want != (len(l) == 1) {
			t.Errorf("d%s: %s", n, say(l))
		}
	}
	if len(s.Keys()) != 3*many+1 || len(s.Rules()) != 2*many || !s.Drop("a") || len(s.Rules()) != many {
		t.Error("keys, or rules")
	}
}

// R4

// scribble writes over a list, and over the room behind it.
func scribble[E any](l []E, x E) {
	l = l[:cap(l)]
	for i := range l {
		l[i] = x
	}
}

// ruled is a space with keys of many labels, and rules.
func ruled(t *testing.T) *both {
	t.Helper()
	b := begin(t, "a", "b", "c", "d", "e")
	b.alter("a", 0, policy.Last, labelsOf(7), api.OK)
	b.link(sums("a", "b"), api.OK)
	b.link(cut("a", "c", agg.Max, 5, 2), api.OK)
	b.link(cut("a", "d", agg.Min, 7, 0), api.OK)
	b.adds("a", "1:1 3:2 9:3 12:4 20:5 28:6 33:7")
	return b
}

// TestAnswersAreNewMemory: what a caller does to an answer changes nothing, nor does it lie over another answer.
func TestAnswersAreNewMemory(t *testing.T) {
	b := ruled(t)
	x := api.Sample{T: 77, V: -77}
	for _, turn := range []func(){
		func() { scribble(b.s.Keys(), "!") },
		func() { scribble(b.s.Find(nil), "!") },
		func() { scribble(b.s.Find([]filter.Term{{Name: "k", Not: true}}), "!") },
		func() { scribble(b.s.Rules(), cut("x", "y", 1, 2, 3)) },
		func() { o, _ := b.s.Options("a"); scribble(o.Labels, api.Label{Name: "!", Value: "!"}) },
		func() { l, _ := b.s.Tell("a", rows.Query{To: 99}); scribble(l, x) },
		func() { l, _ := b.s.Tell("b", rows.Query{To: 99, Kind: agg.Sum, Size: 10}); scribble(l, x) },
		func() { scribble(b.s.Series("a").Range(0, 99), x) },
	} {
		turn()
		b.check("an answer that was written over")
	}
	keys, rules := b.s.Keys(), b.s.Rules()
	l, _ := b.s.Tell("a", rows.Query{To: 99})
	o, _ := b.s.Options("a")
	b.adds("a", "2:9 50:1")
	b.alter("a", 0, policy.Last, labelled("x=1"), api.OK)
	b.unlink("a", "c", api.OK)
	b.drop("e")
	if len(keys) != 5 || keys[4] != "e" || len(rules) != 3 || rules[1] != cut("a", "c", agg.Max, 5, 2) {
		t.Errorf("an answer that changed: %q, %v", keys, rules)
	}
	if len(l) != 7 || l[1] != at(3, 2) || !slices.Equal(o.Labels, byName(labelsOf(7))) {
		t.Errorf("an answer that changed: %s, %v", say(l), o)
	}
}

// roomy is a list with room behind it, in which x stands.
func roomy[E any](l []E, x E) []E {
	room := append(slices.Clone(l), x, x, x)
	return room[:len(l)]
}

// TestArgumentsAreNotKept: neither changed, nor the room behind them, nor kept.
func TestArgumentsAreNotKept(t *testing.T) {
	b := begin(t)
	mark := api.Label{Name: "mark", Value: "mark"}
	for i, do := range []func(o space.Options){
		func(o space.Options) { b.create("a", o, api.OK) },
		func(o space.Options) { b.alter("a", 0, policy.Last, o.Labels, api.OK) },
		func(o space.Options) { b.restore("b", o, 9, 0, of("1:1"), api.OK) },
		func(o space.Options) { b.create("a", o, api.ErrTwice) },
	} {
		want := labelled("z=" + strconv.Itoa(i) + " b=2 m=3 a=4")
		labels := roomy(want, mark)
		do(space.Options{Size: 128, Policy: policy.Last, Labels: labels})
		if !slices.Equal(labels, want) || !slices.Equal(labels[4:7], []api.Label{mark, mark, mark}) {
			t.Errorf("%d: labels that are others: %v", i, labels[:7])
		}
		scribble(labels, mark)
		b.check("labels that were written over")
	}
	samples := roomy(of("1:1 5:2 9:3"), at(50, 50))
	b.restore("c", plain(""), 20, 0, samples, api.OK)
	if !slices.Equal(samples[:6], of("1:1 5:2 9:3 50:50 50:50 50:50")) {
		t.Errorf("samples that are others: %s", say(samples[:6]))
	}
	scribble(samples, at(7, 7))
	b.adds("c", "10:4")
	b.has("c", "1:1 5:2 9:3 10:4")
	terms := roomy([]filter.Term{{Name: "m", Not: true, Values: roomy([]string{"4", "5"}, "6")}, {Name: "a", Values: []string{"4"}}}, filter.Term{Name: "room"})
	checkTexts(t, "Find", b.s.Find(terms), []string{"a", "b"})
	if terms[0].Name != "m" || terms[1].Name != "a" || terms[:3][2].Name != "room" || !slices.Equal(terms[0].Values[:3], []string{"4", "5", "6"}) {
		t.Error("terms that are others")
	}
	times := roomy([]int{9, 5, 1}, 77)
	if l, e := b.s.Tell("c", rows.Query{To: 99, Times: times}); e != api.OK || !slices.Equal(l, of("1:1 5:2 9:3")) || !slices.Equal(times[:4], []int{9, 5, 1, 77}) {
		t.Errorf("Tell: %s, %d, times %v", say(l), e, times[:4])
	}
}

// R2

// TestErrorsChangeNothing: whatever is refused, in a space of every kind of key.
func TestErrorsChangeNothing(t *testing.T) {
	b := ruled(t)
	b.alter("a", 20, policy.Block, labelled("k=a"), api.OK)
	for range 2 {
		b.add("a", at(12, 9), 8, api.ErrArg)
		b.add("a", at(20, 9), 0, api.ErrBlocked)
		b.add("a", at(12, 9), policy.Last, api.ErrOld)
		b.add("a", at(20, math.MaxInt), policy.Sum, api.ErrOver)
		b.incr("a", 33, math.MaxInt, api.ErrOver)
		b.incr("a", 32, 1, api.ErrOld)
		b.incr("a", 1<<40, 1, api.ErrArg)
		b.del("c", 0, 99, api.ErrRule)
		b.link(sums("e", "c"), api.ErrTwice)
		b.link(sums("c", "e"), api.ErrRule)
		b.link(sums("a", "nokey"), api.ErrNone)
		b.unlink("b", "a", api.ErrNone)
		b.create("a", plain(""), api.ErrTwice)
		b.restore("a", plain(""), 99, 0, nil, api.ErrTwice)
		b.restore("nokey", plain("k=nokey"), 9, 0, of("10:1"), api.ErrArg)
		b.alter("a", 5, 9, nil, api.ErrArg)
		checkLaw(t, "errors", b.s)
	}
}

// R5

// TestOrderOfRules: in which order keys and rules came makes no difference.
func TestOrderOfRules(t *testing.T) {
	rules := []graph.Rule{sums("a", "b"), cut("a", "c", agg.Max, 7, 3), cut("a", "d", agg.First, 20, 0)}
	for _, order := range [][]int{{0, 1, 2}, {0, 2, 1}, {1, 0, 2}, {1, 2, 0}, {2, 0, 1}, {2, 1, 0}} {
		for behind := range 4 { // so many of them when there are samples
			b := begin(t, []string{"d", "b", "a", "c"}...)
			for i, at := range order {
				if i == behind {
					b.adds("a", "1:1 5:2 12:3")
				}
				b.link(rules[at], api.OK)
			}
			b.adds("a", "1:1 5:2 12:3 25:4 8:5 41:6")
			b.has("b", "0:8 10:3 20:4")
			b.has("c", "0:1 3:5 10:3 24:4")
			b.has("d", "0:1 20:4")
		}
	}
}
