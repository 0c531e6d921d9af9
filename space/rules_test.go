package space_test

import (
	"math"
	"slices"
	"testing"

	"tachograph/agg"
	"tachograph/api"
	"tachograph/graph"
	"tachograph/policy"
)

// wrongRules is rules that are not right.
func wrongRules() []graph.Rule {
	l := []graph.Rule{{}, sums("", "b"), sums("a", ""), sums("a", "a"), sums(long(65), "b"), sums("a", long(65)), sums("nokey", "nokey")}
	for _, kind := range []int{math.MinInt, -1, 0, 8, math.MaxInt} {
		l = append(l, cut("a", "b", kind, 10, 0))
	}
	for _, c := range [][2]int{{0, 0}, {-1, 0}, {1<<40 + 1, 0}, {math.MinInt, 0}, {math.MaxInt, 0}, {10, 10}, {10, -1}, {10, math.MaxInt}, {10, math.MinInt}, {1, 1}} {
		l = append(l, cut("a", "b", agg.Sum, c[0], c[1]), cut("a", "nokey", agg.Sum, c[0], c[1]))
	}
	return l
}

// P12.4

// TestLinkErrors: in their order; Relink has the same ones.
func TestLinkErrors(t *testing.T) {
	b := begin(t, "a", "b", "c", "d", "e")
	for _, key := range b.keys[:5] {
		b.adds(key, "1:1 2:2 33:3")
	}
	b.link(sums("a", "b"), api.OK)
	type one struct {
		r graph.Rule
		e api.Errno
	}
	var l []one
	for _, r := range wrongRules() {
		l = append(l, one{r, api.ErrArg})
	}
	for _, r := range []graph.Rule{sums("nokey", "b"), sums("a", "nokey"), sums("nokey", "a"), sums("b", "nokey"), sums("nokey", "other"), sums("nokey", "c")} {
		l = append(l, one{r, api.ErrNone})
	}
	l = append(l,
		one{sums("a", "b"), api.ErrTwice}, one{cut("a", "b", agg.Min, 7, 3), api.ErrTwice}, one{sums("c", "b"), api.ErrTwice},
		one{sums("b", "a"), api.ErrRule}, one{sums("c", "a"), api.ErrRule}, one{sums("b", "c"), api.ErrRule})
	for _, c := range l {
		b.link(c.r, c.e)
		b.relink(c.r, c.e)
	}
	b.has("b", "0:3")
	b.has("c", "1:1 2:2 33:3")
	b.link(sums("d", "e"), api.OK)
	b.link(sums("b", "e"), api.ErrTwice) // ahead of ErrRule, which it is, too
	b.relink(sums("b", "e"), api.ErrTwice)
	if l := b.s.Rules(); !slices.Equal(l, []graph.Rule{sums("a", "b"), sums("d", "e")}) {
		t.Errorf("rules %v", l)
	}
}

// TestLink: what a destination has then, whatever it had.
func TestLink(t *testing.T) {
	for _, c := range []struct {
		what, src, dst string
		r              graph.Rule
		want           string
	}{
		{"no samples", "", "", sums("a", "b"), ""},
		{"no samples of the source", "", "1:1 77:2", sums("a", "b"), ""},
		{"one sample", "5:1", "5:7 10:1", sums("a", "b"), ""},
		{"one bucket, that is not closed", "10:1 14:2 19:4", "0:7 10:1", sums("a", "b"), ""},
		{"two buckets", "10:1 14:2 20:4", "3:7 99:1", sums("a", "b"), "10:3"},
		{"several of them", "0:1 9:2 10:4 39:8 55:16 58:32 60:64", "", sums("a", "b"), "0:3 10:4 30:8 50:48"},
		{"several of them, where others were", "0:1 9:2 10:4 39:8 55:16 58:32 60:64", "0:9 20:9 60:9", sums("a", "b"), "0:3 10:4 30:8 50:48"},
		{"an alignment", "0:1 6:2 7:4 16:8 17:16 26:32 27:64", "", cut("a", "b", agg.Sum, 10, 7), "0:3 7:12 17:48"},
		{"an alignment that nothing is ahead of", "7:4 16:8 17:16", "", cut("a", "b", agg.Sum, 10, 7), "7:12"},
		{"of 1", "0:1 1:2 5:3", "", cut("a", "b", agg.Max, 1, 0), "0:1 1:2"},
		{"of the greatest size", "0:1 1:2 1099511627775:3", "", cut("a", "b", agg.Max, 1<<40, 0), ""},
		{"of the greatest size, and an alignment", "0:1 1:2 1099511627775:3", "", cut("a", "b", agg.Max, 1<<40, 1), "0:1"},
		{"of the greatest alignment", "0:1 1:2 1099511627775:3", "", cut("a", "b", agg.Max, 1<<40, 1<<40-1), "0:2"},
		{"a destination with the first time and the last one", "5:1 15:1", "0:1 1099511627775:3", sums("a", "b"), "0:1"},
		{"the last time", "1099511627774:1 1099511627775:3", "", cut("a", "b", agg.Last, 1, 0), "1099511627774:1"},
	} {
		b := begin(t, "a", "b")
		b.adds("a", c.src)
		b.adds("b", c.dst)
		b.link(c.r, api.OK)
		b.has("a", c.src)
		b.has("b", c.want)
		b.link(c.r, api.ErrTwice)
		b.has("b", c.want)
		if t.Failed() {
			t.Fatal(c.what)
		}
	}
}

// TestLinkOfEachKind: what one Link makes.
func TestLinkOfEachKind(t *testing.T) {
	for kind, want := range []string{agg.Sum: "0:11 10:3", agg.Min: "0:-2 10:3", agg.Max: "0:8 10:3", agg.Count: "0:3 10:1", agg.First: "0:5 10:3", agg.Last: "0:-2 10:3", agg.Range: "0:10 10:0"} {
		if kind > 0 {
			b := begin(t, "a", "b")
			b.adds("a", "1:5 9:-2 4:8 10:3 25:9")
			b.link(cut("a", "b", kind, 10, 0), api.OK)
			b.has("b", want)
		}
	}
}

// TestLinkBehindDel: the greatest time that ever was tells what is closed.
func TestLinkBehindDel(t *testing.T) {
	b := begin(t, "a", "b")
	b.adds("a", "1:1 12:2 50:4")
	b.del("a", 12, 99, api.OK)
	b.link(sums("a", "b"), api.OK)
	b.has("b", "0:1")
	b.unlink("a", "b", api.OK)
	b.del("a", 0, 99, api.OK)
	b.link(sums("a", "b"), api.OK)
	b.has("b", "")
}

// TestLinkAgain: the samples of the rule ahead are gone.
func TestLinkAgain(t *testing.T) {
	b := begin(t, "a", "b", "c")
	b.adds("a", "1:1 12:2 50:4")
	b.adds("c", "101:5 120:6")
	b.link(sums("a", "b"), api.OK)
	b.unlink("a", "b", api.OK)
	b.has("b", "0:1 10:2")
	b.link(cut("c", "b", agg.Max, 10, 5), api.OK)
	b.has("b", "95:5")
	b.unlink("c", "b", api.OK)
	b.link(cut("a", "b", agg.Max, 20, 5), api.OK)
	b.has("b", "0:1 5:2")
}

func TestUnlink(t *testing.T) {
	b := begin(t, "a", "b", "c")
	b.link(sums("a", "b"), api.OK)
	b.link(cut("a", "c", agg.Max, 10, 0), api.OK)
	b.adds("a", "1:1 12:2 50:4")
	for _, c := range [][2]string{{"b", "a"}, {"a", "a"}, {"c", "b"}, {"nokey", "b"}, {"a", "nokey"}, {"", ""}, {"a", ""}, {"", "b"}} {
		b.unlink(c[0], c[1], api.ErrNone)
	}
	b.unlink("a", "b", api.OK)
	b.unlink("a", "b", api.ErrNone)
	b.has("b", "0:1 10:2")
	b.adds("a", "2:7 60:1")
	b.del("a", 12, 12, api.OK)
	b.has("b", "0:1 10:2")
	b.has("c", "0:7 50:4")
	b.adds("b", "3:3 10:9")
	b.has("b", "0:1 3:3 10:9")
	b.link(sums("b", "nokey"), api.ErrNone)
	b.create("nokey", plain(""), api.OK)
	b.link(sums("b", "nokey"), api.OK) // it may be a source now
	b.has("nokey", "0:4")
	b.unlink("a", "c", api.OK)
	b.link(sums("nokey", "a"), api.ErrRule)
	b.link(sums("c", "a"), api.OK)
	b.has("a", "0:7")
}

// P12.4, P12.2: retentions

// TestRetentionOfTheDestination: what is below its line is not made, and nothing else is heeded.
func TestRetentionOfTheDestination(t *testing.T) {
	b := begin(t, "a", "b")
	b.alter("b", 20, policy.Block, nil, api.OK)
	b.link(sums("a", "b"), api.OK)
	b.adds("a", "1:1 12:2 23:4 34:8 45:16")
	b.has("b", "10:2 20:4 30:8")
	b.adds("a", "2:1 3:1") // below its line, and OK
	b.has("a", "1:1 2:1 3:1 12:2 23:4 34:8 45:16")
	b.has("b", "10:2 20:4 30:8")
	b.adds("a", "13:1")
	b.has("b", "10:3 20:4 30:8")
	if many := b.del("a", 1, 24, api.OK); many != 6 {
		t.Error(many)
	}
	b.has("b", "30:8")
	b.adds("a", "11:5 1:5")
	b.has("b", "10:5 30:8")
}

// TestLineAboveTheBucket: a destination that had later samples of its own.
func TestLineAboveTheBucket(t *testing.T) {
	b := begin(t, "a", "b")
	b.alter("b", 50, policy.Last, nil, api.OK)
	b.adds("b", "100:1 70:1")
	b.adds("a", "1:1 49:2 50:4 68:8 99:16")
	b.link(sums("a", "b"), api.OK)
	b.has("b", "50:4 60:8")
	b.adds("a", "45:32 51:64 100:1 130:1")
	b.has("b", "50:68 60:8 90:16 100:1")
	b.adds("a", "199:1 200:1")
	b.has("b", "190:1")
	b.del("a", 0, 150, api.OK)
	b.has("b", "190:1")
}

// TestRetentionOfTheSource: a bucket is made of what is there when it is made.
func TestRetentionOfTheSource(t *testing.T) {
	b := begin(t, "a", "b")
	b.alter("a", 15, policy.Last, nil, api.OK)
	b.link(cut("a", "b", agg.Count, 10, 0), api.OK)
	b.adds("a", "1:1 2:1 3:1 17:1")
	b.has("b", "0:2") // the line is 2
	b.adds("a", "4:1 28:1")
	b.has("b", "0:3 10:1")
	b.adds("a", "44:1")
	b.has("a", "44:1")
	b.has("b", "0:3 10:1") // of the bucket 20 there is nothing any more
	b.adds("a", "29:1 55:1")
	b.has("b", "0:3 10:1 20:1 40:1")
	b.link(cut("a", "b", agg.Count, 10, 0), api.ErrTwice)
	b.unlink("a", "b", api.OK)
	b.link(cut("a", "b", agg.Count, 10, 0), api.OK)
	b.has("b", "40:1")
}

// TestBucketOfMaxIsGone: what a destination has of it is deleted, where a write takes all of its samples away.
func TestBucketOfMaxIsGone(t *testing.T) {
	b := begin(t, "a", "b", "c")
	b.alter("a", 15, policy.Last, nil, api.OK)
	b.adds("a", "25:1")
	b.adds("b", "20:7 30:8")
	b.relink(sums("a", "b"), api.OK)
	b.adds("a", "60:1")
	b.has("b", "30:8")
	b.adds("a", "61:1 70:1")
	b.has("b", "30:8 60:2")
}

// P12.5

func TestRelink(t *testing.T) {
	b := begin(t, "a", "b")
	b.adds("a", "1:1 12:2 33:4")
	b.adds("b", "10:9 15:9 77:9")
	b.relink(sums("a", "b"), api.OK)
	b.has("b", "10:9 15:9 77:9")
	b.relink(sums("a", "b"), api.ErrTwice)
	b.add("b", at(1, 1), 0, api.ErrRule)
	b.adds("a", "34:1")
	b.has("b", "10:9 15:9 77:9")
	b.adds("a", "13:1")
	b.has("b", "10:3 15:9 77:9")
	b.adds("a", "40:1")
	b.has("b", "10:3 15:9 30:5 77:9")
	b.del("a", 12, 13, api.OK)
	b.has("b", "15:9 30:5 77:9")
	if l := b.s.Rules(); !slices.Equal(l, []graph.Rule{sums("a", "b")}) {
		t.Errorf("rules %v", l)
	}
}

// TestRestoredSpace: from what a space tells another one is made that goes on as the first one does.
func TestRestoredSpace(t *testing.T) {
	b := begin(t, "a", "b", "c")
	b.alter("a", 30, policy.Sum, labelled("k=1 l=2"), api.OK)
	b.alter("c", 15, policy.Min, nil, api.OK)
	b.link(sums("a", "b"), api.OK)
	b.link(cut("a", "c", agg.Range, 7, 2), api.OK)
	b.adds("a", "1:1 5:2 12:4 23:8 34:16")
	b.del("a", 34, 34, api.OK)
	o := begin(t)
	for _, key := range b.s.Keys() {
		x := b.s.Series(key)
		told, _ := b.s.Options(key)
		o.restore(key, told, x.Max(), x.Line(), x.Range(0, 99), api.OK)
	}
	for _, r := range b.s.Rules() {
		o.relink(r, api.OK)
	}
	checkSpace(t, "the restored one", o.s, b.p)
	for _, one := range []*both{b, o} {
		one.adds("a", "6:1 35:1 50:1 20:7 20:1")
		one.incr("a", 50, 4, api.OK)
		one.del("a", 21, 40, api.OK)
	}
	checkSpace(t, "the restored one, that goes on", o.s, b.p)
}
