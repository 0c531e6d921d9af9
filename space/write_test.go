package space_test

import (
	"math"
	"testing"

	"tachograph/agg"
	"tachograph/api"
	"tachograph/graph"
	"tachograph/policy"
)

// P12.2

func TestAdd(t *testing.T) {
	b := begin(t, "a")
	b.adds("a", "5:1 9:2 7:3 9:4 0:5")
	b.has("a", "0:5 5:1 7:3 9:4")
	b.add("a", at(1<<40-1, math.MinInt), 0, api.OK)
	for _, c := range []struct {
		x api.Sample
		p int
		e api.Errno
	}{
		{at(-1, 1), 0, api.ErrArg}, {at(1<<40, 1), 0, api.ErrArg}, {at(math.MinInt, 1), 0, api.ErrArg}, {at(math.MaxInt, 1), 0, api.ErrArg},
		{at(5, 1), -1, api.ErrArg}, {at(5, 1), 7, api.ErrArg}, {at(5, 1), policy.Block, api.ErrBlocked}, {at(1<<40-1, -1), policy.Sum, api.ErrOver},
		{at(5, 9), policy.Max, api.OK}, {at(5, 10), policy.Min, api.OK}, {at(5, 11), policy.Sum, api.OK}, {at(5, 12), policy.First, api.OK},
		{at(6, 12), policy.Block, api.OK}, {at(6, 13), policy.Last, api.OK},
	} {
		b.add("a", c.x, c.p, c.e)
	}
	b.del("a", 1<<40-1, math.MaxInt, api.OK)
	b.has("a", "0:5 5:20 6:13 7:3 9:4")
}

// TestAddBelowTheLine: nothing is written, and nothing made.
func TestAddBelowTheLine(t *testing.T) {
	b := begin(t, "a", "b")
	b.alter("a", 25, policy.Last, nil, api.OK)
	b.link(sums("a", "b"), api.OK)
	b.adds("a", "1:1 12:2 30:3")
	b.has("b", "0:1 10:2")
	b.add("a", at(4, 9), 0, api.ErrOld)
	b.has("b", "0:1 10:2")
	b.adds("a", "5:9") // of the bucket 0 there is that alone now
	b.has("b", "0:9 10:2")
	if v := b.incr("a", 30, 1, api.OK); v != 4 {
		t.Error(v)
	}
	b.del("a", 0, 99, api.OK)
	b.incr("a", 4, 1, api.ErrOld)
	if v := b.incr("a", 5, 1, api.OK); v != 1 {
		t.Error(v)
	}
	b.has("b", "0:1")
}

// TestWhatCannotBeWritten: to one that is not there, and to one that is made, as long as it is.
func TestWhatCannotBeWritten(t *testing.T) {
	b := begin(t, "a", "b", "c")
	b.link(sums("a", "b"), api.OK)
	for _, x := range []api.Sample{at(5, 1), at(-1, 1), at(1<<40, 1)} {
		for _, p := range []int{0, policy.Sum, 7, -1} {
			b.add("nokey", x, p, api.ErrNone)
			b.add("", x, p, api.ErrNone)
			b.add("b", x, p, api.ErrRule)
		}
		b.incr("nokey", x.T, 1, api.ErrNone)
		b.incr("b", x.T, math.MaxInt, api.ErrRule)
	}
	for _, c := range [][2]int{{0, 99}, {9, 0}, {math.MinInt, math.MaxInt}} {
		b.del("nokey", c[0], c[1], api.ErrNone)
		b.del("b", c[0], c[1], api.ErrRule)
	}
	b.adds("a", "1:1 11:2")
	b.add("b", at(0, 1), policy.Block, api.ErrRule)
	b.unlink("a", "b", api.OK)
	b.add("b", at(0, 1), policy.Block, api.ErrBlocked)
	b.adds("b", "3:3")
	if v := b.incr("b", 4, 5, api.OK); v != 8 {
		t.Error(v)
	}
	if many := b.del("b", 0, 3, api.OK); many != 2 {
		t.Error(many)
	}
	b.link(sums("c", "b"), api.OK)
	b.incr("b", 5, 5, api.ErrRule)
	b.drop("c")
	if v := b.incr("b", 5, 5, api.OK); v != 5 {
		t.Error(v)
	}
}

func TestIncr(t *testing.T) {
	for _, c := range []struct {
		samples string
		t, by   int
		v       int
		e       api.Errno
		want    string
	}{
		{"", 5, 3, 3, api.OK, "5:3"},
		{"", 0, 0, 0, api.OK, "0:0"},
		{"", 1<<40 - 1, -3, -3, api.OK, "1099511627775:-3"},
		{"", 5, math.MinInt, math.MinInt, api.OK, "5:-9223372036854775808"},
		{"", 5, math.MaxInt, math.MaxInt, api.OK, "5:9223372036854775807"},
		{"", -1, 3, 0, api.ErrArg, ""},
		{"", 1 << 40, 3, 0, api.ErrArg, ""},
		{"", math.MinInt, 3, 0, api.ErrArg, ""},
		{"", math.MaxInt, 3, 0, api.ErrArg, ""},
		{"3:9 5:7", 5, 3, 10, api.OK, "3:9 5:10"},
		{"3:9 5:7", 5, -10, -3, api.OK, "3:9 5:-3"},
		{"3:9 5:7", 5, 0, 7, api.OK, "3:9 5:7"},
		{"3:9 5:7", 6, 3, 10, api.OK, "3:9 5:7 6:10"},
		{"3:9 5:7", 6, 0, 7, api.OK, "3:9 5:7 6:7"},
		{"3:9 5:7", 4, 3, 0, api.ErrOld, "3:9 5:7"},
		{"3:9 5:7", 3, 3, 0, api.ErrOld, "3:9 5:7"},
		{"3:9 5:7", 0, 3, 0, api.ErrOld, "3:9 5:7"},
		{"3:9 5:7", -1, 3, 0, api.ErrArg, "3:9 5:7"},
		{"3:9 5:7", 4, math.MaxInt, 0, api.ErrOld, "3:9 5:7"},
		{"3:9 5:7", -1, math.MaxInt, 0, api.ErrArg, "3:9 5:7"},
		{"5:7", 5, math.MaxInt - 7, math.MaxInt, api.OK, "5:9223372036854775807"},
		{"5:7", 5, math.MaxInt - 6, 0, api.ErrOver, "5:7"},
		{"5:7", 8, math.MaxInt, 0, api.ErrOver, "5:7"},
		{"5:7", 1<<40 - 1, math.MaxInt, 0, api.ErrOver, "5:7"},
		{"5:7", 1 << 40, math.MaxInt, 0, api.ErrArg, "5:7"},
		{"5:7", math.MaxInt, math.MaxInt, 0, api.ErrArg, "5:7"},
		{"5:-7", 8, math.MinInt + 7, math.MinInt, api.OK, "5:-7 8:-9223372036854775808"},
		{"5:-7", 8, math.MinInt + 6, 0, api.ErrOver, "5:-7"},
		{"5:-7", 5, math.MinInt, 0, api.ErrOver, "5:-7"},
	} {
		for p := policy.Block; p <= policy.Sum; p++ { // it is written by Last, whatever the key's own one
			b := begin(t, "a")
			b.alter("a", 0, p, nil, api.OK)
			b.adds("a", c.samples)
			if v := b.incr("a", c.t, c.by, c.e); v != c.v {
				t.Errorf("Incr behind %q at %d by %d: %d", c.samples, c.t, c.by, v)
			}
			b.has("a", c.want)
		}
	}
}

// TestIncrBehindMax: the last sample that is there counts, not the greatest time that ever was.
func TestIncrBehindMax(t *testing.T) {
	b := begin(t, "a", "b")
	b.link(sums("a", "b"), api.OK)
	b.adds("a", "3:4 18:1 50:9")
	b.has("b", "0:4 10:1")
	b.del("a", 18, 50, api.OK)
	if v := b.incr("a", 15, 2, api.OK); v != 6 {
		t.Error(v)
	}
	b.has("b", "0:4 10:6")
	if v := b.incr("a", 15, 2, api.OK); v != 8 {
		t.Error(v)
	}
	b.has("b", "0:4 10:8")
	b.alter("a", 5, policy.Last, nil, api.OK)
	b.incr("a", 44, 1, api.ErrOld)
	if v := b.incr("a", 45, 1, api.OK); v != 1 {
		t.Error(v)
	}
	b.has("b", "0:4 10:8 40:1")
	b.incr("a", 60, 1, api.OK)
	b.has("b", "0:4 10:8 40:1") // the bucket of 50 has nothing any more
}

// TestIncrMakes: as a write does.
func TestIncrMakes(t *testing.T) {
	b := begin(t, "a", "b")
	b.link(sums("a", "b"), api.OK)
	for _, c := range []struct {
		t    int
		want string
	}{{1, ""}, {5, ""}, {12, "0:3"}, {12, "0:3"}, {35, "0:3 10:4"}, {36, "0:3 10:4"}, {40, "0:3 10:4 30:11"}} {
		b.incr("a", c.t, 1, api.OK)
		b.has("b", c.want)
	}
}

// TestWritesMake: what each of several writes makes, one behind the other.
func TestWritesMake(t *testing.T) {
	for _, c := range []struct {
		what string
		r    graph.Rule
		rows []string // a sample, and what is made then
	}{
		{"the chapter's example", sums("a", "b"), []string{"1:3", "", "5:4", "", "12:5", "0:7"}},
		{"a new bucket, and none", sums("a", "b"), []string{"0:1", "", "9:2", "", "10:4", "0:3", "19:8", "0:3", "20:16", "0:3 10:12"}},
		{"buckets that are left out", sums("a", "b"), []string{"3:1", "", "57:2", "0:1", "1000:3", "0:1 50:2"}},
		{"a bucket that is closed already", sums("a", "b"), []string{"3:1", "", "25:2", "0:1", "4:4", "0:5", "13:8", "0:5 10:8", "22:16", "0:5 10:8", "30:1", "0:5 10:8 20:18"}},
		{"one that is written over", sums("a", "b"), []string{"3:1", "", "25:2", "0:1", "3:9", "0:9", "25:3", "0:9", "31:1", "0:9 20:3"}},
		{"of 1", cut("a", "b", agg.Max, 1, 0), []string{"0:5", "", "0:6", "", "1:7", "0:6", "3:8", "0:6 1:7", "2:9", "0:6 1:7 2:9", "3:1", "0:6 1:7 2:9"}},
		{"an alignment", cut("a", "b", agg.Min, 20, 5), []string{"4:1", "", "5:2", "0:1", "24:3", "0:1", "25:4", "0:1 5:2", "0:0", "0:0 5:2", "45:1", "0:0 5:2 25:4"}},
		{"the last alignment", cut("a", "b", agg.Count, 20, 19), []string{"0:1", "", "18:1", "", "19:1", "0:2", "38:1", "0:2", "39:1", "0:2 19:2"}},
		{"the greatest size", cut("a", "b", agg.Last, 1<<40, 0), []string{"0:1", "", "1099511627775:2", ""}},
		{"the greatest size, and an alignment", cut("a", "b", agg.Last, 1<<40, 7), []string{"0:1", "", "6:2", "", "1099511627775:3", "0:2", "5:9", "0:2"}},
		{"the greatest alignment", cut("a", "b", agg.First, 1<<40, 1<<40-1), []string{"5:1", "", "1099511627774:3", "", "1099511627775:4", "0:1", "2:7", "0:7"}},
		{"a sum at an end", sums("a", "b"), []string{"1:9223372036854775807", "", "2:1", "", "3:-2", "", "10:0", "0:9223372036854775805"}},
	} {
		b := begin(t, "a", "b")
		b.link(c.r, api.OK)
		for i := 0; i < len(c.rows); i += 2 {
			b.adds("a", c.rows[i])
			b.has("b", c.rows[i+1])
		}
		if t.Failed() {
			t.Fatal(c.what)
		}
	}
}

// TestKindsOfRules: one of each kind from one key.
func TestKindsOfRules(t *testing.T) {
	dst := []string{"", "sum", "min", "max", "count", "first", "last", "range"}
	b := begin(t, append([]string{"a"}, dst[1:]...)...)
	for kind := agg.Sum; kind <= agg.Range; kind++ {
		b.link(cut("a", dst[kind], kind, 10, 0), api.OK)
	}
	all := func(want ...string) {
		t.Helper()
		for kind := agg.Sum; kind <= agg.Range; kind++ {
			b.has(dst[kind], want[kind-1])
		}
	}
	b.adds("a", "1:5 9:-2 4:8")
	all("", "", "", "", "", "", "")
	b.adds("a", "10:3")
	all("0:11", "0:-2", "0:8", "0:3", "0:5", "0:-2", "0:10")
	b.adds("a", "0:20 30:1")
	all("0:31 10:3", "0:-2 10:3", "0:20 10:3", "0:4 10:1", "0:20 10:3", "0:-2 10:3", "0:22 10:0")
	b.del("a", 9, 10, api.OK)
	all("0:33", "0:5", "0:20", "0:3", "0:20", "0:8", "0:15")
	b.del("a", 0, 29, api.OK)
	all("", "", "", "", "", "", "")
}

// TestRulesOfOtherSizes: each one from the same key has its own buckets.
func TestRulesOfOtherSizes(t *testing.T) {
	b := begin(t, "a", "b", "c", "d", "e")
	for i, r := range []graph.Rule{cut("a", "e", agg.Sum, 10, 0), cut("a", "b", agg.Sum, 10, 3), cut("a", "d", agg.Sum, 7, 6), cut("a", "c", agg.Sum, 100, 50)} {
		b.link(r, api.OK)
		b.adds("a", []string{"1:1", "2:2", "5:4", "12:8"}[i])
	}
	b.adds("a", "40:16")
	b.has("e", "0:7 10:8")
	b.has("b", "0:3 3:12")
	b.has("d", "0:7 6:8")
	b.has("c", "")
	b.adds("a", "50:32 13:64 49:128")
	b.has("e", "0:7 10:72 40:144")
	b.has("b", "0:3 3:12 13:64 33:16")
	b.has("d", "0:7 6:8 13:64 34:16")
	b.has("c", "0:223")
}

// TestPolicyUnderWhichNothingChanges: the bucket is made anew all the same, and is what it was; with an error nothing is made.
func TestPolicyUnderWhichNothingChanges(t *testing.T) {
	b := begin(t, "a", "b")
	b.adds("a", "1:1 2:2 25:9")
	b.relink(sums("a", "b"), api.OK)
	b.has("b", "")
	b.add("a", at(1, 5), policy.Block, api.ErrBlocked)
	b.has("b", "")
	b.add("a", at(1, math.MinInt), policy.Sum, api.OK)
	b.add("a", at(1, -9), policy.Sum, api.ErrOver)
	b.has("b", "0:-9223372036854775805")
	b.add("a", at(1, 1), policy.Last, api.OK)
	for _, p := range []int{policy.First, policy.Max, policy.Min, policy.Last, policy.Sum} {
		b.alter("b", 0, p, nil, api.OK)
		b.add("a", at(2, []int{policy.First: 7, policy.Last: 2, policy.Min: 3, policy.Max: 1, policy.Sum: 0}[p]), p, api.OK)
		b.has("b", "0:3")
	}
}

// TestFirstIsMade: what nothing was made of is made when a write is into it.
func TestFirstIsMade(t *testing.T) {
	b := begin(t, "a", "b")
	b.adds("a", "1:1 2:2 15:4 25:9")
	b.relink(sums("a", "b"), api.OK)
	b.add("a", at(2, 7), policy.First, api.OK) // nothing changes, but the write is OK
	b.has("b", "0:3")
	b.adds("a", "30:1")
	b.has("b", "0:3 20:9") // the bucket of the Max ahead alone
	b.adds("a", "11:1")
	b.has("b", "0:3 10:5 20:9")
}

// TestFirstWrite: ahead of it there is no Max, and so no bucket of that.
func TestFirstWrite(t *testing.T) {
	for _, write := range []func(b *both){
		func(b *both) { b.adds("a", "25:1") },
		func(b *both) { b.incr("a", 25, 1, api.OK) },
	} {
		b := begin(t, "a", "b")
		b.adds("b", "0:7 10:8 20:9")
		b.relink(sums("a", "b"), api.OK)
		write(b)
		b.has("b", "0:7 10:8 20:9")
		b.adds("a", "3:3 30:1")
		b.has("b", "0:3 10:8 20:1")
	}
}

// TestMaxOfNought: a Max ahead of 0 is one.
func TestMaxOfNought(t *testing.T) {
	b := begin(t, "a", "b")
	b.link(sums("a", "b"), api.OK)
	b.adds("a", "0:5 10:1")
	b.has("b", "0:5")
}

// P12.3

func TestDel(t *testing.T) {
	for _, c := range []struct {
		what     string
		from, to int
		many     int
		a, b     string
	}{
		{"none", 4, 8, 0, "1:1 3:2 9:4 10:8 27:16 29:32 41:64", "0:7 10:8 20:48"},
		{"none, the ends turned", 10, 9, 0, "1:1 3:2 9:4 10:8 27:16 29:32 41:64", "0:7 10:8 20:48"},
		{"none, no times", math.MinInt, -1, 0, "1:1 3:2 9:4 10:8 27:16 29:32 41:64", "0:7 10:8 20:48"},
		{"all", 0, 99, 7, "", ""},
		{"all, no times", math.MinInt, math.MaxInt, 7, "", ""},
		{"one of a bucket", 3, 3, 1, "1:1 9:4 10:8 27:16 29:32 41:64", "0:5 10:8 20:48"},
		{"the first one", 0, 1, 1, "3:2 9:4 10:8 27:16 29:32 41:64", "0:6 10:8 20:48"},
		{"all of a bucket", 1, 9, 3, "10:8 27:16 29:32 41:64", "10:8 20:48"},
		{"the one of a bucket", 10, 10, 1, "1:1 3:2 9:4 27:16 29:32 41:64", "0:7 20:48"},
		{"some of several", 3, 27, 4, "1:1 29:32 41:64", "0:1 20:32"},
		{"the end of one, the next one", 9, 26, 2, "1:1 3:2 27:16 29:32 41:64", "0:3 20:48"},
		{"of the bucket that is not closed", 41, 41, 1, "1:1 3:2 9:4 10:8 27:16 29:32", "0:7 10:8 20:48"},
		{"the last ones", 29, 41, 2, "1:1 3:2 9:4 10:8 27:16", "0:7 10:8 20:16"},
	} {
		b := begin(t, "a", "b", "max", "c")
		b.link(sums("a", "b"), api.OK)
		b.link(cut("a", "max", agg.Max, 4, 1), api.OK)
		b.adds("a", "1:1 3:2 9:4 10:8 27:16 29:32 41:64")
		b.adds("c", "1:1 3:2 41:64")
		if many := b.del("a", c.from, c.to, api.OK); many != c.many {
			t.Errorf("%s: %d", c.what, many)
		}
		b.has("a", c.a)
		b.has("b", c.b)
		b.has("c", "1:1 3:2 41:64")
		if x := b.s.Series("a"); x.Max() != 41 {
			t.Errorf("%s: Max %d", c.what, x.Max())
		}
		b.del("a", c.from, c.to, api.OK) // a second time: none
		b.adds("a", "50:1 2:1")
		if t.Failed() {
			t.Fatal(c.what)
		}
	}
}

// TestDelBehindRelink: only the buckets in which one of them stood are made.
func TestDelBehindRelink(t *testing.T) {
	b := begin(t, "a", "b")
	b.adds("a", "1:1 11:2 12:3 21:4 31:5 32:6 41:7 51:8")
	b.relink(sums("a", "b"), api.OK)
	b.del("a", 2, 10, api.OK)
	b.has("b", "")
	b.del("a", 12, 31, api.OK)
	b.has("b", "10:2 30:6")
	b.del("a", 51, 51, api.OK)
	b.has("b", "10:2 30:6")
	b.adds("a", "55:1")
	b.has("b", "10:2 30:6")
	b.adds("a", "60:1")
	b.has("b", "10:2 30:6 50:1")
}

// TestBucketWithoutItsLast: the destination's sample is gone, and comes again.
func TestBucketWithoutItsLast(t *testing.T) {
	b := begin(t, "a", "b")
	b.link(sums("a", "b"), api.OK)
	b.adds("a", "1:1 2:2 30:4")
	b.del("a", 1, 1, api.OK)
	b.has("b", "0:2")
	b.del("a", 2, 2, api.OK)
	b.has("b", "")
	b.adds("a", "3:9")
	b.has("b", "0:9")
	b.del("a", 30, 30, api.OK)
	b.adds("a", "40:1") // the Max ahead is 30 still
	b.has("b", "0:9")
}
