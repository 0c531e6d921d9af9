package space_test

import (
	"math"
	"slices"
	"strconv"
	"strings"
	"testing"

	"tachograph/agg"
	"tachograph/api"
	"tachograph/filter"
	"tachograph/graph"
	"tachograph/policy"
	"tachograph/rows"
	"tachograph/space"
)

// long is a text of so many bytes.
func long(many int) string { return strings.Repeat("l", many) }

// labelsOf is so many labels, up to nine, of different names.
func labelsOf(many int) []api.Label {
	var l []api.Label
	for i := range many {
		l = append(l, api.Label{Name: strconv.Itoa((i*5 + 3) % 9), Value: long(64)})
	}
	return l
}

// wrong is options of which a part can't be.
type wrong struct {
	what string
	o    space.Options
}

// wrongOptions is such ones, of each kind.
func wrongOptions() []wrong {
	var l []wrong
	for _, size := range []int{math.MinInt, -128, 0, 127, 4097, math.MaxInt} {
		l = append(l, wrong{"size " + strconv.Itoa(size), space.Options{Size: size, Policy: policy.Last}})
	}
	for _, retention := range []int{math.MinInt, -1, 1<<40 + 1, math.MaxInt} {
		l = append(l, wrong{"retention " + strconv.Itoa(retention), space.Options{Size: 128, Retention: retention, Policy: policy.Last}})
	}
	for _, p := range []int{math.MinInt, -1, 0, 7, math.MaxInt} {
		l = append(l, wrong{"policy " + strconv.Itoa(p), space.Options{Size: 128, Policy: p}})
	}
	for i, labels := range wrongLabels() {
		l = append(l, wrong{"labels " + strconv.Itoa(i), space.Options{Size: 128, Policy: policy.Last, Labels: labels}})
	}
	return append(l, wrong{"all of it", space.Options{Labels: labelsOf(9)}})
}

// wrongLabels is labels that are not right.
func wrongLabels() [][]api.Label {
	return [][]api.Label{
		make([]api.Label, 1),
		labelsOf(9),
		{{Name: "", Value: "v"}},
		{{Name: "n", Value: ""}},
		{{Name: long(65), Value: "v"}},
		{{Name: "n", Value: long(65)}},
		{{Name: "n", Value: "v"}, {Name: "m", Value: "v"}, {Name: "n", Value: "w"}},
		{{Name: "n", Value: "v"}, {Name: "n", Value: "v"}},
	}
}

// P12.1

func TestCreate(t *testing.T) {
	b := begin(t)
	for _, c := range []struct {
		key string
		o   space.Options
	}{
		{"b", plain("")},
		{"a", space.Options{Size: 4096, Retention: 1 << 40, Policy: policy.Sum, Labels: labelsOf(8)}},
		{long(64), space.Options{Size: 129, Retention: 1, Policy: policy.Block, Labels: labelled("z=1 a=1 m=1")}},
		{"\x00", space.Options{Size: 200, Retention: 7, Policy: policy.First}},
		{"\xff ", space.Options{Size: 128, Policy: policy.Min}},
		{"k", space.Options{Size: 128, Policy: policy.Max, Labels: labelled("k=k")}},
	} {
		b.create(c.key, c.o, api.OK)
		b.create(c.key, c.o, api.ErrTwice)
		b.create(c.key, plain("other=1"), api.ErrTwice)
	}
	if x := b.s.Series("b"); x.Len() != 0 || x.Max() != -1 || x.Line() != 0 {
		t.Error("a series that is not new")
	}
	checkTexts(t, "Keys", b.s.Keys(), []string{"\x00", "a", "b", "k", long(64), "\xff "})
	if o, _ := b.s.Options(long(64)); !slices.Equal(o.Labels, labelled("a=1 m=1 z=1")) {
		t.Errorf("labels %v", o.Labels)
	}
}

// TestCreateWrong: what can't be is told ahead of what is there.
func TestCreateWrong(t *testing.T) {
	b := begin(t, "a")
	b.adds("a", "5:1")
	for _, key := range []string{"", long(65), long(1000)} {
		b.create(key, plain(""), api.ErrArg)
		b.restore(key, plain(""), 9, 0, of("5:1"), api.ErrArg)
	}
	for _, w := range wrongOptions() {
		for _, key := range []string{"a", "nokey", ""} {
			b.create(key, w.o, api.ErrArg)
			b.restore(key, w.o, 9, 0, of("5:1"), api.ErrArg)
		}
		if t.Failed() {
			t.Fatal(w.what)
		}
	}
	b.has("a", "5:1")
	checkTexts(t, "Keys", b.s.Keys(), []string{"a"})
}

func TestAlter(t *testing.T) {
	b := begin(t, "a", "b")
	b.adds("a", "5:1 20:2 30:3")
	b.alter("a", 10, policy.Sum, labelled("x=1 k=z"), api.OK)
	b.has("a", "20:2 30:3")
	b.adds("a", "30:4")
	b.has("a", "20:2 30:7")
	checkTexts(t, "Find of the labels ahead", b.s.Find([]filter.Term{{Name: "k", Values: []string{"a"}}}), nil)
	checkTexts(t, "Find of the labels now", b.s.Find([]filter.Term{{Name: "k", Values: []string{"z", "b"}}}), []string{"a", "b"})
	b.add("a", at(19, 1), 0, api.ErrOld)
	b.alter("a", 0, policy.Last, nil, api.OK)
	b.add("a", at(19, 1), 0, api.ErrOld) // the line never falls
	b.alter("a", 1<<40, policy.Block, labelsOf(8), api.OK)
	b.add("a", at(30, 1), 0, api.ErrBlocked)
	if o, ok := b.s.Options("a"); !ok || o.Size != 128 || o.Retention != 1<<40 || o.Policy != policy.Block || len(o.Labels) != 8 {
		t.Error(o)
	}
}

func TestAlterWrong(t *testing.T) {
	b := begin(t, "a", "b")
	b.adds("a", "5:1 20:2")
	b.alter("nokey", 0, policy.Last, nil, api.ErrNone)
	b.alter("nokey", -1, 0, labelsOf(9), api.ErrNone)
	b.alter("", -1, 0, nil, api.ErrNone)
	for _, l := range wrongLabels() {
		b.alter("a", 0, policy.Last, l, api.ErrArg)
		b.alter("a", 10, policy.Sum, l, api.ErrArg) // which would take the sample at 5 away
	}
	for _, c := range [][2]int{{-1, 3}, {1<<40 + 1, 3}, {math.MinInt, 3}, {math.MaxInt, 3}, {10, 0}, {10, 7}, {10, -1}, {-1, 0}} {
		b.alter("a", c[0], c[1], labelled("new=1"), api.ErrArg)
		b.alter("a", c[0], c[1], labelsOf(9), api.ErrArg)
	}
	b.has("a", "5:1 20:2")
	if o, _ := b.s.Options("a"); !slices.Equal(o.Labels, labelled("k=a")) {
		t.Error(o)
	}
}

// TestAlterOfRuled: what is made can be altered, and what it is made of; nothing is made anew.
func TestAlterOfRuled(t *testing.T) {
	b := begin(t, "a", "b")
	b.link(sums("a", "b"), api.OK)
	b.adds("a", "1:1 5:2 11:4 25:8 40:1")
	b.has("b", "0:3 10:4 20:8")
	b.alter("b", 10, policy.Min, labelled("k=c"), api.OK)
	b.has("b", "10:4 20:8")
	b.alter("a", 17, policy.Block, labelled("k=d"), api.OK)
	b.has("a", "25:8 40:1")
	b.has("b", "10:4 20:8")
	b.adds("a", "26:1")
	b.has("b", "10:4 20:9") // by Last, whatever its own policy
}

func TestDrop(t *testing.T) {
	b := begin(t, "a", "b", "c", "d", "e", "f")
	for _, r := range []graph.Rule{sums("a", "b"), sums("a", "c"), sums("d", "e")} {
		b.link(r, api.OK)
	}
	b.adds("a", "1:1 11:2")
	if b.drop("nokey") || b.drop("") || !b.drop("f") || b.drop("f") {
		t.Error("Drop of one without rules")
	}
	if !b.drop("a") || b.drop("a") {
		t.Error("Drop of a source")
	}
	if l := b.s.Rules(); !slices.Equal(l, []graph.Rule{sums("d", "e")}) {
		t.Errorf("rules %v", l)
	}
	b.has("b", "0:1")
	b.adds("b", "77:1") // it is made no more
	if !b.drop("e") || b.drop("e") || len(b.s.Rules()) != 0 {
		t.Error("Drop of what is made")
	}
	b.adds("d", "1:1 50:1")
	b.create("e", plain(""), api.OK)
	b.adds("d", "100:1")
	b.has("e", "")
	b.link(sums("b", "d"), api.OK) // it is no source any more
	checkTexts(t, "Keys", b.s.Keys(), []string{"b", "c", "d", "e"})
}

// TestCreateAgain: one that was dropped is there with nothing of the one ahead.
func TestCreateAgain(t *testing.T) {
	b := begin(t, "a", "b")
	b.alter("a", 30, policy.Sum, labelled("old=1"), api.OK)
	b.link(sums("a", "b"), api.OK)
	b.adds("a", "100:1 120:2")
	b.drop("a")
	checkTexts(t, "Find", b.s.Find([]filter.Term{{Name: "old", Not: true}}), nil)
	b.create("a", plain("new=1"), api.OK)
	b.has("a", "")
	b.adds("a", "3:1 30:2")
	b.has("b", "100:1")
	checkTexts(t, "Find", b.s.Find([]filter.Term{{Name: "new", Not: true}}), []string{"a"})
}

// P12.5

func TestRestore(t *testing.T) {
	o := space.Options{Size: 300, Retention: 30, Policy: policy.Sum, Labels: labelled("z=1 k=v")}
	b := begin(t, "there")
	b.restore("a", o, 25, 3, of("10:4 25:5"), api.OK)
	b.has("a", "10:4 25:5")
	b.restore("none", o, -1, 0, nil, api.OK)
	b.restore("line", o, 40, 40, nil, api.OK)
	b.restore("old", plain(""), 1<<40-1, 0, []api.Sample{at(0, math.MinInt), at(1<<40-1, math.MaxInt)}, api.OK)
	b.restore("a", o, 25, 3, of("10:4"), api.ErrTwice)
	b.restore("there", o, 25, 3, of("10:4"), api.ErrTwice)
	b.restore("there", o, -9, 3, of("10:4"), api.ErrTwice) // Create's errors are the first ones
	b.add("a", at(2, 1), 0, api.ErrOld)
	b.adds("a", "25:1 40:7")
	b.has("a", "10:4 25:6 40:7")
	checkTexts(t, "Find", b.s.Find([]filter.Term{{Name: "k", Values: []string{"v"}}}), []string{"a", "line", "none"})
	b.adds("none", "0:1")
	b.add("line", at(39, 1), 0, api.ErrOld)
	b.adds("line", "40:1")
}

func TestRestoreWrong(t *testing.T) {
	b := begin(t, "there")
	o := space.Options{Size: 128, Retention: 10, Policy: policy.Last, Labels: labelled("k=v")}
	for _, c := range []struct {
		max, line int
		l         string
	}{
		{-2, 0, ""}, {math.MinInt, 0, ""}, {1 << 40, 1<<40 - 5, ""}, {math.MaxInt, 0, ""},
		{20, -1, ""}, {20, 21, ""}, {-1, 1, ""}, {20, 9, ""}, {20, math.MinInt, ""}, {20, math.MaxInt, ""},
		{20, 10, "9:1"}, {20, 10, "21:1"}, {20, 10, "15:1 15:1"}, {20, 10, "15:1 14:1"}, {20, 10, "10:1 20:1 21:1"}, {-1, 0, "0:1"},
	} {
		b.restore("a", o, c.max, c.line, of(c.l), api.ErrArg)
		b.restore("there", o, c.max, c.line, of(c.l), api.ErrTwice)
		checkNone(t, "Restore that is wrong", b.s, "a")
		b.add("a", at(15, 1), 0, api.ErrNone)
	}
	b.create("a", o, api.OK)
}

// P12.6

func TestTell(t *testing.T) {
	b := begin(t, "a")
	b.adds("a", "1:5 9:7 12:2 35:-4")
	for _, c := range []struct {
		q    rows.Query
		want string
		e    api.Errno
	}{
		{rows.Query{}, "", api.OK},
		{rows.Query{From: math.MinInt, To: math.MaxInt}, "1:5 9:7 12:2 35:-4", api.OK},
		{rows.Query{From: 1, To: 12}, "1:5 9:7 12:2", api.OK},
		{rows.Query{From: 2, To: 11}, "9:7", api.OK},
		{rows.Query{From: 12, To: 9}, "", api.OK},
		{rows.Query{To: 99, Back: true, Count: 2}, "35:-4 12:2", api.OK},
		{rows.Query{From: 1, To: 99, Kind: agg.Sum, Size: 10}, "0:12 10:2 30:-4", api.OK},
		{rows.Query{From: 9, To: 34, Kind: agg.Sum, Size: 10}, "0:7 10:2", api.OK},
		{rows.Query{To: 99, Kind: agg.Sum, Size: 10, Empty: true}, "0:12 10:2 20:0 30:-4", api.OK},
		{rows.Query{To: 99, Times: []int{12, 1, 13}}, "1:5 12:2", api.OK},
		{rows.Query{To: 99, Values: true, Low: 2, High: 5}, "1:5 12:2", api.OK},
		{rows.Query{To: 99, Count: -1}, "", api.ErrArg},
		{rows.Query{From: 99, To: 0, Count: -1}, "", api.ErrArg},
		{rows.Query{To: 99, Kind: 8, Size: 10}, "", api.ErrArg},
		{rows.Query{To: 99, Empty: true}, "", api.ErrArg},
	} {
		if l, e := b.s.Tell("a", c.q); e != c.e || !slices.Equal(l, of(c.want)) {
			t.Errorf("Tell of %v: %s, %d", c.q, say(l), e)
		}
		if l, e := b.s.Tell("nokey", c.q); e != api.ErrNone || len(l) != 0 {
			t.Errorf("Tell of none of %v: %s, %d", c.q, say(l), e)
		}
	}
	b.adds("a", "11000:1")
	if l, e := b.s.Tell("a", rows.Query{To: 1 << 40, Kind: agg.Sum, Size: 1, Empty: true}); e != api.ErrBig || len(l) != 0 {
		t.Errorf("Tell of too many: %d samples, %d", len(l), e)
	}
}

func TestFind(t *testing.T) {
	b := begin(t)
	for key, labels := range map[string]string{"c": "room=1 kind=t", "a": "room=2", "b": "room=1", "d": "", "e": "room=3 kind=u"} {
		b.create(key, plain(labels), api.OK)
	}
	for _, c := range []struct{ terms, want string }{
		{"", "a b c d e"}, {"room=1", "b c"}, {"room=(1,3)", "b c e"}, {"room!=1", "a d e"}, {"room!=(1,2)", "d e"},
		{"room!=", "a b c e"}, {"room=", "d"}, {"kind=", "a b d"}, {"room=1 kind=", "b"}, {"room=(1,3) kind!=", "c e"},
		{"room=4", ""}, {"other=", "a b c d e"}, {"kind=t room=2", ""},
	} {
		var l []filter.Term
		for _, w := range strings.Fields(c.terms) {
			one, e := filter.Parse(w)
			if e != api.OK {
				t.Fatal(w)
			}
			l = append(l, one)
		}
		checkTexts(t, "Find of "+c.terms, b.s.Find(l), strings.Fields(c.want))
	}
	b.drop("c")
	checkTexts(t, "Find behind Drop", b.s.Find([]filter.Term{{Name: "room", Values: []string{"1"}}}), []string{"b"})
}

// TestKeysInOrder: byte by byte.
func TestKeysInOrder(t *testing.T) {
	b := begin(t)
	want := []string{"\x00", "\x00\x00", " ", "!", "A", "Aa", "B", "a", "a\x00", "a!", "aa", "ab", "b", "\x7f", "\x80", "\xc3\xa4", "\xff", "\xff\xff"}
	for i := range want {
		b.create(want[i*7%len(want)], plain(""), api.OK)
	}
	checkTexts(t, "Keys", b.s.Keys(), want)
}

// TestRulesInOrder: by Src, then by Dst.
func TestRulesInOrder(t *testing.T) {
	b := begin(t, "a", "a!", "b", "p", "q", "r", "s", "t", "u")
	want := []graph.Rule{sums("a", "p"), sums("a", "s"), sums("a", "u"), sums("a!", "q"), sums("b", "r"), sums("b", "t")}
	for _, i := range []int{5, 2, 3, 0, 4, 1} {
		b.link(want[i], api.OK)
	}
	if l := b.s.Rules(); !slices.Equal(l, want) {
		t.Errorf("rules %v", l)
	}
}

// TestSeriesIsACopy: what is done to it changes nothing, nor does it change.
func TestSeriesIsACopy(t *testing.T) {
	b := begin(t, "a", "b")
	b.link(sums("a", "b"), api.OK)
	b.adds("a", "1:1 2:2")
	x := b.s.Series("a")
	x.Add(at(50, 1), 0)
	x.Del(0, 1)
	x.Alter(3, policy.Sum)
	b.check("what is done to a series that was told")
	b.has("a", "1:1 2:2")
	x = b.s.Series("a")
	b.adds("a", "3:3 40:1")
	b.del("a", 1, 1, api.OK)
	b.alter("a", 7, policy.Min, nil, api.OK)
	b.drop("a")
	if l := x.Range(0, 99); !slices.Equal(l, of("1:1 2:2")) || x.Retention() != 0 || x.Policy() != policy.Last || x.Max() != 2 {
		t.Errorf("a series that was told: %s", say(l))
	}
}

// TestCopy: what is done to either one leaves the other one as it was.
func TestCopy(t *testing.T) {
	b := begin(t, "a", "b", "c", "d")
	b.link(sums("a", "b"), api.OK)
	b.link(cut("a", "c", agg.Max, 20, 5), api.OK)
	b.alter("d", 30, policy.Sum, labelled("x=1 y=2"), api.OK)
	b.adds("a", "1:1 12:2 23:3 34:4")
	b.adds("d", "5:5 50:6")
	turns := []func(b *both){
		func(b *both) { b.create("nokey", plain("k=n"), api.OK) },
		func(b *both) { b.restore("nokey", plain("k=n"), 9, 0, of("8:8"), api.OK) },
		func(b *both) { b.alter("a", 15, policy.First, labelled("k=w"), api.OK) },
		func(b *both) { b.drop("a") },
		func(b *both) { b.drop("b") },
		func(b *both) { b.adds("a", "2:9 60:1") },
		func(b *both) { b.incr("d", 51, 4, api.OK) },
		func(b *both) { b.del("a", 0, 13, api.OK) },
		func(b *both) { b.link(sums("a", "d"), api.OK) },
		func(b *both) { b.relink(sums("a", "d"), api.OK) },
		func(b *both) { b.unlink("a", "b", api.OK) },
	}
	for _, turn := range turns {
		o := &both{t, b.s.Copy(), b.p.copied(), b.keys}
		o.check("Copy")
		turn(o)
		b.check("what is done to a copy")
		again := &both{t, b.s.Copy(), b.p.copied(), b.keys}
		other := &both{t, again.s.Copy(), again.p.copied(), b.keys}
		turn(again)
		other.check("what is done to the one that was copied")
		turn(other)
		again.check("what is done to both")
	}
}

// TestNoKeys: a new one, and the copy of one.
func TestNoKeys(t *testing.T) {
	for _, s := range []*space.Space{space.New(), space.New().Copy()} {
		b := &both{t, s, newPile(), []string{"", "a"}}
		b.check("New")
		b.create("a", plain(""), api.OK)
	}
	if len(space.New().Keys()) != 0 {
		t.Error("New has keys of another one")
	}
}

// TestNone: a space that is nil, or that New did not give.
func TestNone(t *testing.T) {
	for _, s := range []*space.Space{nil, {}} {
		e := []api.Errno{
			s.Create("a", plain("")), s.Create("", space.Options{}),
			s.Restore("a", plain(""), 1, 0, of("1:1")), s.Restore("", space.Options{}, -9, 0, nil),
			s.Alter("a", 0, policy.Last, nil), s.Alter("a", -1, 0, labelsOf(9)),
			s.Add("a", at(1, 1), 0), s.Add("a", at(-1, 1), 99),
			s.Link(sums("a", "b")), s.Link(graph.Rule{}), s.Relink(sums("a", "b")), s.Relink(graph.Rule{}),
			s.Unlink("a", "b"), s.Unlink("", ""),
		}
		if v, one := s.Incr("a", 1, 1); v == 0 {
			e = append(e, one)
		}
		if v, one := s.Incr("a", -1, 1); v == 0 {
			e = append(e, one)
		}
		if many, one := s.Del("a", 0, 9); many == 0 {
			e = append(e, one)
		}
		for _, q := range []rows.Query{{}, {Count: -1}} {
			if l, one := s.Tell("a", q); len(l) == 0 {
				e = append(e, one)
			}
		}
		if len(e) != 19 {
			t.Error("a value, or samples, of none")
		}
		for i, one := range e {
			if one != api.ErrNil {
				t.Errorf("call %d: %d", i, one)
			}
		}
		o, ok := s.Options("a")
		if ok || o.Size != 0 || len(o.Labels) != 0 || s.Drop("a") || s.Series("a") != nil || s.Copy() != nil {
			t.Error("something of none")
		}
		if len(s.Keys()) != 0 || len(s.Rules()) != 0 || len(s.Find(nil)) != 0 || len(s.Find([]filter.Term{{Name: "k"}})) != 0 {
			t.Error("a list of none")
		}
	}
}
