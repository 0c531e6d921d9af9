package agg_test

import (
	"slices"
	"testing"

	"tachograph/agg"
	"tachograph/api"
)

// cut is a size and an alignment.
type cut struct{ size, align int }

// wrongCuts is sizes and alignments of which there are no buckets.
func wrongCuts() []cut {
	return []cut{
		{0, 0}, {-1, 0}, {-10, 0}, {-10, -20}, {0, -1}, {0, 1}, {end + 1, 0}, {end + 1, 5}, {end + 1, end}, {2 * end, 0}, {top, 0}, {top, 7}, {bottom, 0}, {bottom, bottom}, {top, top},
		{10, -1}, {10, -10}, {10, 10}, {10, 11}, {10, 20}, {10, top}, {10, bottom}, {1, -1}, {1, 1}, {1, 2},
		{end, -1}, {end, end}, {end, end + 1}, {end, top}, {end, bottom}, {end - 1, end - 1},
	}
}

// rightCuts is sizes and alignments, the edges among them.
func rightCuts() []cut {
	return []cut{
		{1, 0}, {2, 0}, {2, 1}, {3, 2}, {10, 0}, {10, 3}, {10, 9}, {7, 5}, {1000, 1}, {1000, 999},
		{1 << 39, 0}, {1 << 39, 1}, {1<<39 - 1, 7}, {end - 1, 0}, {end - 1, end - 2}, {end, 0}, {end, 1}, {end, 1 << 39}, {end, end - 1},
	}
}

// wrongTimes is numbers that are no times of a bucket.
func wrongTimes() []int {
	return []int{-1, -2, -10, -end, end + 1, end + 2, 2 * end, top, top - 1, bottom, bottom + 1}
}

// timesAbout is times at the edges of all times, of a size and of an alignment.
func timesAbout(c cut) []int {
	var l []int
	for _, at := range []int{0, c.align, c.size, c.size + c.align, 2*c.size + c.align, 1 << 20, 1 << 39, end - c.size, end} {
		for t := at - 2; t <= at+2; t++ {
			if t >= 0 && t <= end {
				l = append(l, t)
			}
		}
	}
	slices.Sort(l)
	return slices.Compact(l)
}

// bucket is where the bucket of a time begins and ends, found by going over the beginnings one by one.
func bucket(t int, c cut) (int, int) {
	begin, next := 0, c.align
	if next == 0 {
		next = c.size
	}
	for next <= t {
		begin, next = next, next+c.size
	}
	return begin, next
}

// checkBucket holds what Start and End tell of a time against what they must.
func checkBucket(t *testing.T, at int, c cut, begin, next int) {
	t.Helper()
	if b := agg.Start(at, c.size, c.align); b != begin {
		t.Errorf("Start(%d, %d, %d): %d, want %d", at, c.size, c.align, b, begin)
	}
	if e := agg.End(at, c.size, c.align); e != next {
		t.Errorf("End(%d, %d, %d): %d, want %d", at, c.size, c.align, e, next)
	}
}

// P6.2

func TestStartAndEndExample(t *testing.T) {
	if b := agg.Start(25, 10, 3); b != 23 {
		t.Error(b)
	}
	if b := agg.Start(2, 10, 3); b != 0 {
		t.Error(b)
	}
	if e := agg.End(0, 10, 3); e != 3 {
		t.Error(e)
	}
}

func TestStartAndEndAtTheEdges(t *testing.T) {
	for _, c := range []struct {
		t           int
		cut         cut
		begin, next int
	}{
		{0, cut{10, 0}, 0, 10}, // the first bucket of no alignment is as long as the others
		{9, cut{10, 0}, 0, 10},
		{10, cut{10, 0}, 10, 20},
		{0, cut{10, 3}, 0, 3}, // of another one it ends at it
		{2, cut{10, 3}, 0, 3},
		{3, cut{10, 3}, 3, 13},
		{12, cut{10, 3}, 3, 13},
		{13, cut{10, 3}, 13, 23},
		{0, cut{10, 9}, 0, 9},
		{8, cut{10, 9}, 0, 9},
		{9, cut{10, 9}, 9, 19},
		{0, cut{1, 0}, 0, 1},
		{1, cut{1, 0}, 1, 2},
		{end - 1, cut{1, 0}, end - 1, end},
		{end, cut{1, 0}, end, end + 1},
		{end - 1, cut{2, 0}, end - 2, end},
		{end, cut{2, 0}, end, end + 2},
		{end, cut{2, 1}, end - 1, end + 1},
		{0, cut{end, 0}, 0, end},
		{end - 1, cut{end, 0}, 0, end},
		{end, cut{end, 0}, end, 2 * end},
		{0, cut{end, end - 1}, 0, end - 1},
		{end - 2, cut{end, end - 1}, 0, end - 1},
		{end - 1, cut{end, end - 1}, end - 1, 2*end - 1},
		{end, cut{end, end - 1}, end - 1, 2*end - 1},
		{0, cut{end, 1}, 0, 1},
		{1, cut{end, 1}, 1, end + 1},
		{end, cut{end, 1}, 1, end + 1},
		{end, cut{end - 1, 0}, end - 1, 2*end - 2},
	} {
		checkBucket(t, c.t, c.cut, c.begin, c.next)
	}
}

func TestStartAndEndOfSmallSizes(t *testing.T) {
	for size := 1; size <= 12; size++ {
		for align := range size {
			for at := range 60 { // beginnings among them, and others
				begin, next := bucket(at, cut{size, align})
				checkBucket(t, at, cut{size, align}, begin, next)
			}
		}
	}
}

func TestStartAndEndOfGreatSizes(t *testing.T) {
	for _, c := range rightCuts() {
		if c.size < end/1000 {
			continue // too many beginnings to go over
		}
		for _, at := range timesAbout(c) {
			begin, next := bucket(at, c)
			checkBucket(t, at, c, begin, next)
		}
	}
}

func TestStartAndEndOfWrongSizesAndAlignments(t *testing.T) {
	for _, c := range wrongCuts() {
		for _, at := range []int{0, 1, 5, 10, 25, end - 1, end, -1, end + 1, top, bottom} {
			checkBucket(t, at, c, 0, 0)
		}
	}
}

func TestStartAndEndOfWrongTimes(t *testing.T) {
	for _, c := range rightCuts() {
		for _, at := range wrongTimes() {
			checkBucket(t, at, c, 0, 0)
		}
	}
}

// P6.4

// checkBuckets holds what Buckets tells against what it must.
func checkBuckets(t *testing.T, kind int, c cut, l, want []api.Sample) {
	t.Helper()
	if got := agg.Buckets(kind, c.size, c.align, l); !slices.Equal(got, want) {
		t.Errorf("%s of %d, %d, of %v: %v; want %v", agg.Name(kind), c.size, c.align, l, got, want)
	}
}

// told is what the chapter's words say that Buckets tells.
func told(kind int, c cut, l []api.Sample) []api.Sample {
	var all []api.Sample
	var vals []int
	for _, x := range l {
		begin, _ := bucket(x.T, c)
		if len(all) == 0 || all[len(all)-1].T != begin {
			all, vals = append(all, api.Sample{T: begin}), nil
		}
		vals = append(vals, x.V)
		all[len(all)-1].V, _ = value(kind, vals)
	}
	return all
}

func TestBucketsOfEachKind(t *testing.T) {
	l := []api.Sample{{T: 1, V: 5}, {T: 4, V: -2}, {T: 9, V: 4}, {T: 10, V: 1}, {T: 35, V: 2}, {T: 38, V: 8}}
	for kind, want := range [][]int{
		agg.Sum:   {7, 1, 10},
		agg.Min:   {-2, 1, 2},
		agg.Max:   {5, 1, 8},
		agg.Count: {3, 1, 2},
		agg.First: {5, 1, 2},
		agg.Last:  {4, 1, 8},
		agg.Range: {7, 0, 6},
	} {
		if kind > 0 {
			checkBuckets(t, kind, cut{10, 0}, l, []api.Sample{{T: 0, V: want[0]}, {T: 10, V: want[1]}, {T: 30, V: want[2]}})
		}
	}
	checkBuckets(t, agg.Sum, cut{10, 4}, l, []api.Sample{{T: 0, V: 5}, {T: 4, V: 3}, {T: 34, V: 10}})
}

func TestBucketsOfTimesThatDoNotRise(t *testing.T) {
	for _, c := range []struct{ l, want []api.Sample }{
		{ // two of one bucket with one of another one between them
			[]api.Sample{{T: 1, V: 5}, {T: 12, V: 7}, {T: 3, V: 4}},
			[]api.Sample{{T: 0, V: 5}, {T: 10, V: 7}, {T: 0, V: 4}},
		},
		{ // falling, within a bucket and from one to the next one
			[]api.Sample{{T: 29, V: 1}, {T: 21, V: 2}, {T: 19, V: 3}, {T: 5, V: 4}, {T: 0, V: 5}},
			[]api.Sample{{T: 20, V: 3}, {T: 10, V: 3}, {T: 0, V: 9}},
		},
		{ // of one time
			[]api.Sample{{T: 7, V: 1}, {T: 7, V: 2}, {T: 7, V: 2}, {T: 17, V: 3}, {T: 7, V: 4}},
			[]api.Sample{{T: 0, V: 5}, {T: 10, V: 3}, {T: 0, V: 4}},
		},
		{ // the first one at a beginning that is not 0
			[]api.Sample{{T: 10, V: 1}, {T: 0, V: 2}, {T: 10, V: 3}},
			[]api.Sample{{T: 10, V: 1}, {T: 0, V: 2}, {T: 10, V: 3}},
		},
	} {
		checkBuckets(t, agg.Sum, cut{10, 0}, c.l, c.want)
	}
}

func TestBucketsAtTheEdges(t *testing.T) {
	l := []api.Sample{{T: 0, V: 1}, {T: 1, V: 2}, {T: end - 1, V: 4}, {T: end, V: 8}}
	checkBuckets(t, agg.Sum, cut{1, 0}, l, l)
	checkBuckets(t, agg.Sum, cut{2, 0}, l, []api.Sample{{T: 0, V: 3}, {T: end - 2, V: 4}, {T: end, V: 8}})
	checkBuckets(t, agg.Sum, cut{2, 1}, l, []api.Sample{{T: 0, V: 1}, {T: 1, V: 2}, {T: end - 1, V: 12}})
	checkBuckets(t, agg.Sum, cut{end, 0}, l, []api.Sample{{T: 0, V: 7}, {T: end, V: 8}})
	checkBuckets(t, agg.Sum, cut{end, 1}, l, []api.Sample{{T: 0, V: 1}, {T: 1, V: 14}})
	checkBuckets(t, agg.Sum, cut{end, end - 1}, l, []api.Sample{{T: 0, V: 3}, {T: end - 1, V: 12}})
	checkBuckets(t, agg.Sum, cut{10, 3}, []api.Sample{{T: 2, V: top}, {T: 2, V: top}, {T: 2, V: -1}, {T: 3, V: top}}, []api.Sample{{T: 0, V: top - 1}, {T: 3, V: top}})
}

func TestBucketsOfManySamples(t *testing.T) {
	many := numbers(600, 1)
	for seed := range 60 {
		steps, vals := numbers(seed, uint64(seed)), numbers(seed, uint64(seed)+100)
		c := cut{size: 1 + many[seed]&15}
		c.align = (many[seed] >> 8 & 255) % c.size
		l := make([]api.Sample, seed)
		at := 50
		for i := range l {
			at = max(0, at+steps[i]&15-6) // mostly rising
			l[i] = api.Sample{T: at, V: vals[i]}
		}
		for kind := agg.Sum; kind <= agg.Range; kind++ {
			checkBuckets(t, kind, c, l, told(kind, c, l))
		}
	}
}

func TestBucketsOfNothing(t *testing.T) {
	l := []api.Sample{{T: 1, V: 5}, {T: 12, V: 7}}
	for kind := agg.Sum; kind <= agg.Range; kind++ {
		checkBuckets(t, kind, cut{10, 0}, nil, nil)
		checkBuckets(t, kind, cut{10, 0}, []api.Sample{}, nil)
		checkBuckets(t, kind, cut{10, 0}, l[:0], nil)
		for _, c := range wrongCuts() {
			checkBuckets(t, kind, c, l, nil)
			checkBuckets(t, kind, c, nil, nil)
		}
	}
	for _, kind := range none() {
		checkBuckets(t, kind, cut{10, 0}, l, nil)
		checkBuckets(t, kind, cut{10, 0}, nil, nil)
		checkBuckets(t, kind, cut{0, 0}, l, nil)
	}
}

func TestBucketsOfATimeThatCannotBe(t *testing.T) {
	l := []api.Sample{{T: 1, V: 5}, {T: 9, V: 1}, {T: 12, V: 7}, {T: end, V: 2}}
	for _, at := range wrongTimes() {
		for i := range len(l) + 1 { // wherever it stands
			wrong := slices.Insert(slices.Clone(l), i, api.Sample{T: at, V: 3})
			for _, c := range rightCuts() {
				checkBuckets(t, agg.Sum, c, wrong, nil)
			}
		}
		checkBuckets(t, agg.Count, cut{10, 0}, []api.Sample{{T: at}}, nil)
	}
}

func TestFoldAndBucketsLeaveTheListAlone(t *testing.T) {
	room := []api.Sample{{T: 1, V: 5}, {T: 9, V: 7}, {T: 10, V: 1}, {T: 8, V: 4}, {T: 70, V: 6}, {T: 80, V: 9}, {T: 90, V: 3}}
	was := slices.Clone(room)
	for kind := -1; kind < 10; kind++ {
		for _, c := range []cut{{1, 0}, {10, 0}, {10, 10}, {100, 3}} {
			agg.Fold(kind, room[:4])
			got := agg.Buckets(kind, c.size, c.align, room[:4])
			got = append(got, api.Sample{T: -1, V: -1}) // into spare room, if there is some
			for i := range got {
				got[i] = api.Sample{T: -2, V: -2}
			}
			if !slices.Equal(room, was) {
				t.Fatalf("%d of %v: %v, and ahead of it %v", kind, c, room, was)
			}
		}
	}
}

func TestBucketsAreNewMemory(t *testing.T) {
	l := []api.Sample{{T: 1, V: 5}, {T: 9, V: 7}, {T: 10, V: 1}, {T: 35, V: 2}}
	for kind := agg.Sum; kind <= agg.Range; kind++ {
		for _, c := range []cut{{1, 0}, {10, 0}, {100, 0}} {
			want := told(kind, c, l)
			first := agg.Buckets(kind, c.size, c.align, l)
			second := agg.Buckets(kind, c.size, c.align, l)
			for i := range first {
				first[i] = api.Sample{T: -2, V: -2}
			}
			_ = append(first, api.Sample{T: -1, V: -1})
			if !slices.Equal(second, want) {
				t.Fatalf("%s of %v: %v, want %v", agg.Name(kind), c, second, want)
			}
			checkBuckets(t, kind, c, l, want)
		}
	}
}

func TestBucketsKeepNoList(t *testing.T) {
	l := []api.Sample{{T: 1, V: 5}, {T: 9, V: 7}, {T: 10, V: 1}}
	for kind := agg.Sum; kind <= agg.Range; kind++ {
		x := slices.Clone(l)
		want := told(kind, cut{1, 0}, l)
		got := agg.Buckets(kind, 1, 0, x)
		for i := range x {
			x[i] = api.Sample{T: 77, V: 77}
		}
		if !slices.Equal(got, want) {
			t.Errorf("%s: %v, want %v", agg.Name(kind), got, want)
		}
	}
}

// P6.5

func TestABucketHasItsTimesAlone(t *testing.T) {
	for _, c := range rightCuts() {
		start := func(at int) int { return agg.Start(at, c.size, c.align) }
		for _, at := range timesAbout(c) {
			begin, next := start(at), agg.End(at, c.size, c.align)
			if begin < 0 || begin > at || next <= at || next-begin > c.size {
				t.Fatalf("%v: %d stands from %d to %d", c, at, begin, next)
			}
			if start(begin) != begin || agg.End(begin, c.size, c.align) != next {
				t.Fatalf("%v: %d begins at %d, and that at %d", c, at, begin, start(begin))
			}
			if last := min(next-1, end); start(last) != begin {
				t.Fatalf("%v: %d begins at %d, and %d at %d", c, at, begin, last, start(last))
			}
			if begin > 0 && (start(begin-1) == begin || agg.End(begin-1, c.size, c.align) != begin) {
				t.Fatalf("%v: %d stands from %d to %d", c, begin-1, start(begin-1), agg.End(begin-1, c.size, c.align))
			}
			if next <= end && start(next) != next {
				t.Fatalf("%v: %d begins at %d", c, next, start(next))
			}
		}
	}
}

func TestEachBucketIsTheFoldOfItsTimes(t *testing.T) {
	vals := numbers(300, 9)
	for _, c := range []cut{{1, 0}, {3, 2}, {10, 0}, {10, 3}, {10, 9}, {1000, 7}} {
		l := samples(vals)
		for kind := agg.Sum; kind <= agg.Range; kind++ {
			many := 0
			for _, b := range agg.Buckets(kind, c.size, c.align, l) {
				in := l[b.T:min(len(l), agg.End(b.T, c.size, c.align))] // a sample stands at its time
				if v, ok := agg.Fold(kind, in); v != b.V || !ok {
					t.Errorf("%s of %v, from %d: %d; want %d", agg.Name(kind), c, b.T, b.V, v)
				}
				many += len(in)
			}
			if many != len(l) {
				t.Errorf("%s of %v: %d samples of %d", agg.Name(kind), c, many, len(l))
			}
		}
	}
}
