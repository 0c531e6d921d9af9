package rows_test

import (
	"math"
	"slices"
	"testing"

	"tachograph/agg"
	"tachograph/api"
	"tachograph/rows"
)

const (
	top    = math.MaxInt
	bottom = math.MinInt
	end    = 1 << 40 // of all times, and the greatest size
)

// cut is a size and an alignment.
type cut struct{ size, align int }

// rightCuts is sizes and alignments, the edges among them.
func rightCuts() []cut {
	return []cut{
		{1, 0}, {2, 0}, {2, 1}, {3, 2}, {10, 0}, {10, 3}, {10, 9}, {1000, 1}, {1000, 999},
		{end - 1, 0}, {end - 1, end - 2}, {end, 0}, {end, 1}, {end, end - 1},
	}
}

// wrongCuts is sizes and alignments of which there are no buckets.
func wrongCuts() []cut {
	return []cut{
		{0, 0}, {0, -1}, {0, 1}, {-1, 0}, {-10, 0}, {-10, -20}, {bottom, 0}, {bottom, bottom},
		{end + 1, 0}, {end + 1, 5}, {end + 1, end}, {2 * end, 0}, {top, 0}, {top, 7}, {top, top},
		{1, -1}, {1, 1}, {1, 2}, {10, -1}, {10, 10}, {10, 11}, {10, top}, {10, bottom},
		{end, -1}, {end, end}, {end, end + 1}, {end, top}, {end, bottom}, {end - 1, end - 1},
	}
}

// noKinds is numbers that are neither kinds nor 0.
func noKinds() []int {
	return []int{-1, -2, -7, 8, 9, 255, 256, 257, 1 << 32, 1<<32 + 1, top, bottom, bottom + 1}
}

// kinds is all there are.
func kinds() []int {
	return []int{agg.Sum, agg.Min, agg.Max, agg.Count, agg.First, agg.Last, agg.Range}
}

// fills tells whether a kind has something to say of an empty bucket.
func fills(kind int) bool {
	return kind == agg.Sum || kind == agg.Count || kind == agg.Last
}

// numbers is a row of numbers that look like chance, always the same of one seed.
func numbers(many int, seed uint64) []int {
	l := make([]int, many)
	x := 88172645463325252 + seed*2654435761
	for i := range l {
		x ^= x << 13
		x ^= x >> 7
		x ^= x << 17
		l[i] = int(x >> 20)
	}
	return l
}

// alike is many times that are the same one.
func alike(many, at int) []int {
	return slices.Repeat([]int{at}, many)
}

// checkRight holds what Right tells of a query against what it must, and Tell with it.
func checkRight(t *testing.T, q rows.Query, want api.Errno) {
	t.Helper()
	if e := rows.Right(q); e != want {
		t.Errorf("Right(%+v): %d, want %d", q, e, want)
	}
	l, e := rows.Tell([]api.Sample{{T: 5, V: 6}, {T: 8, V: 9}}, q)
	if e != want || e != api.OK && len(l) != 0 {
		t.Errorf("Tell of %+v: %v, %d; want %d", q, l, e, want)
	}
}

// P7.1

func TestRightOfPlainQueries(t *testing.T) {
	for _, q := range []rows.Query{
		{},
		{From: 0, To: end - 1},
		{From: bottom, To: top},
		{From: 5, To: 5},
		{From: 9, To: 3}, // what nothing can pass is asked all the same
		{From: top, To: bottom},
		{Back: true},
		{Values: true},
		{Values: true, Low: 9, High: 3},
		{Values: true, Low: top, High: bottom},
		{Low: 9, High: 3},
		{To: 100, Back: true, Count: 3, Kind: agg.Last, Size: 10, Align: 9, Empty: true, Times: []int{3, 4}, Values: true, Low: -5, High: 5},
	} {
		checkRight(t, q, api.OK)
	}
}

func TestRightOfCounts(t *testing.T) {
	for _, q := range []rows.Query{{To: 10}, {To: 10, Kind: agg.Sum, Size: 5}, {To: 10, Kind: agg.Last, Size: 5, Empty: true}, {To: 10, Back: true}} {
		for _, count := range []int{0, 1, 2, 3, 10001, end, end + 1, top} {
			q.Count = count
			checkRight(t, q, api.OK)
		}
		for _, count := range []int{-1, -2, -end, bottom + 1, bottom} {
			q.Count = count
			checkRight(t, q, api.ErrArg)
		}
	}
}

func TestRightOfTimes(t *testing.T) {
	for _, many := range []int{0, 1, 2, 31, 32} {
		checkRight(t, rows.Query{Times: alike(many, 7)}, api.OK)
		checkRight(t, rows.Query{Times: numbers(many, 1)}, api.OK)
		checkRight(t, rows.Query{Times: numbers(many, 1), Kind: agg.Min, Size: 1}, api.OK)
	}
	for _, many := range []int{33, 34, 64, 256, 257, 1000} {
		checkRight(t, rows.Query{Times: alike(many, 7)}, api.ErrArg) // the same one counts each time
		checkRight(t, rows.Query{Times: numbers(many, 1)}, api.ErrArg)
		checkRight(t, rows.Query{Times: numbers(many, 1), Kind: agg.Min, Size: 1}, api.ErrArg)
	}
	checkRight(t, rows.Query{Times: []int{}}, api.OK)
	checkRight(t, rows.Query{Times: []int{-1, end, end + 1, bottom, top}}, api.OK) // no time that there can be, but no error either
	checkRight(t, rows.Query{Times: make([]int, 32, 100)}, api.OK)
}

func TestRightOfKinds(t *testing.T) {
	for _, kind := range kinds() {
		checkRight(t, rows.Query{Kind: kind, Size: 1}, api.OK)
		checkRight(t, rows.Query{Kind: kind, Size: 1, Empty: true}, api.OK)
		checkRight(t, rows.Query{Kind: kind}, api.ErrArg)
	}
	for _, kind := range noKinds() {
		checkRight(t, rows.Query{Kind: kind, Size: 1}, api.ErrArg)
		checkRight(t, rows.Query{Kind: kind, Size: 1, Empty: true}, api.ErrArg)
		checkRight(t, rows.Query{Kind: kind}, api.ErrArg)
	}
}

func TestRightOfSizesAndAlignments(t *testing.T) {
	for _, c := range rightCuts() {
		for _, kind := range kinds() {
			checkRight(t, rows.Query{Kind: kind, Size: c.size, Align: c.align}, api.OK)
			checkRight(t, rows.Query{Kind: kind, Size: c.size, Align: c.align, Empty: true}, api.OK)
		}
		checkRight(t, rows.Query{Size: c.size, Align: c.align}, api.OK)
	}
	for _, c := range wrongCuts() {
		for _, kind := range kinds() {
			checkRight(t, rows.Query{Kind: kind, Size: c.size, Align: c.align}, api.ErrArg)
			checkRight(t, rows.Query{Kind: kind, Size: c.size, Align: c.align, Empty: true}, api.ErrArg)
		}
		checkRight(t, rows.Query{Size: c.size, Align: c.align}, api.OK) // without a kind nobody asks for them
	}
}

func TestRightOfEmpty(t *testing.T) {
	checkRight(t, rows.Query{Empty: true}, api.ErrArg)
	checkRight(t, rows.Query{Empty: true, Size: 10}, api.ErrArg)
	checkRight(t, rows.Query{Empty: true, Size: 10, Align: 3, To: 100, Back: true, Count: 2}, api.ErrArg)
	checkRight(t, rows.Query{Empty: true, Size: 10, Kind: agg.Sum}, api.OK)
	checkRight(t, rows.Query{Empty: true, Size: 10, Kind: agg.Max}, api.OK)
}

func TestRightOfSeveralThingsThatAreWrong(t *testing.T) {
	for _, q := range []rows.Query{
		{Count: -1, Times: alike(33, 1)},
		{Count: -1, Kind: 8},
		{Count: -1, Empty: true},
		{Times: alike(33, 1), Kind: agg.Sum},
		{Kind: -1, Size: -1, Align: -1, Empty: true},
		{Kind: agg.Sum, Size: end + 1, Align: end + 1},
	} {
		checkRight(t, q, api.ErrArg)
	}
}

// P7.2

// checkPass holds what Pass tells against what it must.
func checkPass(t *testing.T, q rows.Query, x api.Sample, want bool) {
	t.Helper()
	if got := rows.Pass(q, x); got != want {
		t.Errorf("Pass(%+v, %v): %v", q, x, got)
	}
}

func TestPassByTime(t *testing.T) {
	edges := []int{bottom, bottom + 1, -7, -1, 0, 1, 2, 10, 11, end - 1, end, end + 1, top - 1, top}
	for _, from := range edges {
		for _, to := range edges {
			for _, at := range edges {
				want := !(at < from) && !(at > to) // from above to: none
				checkPass(t, rows.Query{From: from, To: to}, api.Sample{T: at, V: 3}, want)
				checkPass(t, rows.Query{From: from, To: to, Low: 5, High: 4}, api.Sample{T: at, V: 3}, want)
			}
		}
	}
}

func TestPassByValue(t *testing.T) {
	edges := []int{bottom, bottom + 1, -7, -1, 0, 1, 2, 10, 11, end, top - 1, top}
	for _, low := range edges {
		for _, high := range edges {
			for _, v := range edges {
				q := rows.Query{From: 5, To: 5, Low: low, High: high}
				checkPass(t, q, api.Sample{T: 5, V: v}, true) // without Values Low and High say nothing
				q.Values = true
				checkPass(t, q, api.Sample{T: 5, V: v}, !(v < low) && !(v > high))
				checkPass(t, q, api.Sample{T: 6, V: v}, false)
			}
		}
	}
}

func TestPassByTimes(t *testing.T) {
	l := make([]int, 32)
	for i := range l {
		l[i] = 1000 - 3*i // in no rising order
	}
	for many := range 33 {
		q := rows.Query{To: 2000, Times: l[:many]}
		for at := 800; at < 1100; at++ {
			checkPass(t, q, api.Sample{T: at}, many == 0 || slices.Contains(l[:many], at))
		}
	}
	for _, times := range [][]int{{7, 7}, {7, 8, 7}, alike(32, 7)} { // the same one twice
		checkPass(t, rows.Query{To: 10, Times: times}, api.Sample{T: 7}, true)
		checkPass(t, rows.Query{To: 10, Times: times}, api.Sample{T: 6}, false)
	}
	for _, none := range [][]int{nil, {}, l[:0]} {
		checkPass(t, rows.Query{To: 10, Times: none}, api.Sample{T: 7}, true)
	}
	edges := []int{bottom, -1, 0, end, top}
	for _, at := range edges {
		checkPass(t, rows.Query{From: bottom, To: top, Times: edges}, api.Sample{T: at}, true)
		checkPass(t, rows.Query{From: bottom, To: top, Times: edges}, api.Sample{T: at ^ 2}, false)
	}
}

func TestPassAsksForAllAtOnce(t *testing.T) {
	q := rows.Query{From: 3, To: 9, Times: []int{2, 3, 7, 9, 10}, Values: true, Low: -4, High: 4}
	for at := range 14 {
		for v := -6; v <= 6; v++ {
			want := (at == 3 || at == 7 || at == 9) && v >= -4 && v <= 4
			checkPass(t, q, api.Sample{T: at, V: v}, want)
		}
	}
}

func TestPassTakesNoHeedOfTheRest(t *testing.T) {
	for _, q := range []rows.Query{
		{Back: true}, {Count: 1}, {Kind: agg.Sum, Size: 10, Align: 3}, {Kind: agg.Last, Size: 10, Empty: true},
		{Count: -1}, {Kind: 8}, {Kind: agg.Sum}, {Empty: true}, {Size: -1, Align: -1}, // those that are wrong, too
	} {
		q.From, q.To = 5, 15
		checkPass(t, q, api.Sample{T: 5, V: 1}, true)
		checkPass(t, q, api.Sample{T: 15, V: 1}, true)
		checkPass(t, q, api.Sample{T: 4, V: 1}, false)
		checkPass(t, q, api.Sample{T: 16, V: 1}, false)
	}
	many := append(alike(40, 6), 9) // more than Right lets by
	checkPass(t, rows.Query{To: 15, Times: many}, api.Sample{T: 9}, true)
	checkPass(t, rows.Query{To: 15, Times: many}, api.Sample{T: 8}, false)
}

func TestRightAndPassLeaveTheTimesAlone(t *testing.T) {
	room := []int{9, 3, 7, 3, 1, 8, 2}
	was := slices.Clone(room)
	q := rows.Query{To: 10, Times: room[:4], Kind: agg.Sum, Size: 5}
	for at := range 12 {
		rows.Right(q)
		rows.Pass(q, api.Sample{T: at})
	}
	if !slices.Equal(room, was) {
		t.Errorf("%v, and ahead of it %v", room, was)
	}
	room[1] = 5 // what is not kept is asked anew
	checkPass(t, q, api.Sample{T: 5}, true)
	room[1], room[3] = 4, 4
	checkPass(t, q, api.Sample{T: 3}, false)
}
