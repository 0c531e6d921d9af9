package rows_test

import (
	"slices"
	"testing"

	"tachograph/agg"
	"tachograph/api"
	"tachograph/rows"
)

// checkTell holds what a query is told against what it must be.
func checkTell(t *testing.T, l []api.Sample, q rows.Query, want []api.Sample) {
	t.Helper()
	if got, e := rows.Tell(l, q); e != api.OK || !slices.Equal(got, want) {
		t.Errorf("%+v of %v: %v, %d; want %v", q, l, got, e, want)
	}
}

// checkNoTell holds the error that a query is told against the one that it must be.
func checkNoTell(t *testing.T, l []api.Sample, q rows.Query, want api.Errno) {
	t.Helper()
	if got, e := rows.Tell(l, q); e != want || len(got) != 0 {
		t.Errorf("%+v of %d samples: %d, and %d samples; want %d", q, len(l), e, len(got), want)
	}
}

// some is samples of several buckets of 10.
func some() []api.Sample {
	return []api.Sample{{T: 2, V: 5}, {T: 4, V: 1}, {T: 13, V: 8}, {T: 44, V: -3}, {T: 49, V: 7}}
}

// P7.4

func TestTellExample(t *testing.T) {
	l := []api.Sample{{T: 1, V: 5}, {T: 35, V: 7}}
	q := rows.Query{To: 100, Kind: agg.Sum, Size: 10, Empty: true}
	checkTell(t, l, q, []api.Sample{{T: 0, V: 5}, {T: 10}, {T: 20}, {T: 30, V: 7}})
}

func TestTellOfSamplesAsTheyAre(t *testing.T) {
	l := some()
	checkTell(t, l, rows.Query{From: 2, To: 49}, l)
	checkTell(t, l, rows.Query{From: bottom, To: top}, l)
	checkTell(t, l, rows.Query{From: 3, To: 44}, l[1:4])
	checkTell(t, l, rows.Query{From: 4, To: 43}, l[1:3])
	checkTell(t, l, rows.Query{From: 13, To: 13}, l[2:3])
	checkTell(t, l, rows.Query{From: 12, To: 12}, nil)
	checkTell(t, l, rows.Query{From: 13, To: 12}, nil)
	checkTell(t, l, rows.Query{}, nil)
	checkTell(t, l, rows.Query{To: 50, Times: []int{49, 4, 5, 4}}, []api.Sample{l[1], l[4]})
	checkTell(t, l, rows.Query{To: 48, Times: []int{49, 4}}, l[1:2])
	checkTell(t, l, rows.Query{To: 50, Times: []int{3}}, nil)
	checkTell(t, l, rows.Query{To: 50, Values: true, Low: 1, High: 5}, l[:2])
	checkTell(t, l, rows.Query{To: 50, Values: true, Low: 5, High: 1}, nil)
	checkTell(t, l, rows.Query{To: 50, Values: true}, nil)
	checkTell(t, l, rows.Query{To: 50, Values: true, Low: bottom, High: top}, l)
	checkTell(t, l, rows.Query{To: 50, Low: 9, High: 8, Size: -3, Align: 77}, l) // what is not asked for says nothing
}

func TestTellTheOtherWayRound(t *testing.T) {
	l := some()
	checkTell(t, l, rows.Query{To: 50, Back: true}, []api.Sample{l[4], l[3], l[2], l[1], l[0]})
	checkTell(t, l, rows.Query{From: 4, To: 44, Back: true}, []api.Sample{l[3], l[2], l[1]})
	checkTell(t, l, rows.Query{To: 2, Back: true}, l[:1])
	checkTell(t, l, rows.Query{To: 1, Back: true}, nil)
}

func TestTellOfCounts(t *testing.T) {
	l := some()
	for _, many := range []int{0, 5, 6, 7, end, top} { // 0 is all, and more than there are is all, too
		checkTell(t, l, rows.Query{To: 50, Count: many}, l)
		checkTell(t, l, rows.Query{To: 50, Count: many, Back: true}, []api.Sample{l[4], l[3], l[2], l[1], l[0]})
	}
	for many := 1; many < 5; many++ {
		checkTell(t, l, rows.Query{To: 50, Count: many}, l[:many])
	}
	checkTell(t, l, rows.Query{To: 50, Count: 1, Back: true}, l[4:])
	checkTell(t, l, rows.Query{To: 50, Count: 4, Back: true}, []api.Sample{l[4], l[3], l[2], l[1]})
	checkTell(t, l, rows.Query{From: 4, To: 50, Count: 1}, l[1:2])
	checkTell(t, l, rows.Query{From: 3, To: 3, Count: 1}, nil)
}

func TestTellOfBuckets(t *testing.T) {
	l := some()
	for kind, want := range [][]int{
		agg.Sum:   {6, 8, 4},
		agg.Min:   {1, 8, -3},
		agg.Max:   {5, 8, 7},
		agg.Count: {2, 1, 2},
		agg.First: {5, 8, -3},
		agg.Last:  {1, 8, 7},
		agg.Range: {4, 0, 10},
	} {
		if kind == 0 {
			continue
		}
		q := rows.Query{To: 50, Kind: kind, Size: 10}
		told := []api.Sample{{T: 0, V: want[0]}, {T: 10, V: want[1]}, {T: 40, V: want[2]}}
		checkTell(t, l, q, told)
		q.Count = 2
		checkTell(t, l, q, told[:2])
		q.Back = true
		checkTell(t, l, q, []api.Sample{told[2], told[1]})
	}
	checkTell(t, l, rows.Query{To: 50, Kind: agg.Sum, Size: 10, Align: 4}, []api.Sample{{T: 0, V: 5}, {T: 4, V: 9}, {T: 44, V: 4}})
}

func TestTellMakesBucketsOfWhatPasses(t *testing.T) {
	l := some()
	q := rows.Query{From: 3, To: 48, Kind: agg.Sum, Size: 10} // a bucket of which not all is asked for
	checkTell(t, l, q, []api.Sample{{T: 0, V: 1}, {T: 10, V: 8}, {T: 40, V: -3}})
	q.Empty = true
	checkTell(t, l, q, []api.Sample{{T: 0, V: 1}, {T: 10, V: 8}, {T: 20}, {T: 30}, {T: 40, V: -3}})
	q = rows.Query{To: 50, Values: true, Low: 1, High: 7, Kind: agg.Count, Size: 10}
	checkTell(t, l, q, []api.Sample{{T: 0, V: 2}, {T: 40, V: 1}}) // values of samples, not of buckets
	q = rows.Query{To: 50, Times: []int{4, 44, 49}, Kind: agg.Sum, Size: 10}
	checkTell(t, l, q, []api.Sample{{T: 0, V: 1}, {T: 40, V: 4}}) // times of samples, not of buckets
	q = rows.Query{From: 44, To: 49, Kind: agg.Sum, Size: 10}
	checkTell(t, l, q, []api.Sample{{T: 40, V: 4}}) // a bucket can begin ahead of From
}

func TestTellOfEmptyBuckets(t *testing.T) {
	l := some()
	q := rows.Query{To: 50, Kind: agg.Last, Size: 10, Empty: true}
	checkTell(t, l, q, []api.Sample{{T: 0, V: 1}, {T: 10, V: 8}, {T: 20, V: 8}, {T: 30, V: 8}, {T: 40, V: 7}})
	q.Back = true // the bucket ahead in time, not the one ahead in what is told
	checkTell(t, l, q, []api.Sample{{T: 40, V: 7}, {T: 30, V: 8}, {T: 20, V: 8}, {T: 10, V: 8}, {T: 0, V: 1}})
	q.Count = 3 // of what is filled
	checkTell(t, l, q, []api.Sample{{T: 40, V: 7}, {T: 30, V: 8}, {T: 20, V: 8}})
	q.Back = false
	checkTell(t, l, q, []api.Sample{{T: 0, V: 1}, {T: 10, V: 8}, {T: 20, V: 8}})
	for _, kind := range []int{agg.Min, agg.Max, agg.First, agg.Range} {
		q = rows.Query{To: 50, Kind: kind, Size: 10}
		want, _ := rows.Tell(l, q)
		q.Empty = true
		checkTell(t, l, q, want)
	}
}

func TestTellOfNoSamples(t *testing.T) {
	for _, l := range [][]api.Sample{nil, {}, some()[:0]} {
		for _, q := range []rows.Query{
			{}, {To: 50}, {To: 50, Back: true}, {To: 50, Count: 1}, {To: 50, Back: true, Count: 1}, {To: 50, Times: []int{0, 0}},
			{To: 50, Kind: agg.Count, Size: 10}, {To: 50, Kind: agg.Sum, Size: 10, Empty: true}, {To: 50, Kind: agg.Max, Size: 1, Empty: true, Back: true, Count: 9},
		} {
			checkTell(t, l, q, nil)
		}
		checkNoTell(t, l, rows.Query{Count: -1}, api.ErrArg)
		checkNoTell(t, l, rows.Query{Empty: true}, api.ErrArg)
	}
}

func TestTellOfTimesThatDoNotRise(t *testing.T) {
	l := []api.Sample{{T: 21, V: 1}, {T: 3, V: 2}, {T: 5, V: 4}, {T: 21, V: 8}, {T: 29, V: 16}}
	checkTell(t, l, rows.Query{To: 50}, l)
	checkTell(t, l, rows.Query{From: 4, To: 28}, []api.Sample{l[0], l[2], l[3]})
	checkTell(t, l, rows.Query{To: 50, Back: true, Count: 2}, []api.Sample{l[4], l[3]})
	q := rows.Query{To: 50, Kind: agg.Sum, Size: 10}
	checkTell(t, l, q, []api.Sample{{T: 20, V: 1}, {T: 0, V: 6}, {T: 20, V: 24}})
	for _, kind := range kinds() {
		q.Kind, q.Empty, q.Count = kind, true, 0
		checkNoTell(t, l, q, api.ErrArg)
		q.Count = 1 // what Count leaves of it is of no account
		checkNoTell(t, l, q, api.ErrArg)
		q.Back = true
		checkNoTell(t, l, q, api.ErrArg)
		q.Back = false
	}
	q = rows.Query{From: 0, To: 20, Kind: agg.Sum, Size: 10, Empty: true} // what passes does rise
	checkTell(t, l, q, []api.Sample{{T: 0, V: 6}})
	q = rows.Query{From: 4, To: 50, Kind: agg.Sum, Size: 100, Empty: true} // and so do the buckets
	checkTell(t, l, q, []api.Sample{{T: 0, V: 29}})
}

func TestTellOfATimeThatNoBucketHas(t *testing.T) {
	for _, at := range []int{-1, -10, bottom, end + 1, top} {
		l := append(some(), api.Sample{T: at, V: 6})
		all := rows.Query{From: bottom, To: top}
		checkTell(t, l, all, l)
		for _, kind := range kinds() {
			q := all
			q.Kind, q.Size = kind, 10
			checkTell(t, l, q, nil)
			q.Empty = true
			checkTell(t, l, q, nil)
			q.Back, q.Count = true, 3
			checkTell(t, l, q, nil)
			q = rows.Query{From: 0, To: end, Kind: kind, Size: 100} // it does not pass
			v, _ := agg.Fold(kind, some())
			checkTell(t, l, q, []api.Sample{{T: 0, V: v}})
		}
	}
	last := []api.Sample{{T: end, V: 6}} // the end of all times has a bucket
	checkTell(t, last, rows.Query{To: end, Kind: agg.Sum, Size: 1, Empty: true}, last)
}

func TestTellOfTooManyBuckets(t *testing.T) {
	l := []api.Sample{{T: 0, V: 1}, {T: 9999, V: 2}, {T: 10000, V: 3}, {T: end - 1, V: 4}}
	q := rows.Query{To: 9999, Kind: agg.Count, Size: 1, Empty: true}
	checkTell(t, l, q, whole(agg.Count, cut{1, 0}, []api.Sample{{T: 0, V: 1}, {T: 9999, V: 1}}))
	for _, to := range []int{10000, end} {
		q.To = to
		for _, kind := range []int{agg.Sum, agg.Count, agg.Last} {
			for _, count := range []int{0, 1, 10000} {
				for _, back := range []bool{false, true} { // what Count would leave of it is of no account
					q.Kind, q.Count, q.Back = kind, count, back
					checkNoTell(t, l, q, api.ErrBig)
				}
			}
		}
		q.Kind, q.Count, q.Back = agg.Max, 0, false
		want := slices.DeleteFunc(slices.Clone(l), func(x api.Sample) bool { return x.T > to })
		checkTell(t, l, q, want)
	}
	q = rows.Query{To: end, Kind: agg.Sum, Size: end / 2, Empty: true}
	checkTell(t, l, q, []api.Sample{{T: 0, V: 6}, {T: end / 2, V: 4}})
}

func TestTellOfALongList(t *testing.T) {
	for _, many := range []int{10000, 10001, 12345} {
		q := rows.Query{To: end, Kind: agg.Sum, Size: 10}
		checkTell(t, row(many), q, row(many)) // without Empty there may be more
		checkTell(t, row(many), rows.Query{To: end}, row(many))
		q.Empty = true
		for _, kind := range kinds() {
			q.Kind = kind
			if many > 10000 {
				checkNoTell(t, row(many), q, api.ErrBig)
			} else if got, e := rows.Tell(row(many), q); e != api.OK || len(got) != many {
				t.Error(kind, len(got), e)
			}
		}
	}
}

// asked is queries of all kinds of things, one with the other.
func asked() []rows.Query {
	var all []rows.Query
	for _, times := range [][]int{nil, {3, 40, 17, 90, 91, 92, 150, 3}} {
		for _, values := range []bool{false, true} {
			for _, ends := range [][2]int{{0, end}, {17, 90}, {40, 40}, {90, 17}} {
				for _, b := range []rows.Query{{}, {Kind: agg.Sum, Size: 7}, {Kind: agg.Last, Size: 5, Align: 3}, {Kind: agg.Last, Size: 5, Align: 3, Empty: true}, {Kind: agg.Count, Size: 1, Empty: true}, {Kind: agg.Min, Size: 10, Align: 9, Empty: true}} {
					b.Times, b.Values, b.From, b.To, b.Low, b.High = times, values, ends[0], ends[1], -10, 10
					all = append(all, b)
				}
			}
		}
	}
	return all
}

// told is what the chapter's words say that a query without Back and Count is told.
func told(l []api.Sample, q rows.Query) []api.Sample {
	var all []api.Sample
	for _, x := range l {
		in := x.T >= q.From && x.T <= q.To
		one := len(q.Times) == 0
		for _, at := range q.Times {
			one = one || at == x.T
		}
		if in && one && (!q.Values || x.V >= q.Low && x.V <= q.High) {
			all = append(all, x)
		}
	}
	if q.Kind != 0 {
		all = agg.Buckets(q.Kind, q.Size, q.Align, all)
	}
	if q.Empty {
		all = whole(q.Kind, cut{q.Size, q.Align}, all)
	}
	return all
}

func TestTellOfEachQuery(t *testing.T) {
	for seed := range 10 {
		l := rising(5*seed, uint64(seed))
		for _, q := range asked() {
			checkTell(t, l, q, told(l, q))
		}
	}
}

// P7.5

func TestCountTellsTheFirstOnes(t *testing.T) {
	l := rising(30, 5)
	for _, q := range asked() {
		for _, back := range []bool{false, true} {
			q.Count, q.Back = 0, back
			all, _ := rows.Tell(l, q)
			for _, many := range []int{1, 2, 3, len(all) - 1, len(all), len(all) + 1, top} {
				if many > 0 {
					q.Count = many
					checkTell(t, l, q, all[:min(many, len(all))])
				}
			}
		}
	}
}

func TestBackTellsTheSameTheOtherWayRound(t *testing.T) {
	for seed := range 10 {
		l := rising(4*seed, uint64(seed)+50)
		for _, q := range asked() {
			want, _ := rows.Tell(l, q)
			slices.Reverse(want)
			q.Back = true
			checkTell(t, l, q, want)
		}
	}
}

func TestTellLeavesItsListsAlone(t *testing.T) {
	room := append(some(), api.Sample{T: 90, V: 1}, api.Sample{T: 91, V: 2}, api.Sample{T: 92, V: 3})
	times := []int{49, 4, 44, 4, 1, 2, 3}
	was, wasTimes := slices.Clone(room), slices.Clone(times)
	for _, q := range append(asked(), rows.Query{To: 50, Count: -1}, rows.Query{To: 50, Empty: true}) {
		for _, count := range []int{0, 2} {
			for _, many := range []int{0, 4} {
				q.Times, q.Back, q.Count = times[:many], !q.Back, count
				got, _ := rows.Tell(room[:5], q)
				got = append(got, api.Sample{T: -1, V: -1})
				got = got[:cap(got)] // its spare room is its own, too
				for i := range got {
					got[i] = api.Sample{T: -2, V: -2}
				}
				if !slices.Equal(room, was) || !slices.Equal(times, wasTimes) {
					t.Fatalf("%+v: %v, %v; and ahead of it %v, %v", q, room, times, was, wasTimes)
				}
			}
		}
	}
}

func TestTellKeepsNothing(t *testing.T) {
	l, times := some(), []int{2, 13, 49}
	for _, back := range []bool{false, true} {
		for _, q := range []rows.Query{{}, {Count: 2}, {Kind: agg.Max, Size: 10}, {Kind: agg.Last, Size: 10, Empty: true}, {Kind: agg.Max, Size: 1, Empty: true}} {
			x := slices.Clone(l)
			q.To, q.Back, q.Times = 50, back, slices.Clone(times)
			first, _ := rows.Tell(x, q)
			second, _ := rows.Tell(x, q)
			want := slices.Clone(first)
			for i := range first {
				first[i] = api.Sample{T: -2, V: -2}
			}
			for i := range x {
				x[i] = api.Sample{T: 77, V: 77}
			}
			for i := range q.Times {
				q.Times[i] = 77
			}
			if !slices.Equal(second, want) {
				t.Errorf("%+v: %v, want %v", q, second, want)
			}
			q.Times = times
			checkTell(t, l, q, want) // nor does a call hang on the one ahead
		}
	}
}
