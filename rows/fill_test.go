package rows_test

import (
	"slices"
	"testing"

	"tachograph/agg"
	"tachograph/api"
	"tachograph/rows"
)

// next is where the bucket behind the one that begins at b begins.
func next(b int, c cut) int {
	if b < c.align {
		return c.align
	}
	return b + c.size
}

// whole is what the chapter's words say that Fill tells of buckets, found by going over the beginnings one by one.
func whole(kind int, c cut, l []api.Sample) []api.Sample {
	var all []api.Sample
	for i, x := range l {
		if i > 0 && fills(kind) {
			ahead := l[i-1]
			for b := next(ahead.T, c); b < x.T; b = next(b, c) {
				y := api.Sample{T: b}
				if kind == agg.Last {
					y.V = ahead.V
				}
				all = append(all, y)
			}
		}
		all = append(all, x)
	}
	return all
}

// checkFill holds what Fill tells against what it must.
func checkFill(t *testing.T, kind int, c cut, l, want []api.Sample) {
	t.Helper()
	if got, e := rows.Fill(kind, c.size, c.align, l); e != api.OK || !slices.Equal(got, want) {
		t.Errorf("Fill of %d, %v, of %v: %v, %d; want %v", kind, c, l, got, e, want)
	}
}

// checkNoFill holds the error that Fill answers against the one that it must.
func checkNoFill(t *testing.T, kind int, c cut, l []api.Sample, want api.Errno) {
	t.Helper()
	if got, e := rows.Fill(kind, c.size, c.align, l); e != want || len(got) != 0 {
		t.Errorf("Fill of %d, %v, of %d samples: %d, and %d samples; want %d", kind, c, len(l), e, len(got), want)
	}
}

// P7.3

func TestFillOfEachKind(t *testing.T) {
	l := []api.Sample{{T: 0, V: 5}, {T: 3, V: 7}, {T: 13, V: -2}, {T: 33, V: 9}, {T: 63, V: 4}}
	nought := []api.Sample{{T: 0, V: 5}, {T: 3, V: 7}, {T: 13, V: -2}, {T: 23, V: 0}, {T: 33, V: 9}, {T: 43, V: 0}, {T: 53, V: 0}, {T: 63, V: 4}}
	ahead := []api.Sample{{T: 0, V: 5}, {T: 3, V: 7}, {T: 13, V: -2}, {T: 23, V: -2}, {T: 33, V: 9}, {T: 43, V: 9}, {T: 53, V: 9}, {T: 63, V: 4}}
	for kind, want := range [][]api.Sample{
		agg.Sum:   nought,
		agg.Min:   l,
		agg.Max:   l,
		agg.Count: nought,
		agg.First: l,
		agg.Last:  ahead,
		agg.Range: l,
	} {
		if kind > 0 {
			checkFill(t, kind, cut{10, 3}, l, want)
		}
	}
}

func TestFillOfNoneAndOne(t *testing.T) {
	for _, kind := range kinds() {
		for _, c := range rightCuts() {
			checkFill(t, kind, c, nil, nil)
			checkFill(t, kind, c, []api.Sample{}, nil)
			for _, b := range []int{0, c.align, c.align + c.size} {
				if b <= end {
					one := []api.Sample{{T: b, V: 8}} // nothing ahead of it, nothing behind it
					checkFill(t, kind, c, one, one)
				}
			}
		}
	}
}

func TestFillOfTwo(t *testing.T) {
	for _, kind := range kinds() {
		for _, c := range []cut{{1, 0}, {2, 1}, {3, 2}, {10, 0}, {10, 3}, {10, 9}, {1000, 999}, {end / 16, 7}, {end / 16, 0}} {
			for b := 0; b < 3*c.size; b = next(b, c) { // ahead of the alignment, at it and behind it
				to := b
				for gap := range 6 {
					to = next(to, c)
					l := []api.Sample{{T: b, V: 6}, {T: to, V: -6}}
					want := whole(kind, c, l)
					if fills(kind) && len(want) != gap+2 {
						t.Fatalf("%v from %d to %d: %d buckets", c, b, to, len(want))
					}
					checkFill(t, kind, c, l, want)
				}
			}
		}
	}
}

func TestFillAheadOfTheAlignment(t *testing.T) {
	l := []api.Sample{{T: 0, V: 6}, {T: 29, V: 1}}
	checkFill(t, agg.Sum, cut{10, 9}, l, []api.Sample{{T: 0, V: 6}, {T: 9}, {T: 19}, {T: 29, V: 1}})
	checkFill(t, agg.Last, cut{10, 9}, l, []api.Sample{{T: 0, V: 6}, {T: 9, V: 6}, {T: 19, V: 6}, {T: 29, V: 1}})
	checkFill(t, agg.Count, cut{29, 0}, l, l)
	checkFill(t, agg.Count, cut{30, 29}, l, l) // the bucket ahead of the alignment is the one ahead of it
	checkFill(t, agg.Count, cut{28, 1}, l, []api.Sample{{T: 0, V: 6}, {T: 1}, {T: 29, V: 1}})
}

func TestFillAtTheEdges(t *testing.T) {
	for _, kind := range []int{agg.Sum, agg.Count, agg.Last} {
		for _, c := range []struct {
			cut cut
			l   []api.Sample
		}{
			{cut{1, 0}, []api.Sample{{T: end - 3, V: top}, {T: end, V: bottom}}},
			{cut{end, 0}, []api.Sample{{T: 0, V: 1}, {T: end, V: 2}}},
			{cut{end, end - 1}, []api.Sample{{T: 0, V: 1}, {T: end - 1, V: 2}}},
			{cut{end / 2, 0}, []api.Sample{{T: 0, V: bottom}, {T: end, V: top}}},
			{cut{end / 2, end/2 - 1}, []api.Sample{{T: 0, V: bottom}, {T: end - 1, V: top}}},
			{cut{end - 1, 1}, []api.Sample{{T: 0, V: 3}, {T: end, V: 4}}},
			{cut{end - 1, 0}, []api.Sample{{T: 0, V: 3}, {T: end - 1, V: 4}}},
			{cut{end / 4096, 5}, []api.Sample{{T: 5, V: -1}, {T: 5 + 4095*(end/4096), V: -2}}},
		} {
			checkFill(t, kind, c.cut, c.l, whole(kind, c.cut, c.l))
		}
	}
}

func TestFillOfManyBuckets(t *testing.T) {
	for seed := range 60 {
		ns := numbers(2*seed+2, uint64(seed))
		c := cut{size: 1 + ns[0]%20}
		c.align = ns[1] % c.size
		var l []api.Sample
		b := 0
		for _, n := range ns[2:] {
			l = append(l, api.Sample{T: b, V: n - 1<<43})
			for range 1 + n%5*(n>>10%3) {
				b = next(b, c)
			}
		}
		for _, kind := range kinds() {
			checkFill(t, kind, c, l, whole(kind, c, l))
		}
	}
}

func TestFillOfNoKind(t *testing.T) {
	for _, kind := range append(noKinds(), 0) {
		for _, l := range [][]api.Sample{nil, {{T: 10, V: 1}}, {{T: 10, V: 1}, {T: 40, V: 2}}} {
			checkNoFill(t, kind, cut{10, 0}, l, api.ErrArg)
		}
	}
}

func TestFillOfWrongSizesAndAlignments(t *testing.T) {
	for _, kind := range kinds() {
		for _, c := range wrongCuts() {
			for _, l := range [][]api.Sample{nil, {{T: 0, V: 1}}, {{T: 0, V: 1}, {T: 40, V: 2}}} {
				checkNoFill(t, kind, c, l, api.ErrArg)
			}
		}
	}
}

func TestFillOfATimeThatCannotBe(t *testing.T) {
	l := []api.Sample{{T: 0, V: 1}, {T: 3, V: 2}, {T: 33, V: 3}}
	for _, kind := range kinds() {
		checkFill(t, kind, cut{10, 3}, l, whole(kind, cut{10, 3}, l))
		for _, at := range []int{-1, -7, -10, -end, bottom, bottom + 1, end + 1, end + 7, 2 * end, top, 1, 2, 4, 12, 14, 32, 34, end} { // end begins none of 10 from 3 on
			checkNoFill(t, kind, cut{10, 3}, []api.Sample{{T: at, V: 1}}, api.ErrArg)
			for i := range len(l) + 1 { // wherever it stands
				wrong := slices.Insert(slices.Clone(l), i, api.Sample{T: at, V: 9})
				checkNoFill(t, kind, cut{10, 3}, wrong, api.ErrArg)
			}
		}
		checkNoFill(t, kind, cut{1, 0}, []api.Sample{{T: end + 1}}, api.ErrArg)
		checkNoFill(t, kind, cut{end, 0}, []api.Sample{{T: 0}, {T: 2 * end}}, api.ErrArg)
		checkNoFill(t, kind, cut{1, 0}, []api.Sample{{T: -1}}, api.ErrArg)
		checkNoFill(t, kind, cut{end, 5}, []api.Sample{{T: end}}, api.ErrArg)
		checkNoFill(t, kind, cut{end, 0}, []api.Sample{{T: end - 1}}, api.ErrArg)
	}
}

func TestFillOfTimesThatDoNotRise(t *testing.T) {
	for _, kind := range kinds() {
		for _, times := range [][]int{{0, 0}, {10, 10}, {20, 10}, {10, 0}, {0, 10, 10}, {0, 20, 10}, {0, 20, 10, 40}, {20, 0, 40}, {10, 20, 40, 0}, {end, end}, {end, 0}} {
			var l []api.Sample
			for i, at := range times {
				l = append(l, api.Sample{T: at, V: i})
			}
			size := 10
			if times[0] == end {
				size = end
			}
			checkNoFill(t, kind, cut{size, 0}, l, api.ErrArg)
		}
	}
}

func TestFillOfTheMost(t *testing.T) {
	for _, kind := range []int{agg.Sum, agg.Count, agg.Last} {
		for _, c := range []struct {
			cut cut
			l   []api.Sample // 10000 then
		}{
			{cut{1, 0}, []api.Sample{{T: 0, V: 1}, {T: 9999, V: 2}}},
			{cut{1, 0}, []api.Sample{{T: end - 9999, V: 1}, {T: end, V: 2}}},
			{cut{1, 0}, []api.Sample{{T: 7, V: 1}, {T: 5000, V: 3}, {T: 5001, V: 4}, {T: 10006, V: 2}}},
			{cut{10, 9}, []api.Sample{{T: 0, V: 1}, {T: 9 + 9998*10, V: 2}}},
			{cut{end / 16384, 5}, []api.Sample{{T: 5, V: 1}, {T: 5 + 9999*(end/16384), V: 2}}},
		} {
			want := whole(kind, c.cut, c.l)
			if len(want) != 10000 {
				t.Fatal(c.cut, len(want))
			}
			checkFill(t, kind, c.cut, c.l, want)
			l := slices.Clone(c.l)
			if l[0].T > 0 { // there is room for one more ahead of it
				begin := max(0, l[0].T-c.cut.size)
				checkNoFill(t, kind, c.cut, slices.Insert(slices.Clone(l), 0, api.Sample{T: begin}), api.ErrBig)
			}
			last := next(l[len(l)-1].T, c.cut)
			if last <= end { // and behind it
				checkNoFill(t, kind, c.cut, append(slices.Clone(l), api.Sample{T: last, V: 5}), api.ErrBig)
				l[len(l)-1].T = last // a gap that is one longer
				checkNoFill(t, kind, c.cut, l, api.ErrBig)
			}
		}
	}
}

func TestFillOfTooMany(t *testing.T) {
	for _, kind := range []int{agg.Sum, agg.Count, agg.Last} {
		checkNoFill(t, kind, cut{1, 0}, []api.Sample{{T: 0, V: 1}, {T: end, V: 1}}, api.ErrBig)
		checkNoFill(t, kind, cut{1, 0}, []api.Sample{{T: 0}, {T: 1}, {T: end - 1}, {T: end}}, api.ErrBig)
		checkNoFill(t, kind, cut{2, 1}, []api.Sample{{T: 0}, {T: end - 1}}, api.ErrBig)
		checkNoFill(t, kind, cut{1, 0}, []api.Sample{{T: 0}, {T: 6000}, {T: 12000}}, api.ErrBig) // each gap by itself is none too many
	}
}

// row is neighbouring buckets.
func row(many int) []api.Sample {
	l := make([]api.Sample, many)
	for i := range l {
		l[i] = api.Sample{T: 10 * i, V: i - 5}
	}
	return l
}

func TestFillOfAListThatIsTooLong(t *testing.T) {
	for _, kind := range kinds() {
		checkFill(t, kind, cut{10, 0}, row(9999), row(9999))
		checkFill(t, kind, cut{10, 0}, row(10000), row(10000))
		checkNoFill(t, kind, cut{10, 0}, row(10001), api.ErrBig) // also of a kind that adds none
		checkNoFill(t, kind, cut{10, 0}, row(30000), api.ErrBig)
	}
}

func TestFillOfWhatIsWrongAndTooMuch(t *testing.T) {
	for _, kind := range kinds() {
		long := append(row(10001), api.Sample{T: end / 10 * 10, V: 1})
		checkNoFill(t, kind, cut{10, 0}, long, api.ErrBig)
		for _, at := range []int{-10, 0, 5, 100000, end + 10, top, bottom} { // what is wrong is told first
			checkNoFill(t, kind, cut{10, 0}, append(slices.Clone(long), api.Sample{T: at}), api.ErrArg)
		}
		checkNoFill(t, kind, cut{10, 10}, long, api.ErrArg)
		checkNoFill(t, kind, cut{20, 0}, long, api.ErrArg)
		checkNoFill(t, 8, cut{10, 0}, long, api.ErrArg)
		checkNoFill(t, kind, cut{1, 0}, []api.Sample{{T: 0}, {T: end}, {T: 5}}, api.ErrArg)
	}
}

func TestFillLeavesTheListAlone(t *testing.T) {
	room := []api.Sample{{T: 0, V: 5}, {T: 10, V: 7}, {T: 40, V: 1}, {T: 50, V: 6}, {T: 1, V: 9}, {T: 2, V: 9}, {T: 3, V: 9}, {T: 4, V: 9}}
	was := slices.Clone(room)
	for kind := -1; kind < 10; kind++ {
		for many := range 6 {
			got, _ := rows.Fill(kind, 10, 0, room[:many])
			got = append(got, api.Sample{T: -1, V: -1}) // into spare room, if there is some
			got = got[:cap(got)]
			for i := range got {
				got[i] = api.Sample{T: -2, V: -2}
			}
			if !slices.Equal(room, was) {
				t.Fatalf("%d of %d: %v, and ahead of it %v", kind, many, room, was)
			}
		}
	}
}

func TestFillIsNewMemory(t *testing.T) {
	l := []api.Sample{{T: 0, V: 5}, {T: 10, V: 7}, {T: 40, V: 1}}
	for _, kind := range kinds() {
		x := slices.Clone(l)
		want := whole(kind, cut{10, 0}, l)
		first, _ := rows.Fill(kind, 10, 0, x)
		second, _ := rows.Fill(kind, 10, 0, x)
		for i := range first {
			first[i] = api.Sample{T: -2, V: -2}
		}
		for i := range x {
			x[i] = api.Sample{T: 77, V: 77} // nor is it kept
		}
		if !slices.Equal(second, want) {
			t.Errorf("%d: %v, want %v", kind, second, want)
		}
		checkFill(t, kind, cut{10, 0}, l, want)
	}
}

// P7.5

func TestFilledBucketsHaveNoGap(t *testing.T) {
	for _, kind := range []int{agg.Sum, agg.Count, agg.Last} {
		for _, c := range []cut{{1, 0}, {2, 1}, {10, 0}, {10, 3}, {10, 9}} {
			for seed := range 20 {
				l := agg.Buckets(kind, c.size, c.align, rising(40, uint64(seed)))
				got, e := rows.Fill(kind, c.size, c.align, l)
				if e != api.OK || got[0] != l[0] || got[len(got)-1] != l[len(l)-1] {
					t.Fatalf("%d of %v: %v, %d", kind, c, got, e)
				}
				for i, x := range got[1:] {
					if end := agg.End(got[i].T, c.size, c.align); x.T != end {
						t.Fatalf("%d of %v: %v behind one that ends at %d", kind, c, x, end)
					}
				}
				if again, e := rows.Fill(kind, c.size, c.align, got); e != api.OK || !slices.Equal(again, got) {
					t.Fatalf("%d of %v: %v filled again, %d", kind, c, again, e)
				}
			}
		}
	}
}

// rising is samples of rising times that look like chance.
func rising(many int, seed uint64) []api.Sample {
	var l []api.Sample
	at := 0
	for _, n := range numbers(many, seed) {
		at += 1 + n%13*(n>>8%7)
		l = append(l, api.Sample{T: at, V: n>>20%41 - 20})
	}
	return l
}
