package chunk_test

import (
	"fmt"
	"math"
	"slices"
	"testing"

	"tachograph/api"
	"tachograph/chunk"
	"tachograph/delta"
	"tachograph/policy"
)

const (
	top    = math.MaxInt
	bottom = math.MinInt
	full   = 445 // samples of one step and value that fit into 128 bytes, to the last bit
)

// numbers is a row of numbers that look like chance, always the same.
func numbers(many int) []uint64 {
	l := make([]uint64, many)
	x := uint64(88172645463325252)
	for i := range l {
		x ^= x << 13
		x ^= x >> 7
		x ^= x << 17
		l[i] = x
	}
	return l
}

// row is samples of a step and a value.
func row(many, from, step, v int) []api.Sample {
	l := make([]api.Sample, many)
	for i := range l {
		l[i] = api.Sample{T: from + i*step, V: v}
	}
	return l
}

// chance is samples that look like chance: rising times, and differences of every width.
func chance(many int, seed uint64) []api.Sample {
	l := make([]api.Sample, many)
	u := numbers(4 * many)
	var s api.Sample
	for i := range l {
		a := (u[4*i] ^ seed) * (2*seed + 1)
		s.T += 1 + int(a>>1)>>(30+u[4*i+1]%33)
		s.V += int(u[4*i+2]) >> ((u[4*i+3] + seed) % 64)
		l[i] = s
	}
	return l
}

// jumps is samples whose steps need next to no bits, and whose values jump, but not at one: there both neighbours are alike, so that the rest needs more bits without it.
func jumps(many, still int) []api.Sample {
	l := make([]api.Sample, many)
	v := 0
	for i := range l {
		if i > 0 && i != still {
			v = 1<<60 - v
		}
		l[i] = api.Sample{T: i << 30, V: v}
	}
	return l
}

// empty is a chunk without samples, or the end of the test.
func empty(t *testing.T, size int) *chunk.Chunk {
	t.Helper()
	c, e := chunk.New(size)
	if e != api.OK || c == nil {
		t.Fatalf("New(%d): %v, %d", size, c, e)
	}
	return c
}

// filled is a chunk with these samples, or the end of the test.
func filled(t *testing.T, size int, l []api.Sample) *chunk.Chunk {
	t.Helper()
	c := empty(t, size)
	for _, s := range l {
		if e := c.Put(s, policy.Block); e != api.OK {
			t.Fatalf("Put(%v): %d", s, e)
		}
	}
	check(t, c, size, l)
	return c
}

// over is a chunk whose samples do not fit any more, and those; the sample that was dropped, too.
func over(t *testing.T) (*chunk.Chunk, []api.Sample, api.Sample) {
	t.Helper()
	l := jumps(68, 40)
	c := filled(t, 600, l)
	gone := l[40]
	if many := c.Drop(gone.T, gone.T); many != 1 {
		t.Fatal(many)
	}
	l = slices.Delete(l, 40, 41)
	if delta.Bits(l) <= 8*600 {
		t.Fatal("they fit", delta.Bits(l))
	}
	check(t, c, 600, l)
	return c, l, gone
}

// check holds everything that a chunk tells against what it must.
func check(t *testing.T, c *chunk.Chunk, size int, want []api.Sample) {
	t.Helper()
	used := (delta.Bits(want) + 7) / 8
	if c.Size() != size || c.Len() != len(want) || c.Used() != used {
		t.Fatalf("Size %d, Len %d, Used %d; want %d, %d, %d", c.Size(), c.Len(), c.Used(), size, len(want), used)
	}
	if l := c.All(); !slices.Equal(l, want) {
		t.Fatalf("All: %v; want %v", l, want)
	}
	first, isFirst := c.First()
	last, isLast := c.Last()
	if len(want) == 0 {
		if isFirst || isLast || first != (api.Sample{}) || last != (api.Sample{}) {
			t.Fatalf("of none: First %v, %v, Last %v, %v", first, isFirst, last, isLast)
		}
	} else if !isFirst || !isLast || first != want[0] || last != want[len(want)-1] {
		t.Fatalf("First %v, %v, Last %v, %v", first, isFirst, last, isLast)
	}
	for _, s := range want {
		if v, e := c.Get(s.T); v != s.V || e != api.OK {
			t.Fatalf("Get(%d): %d, %d; want %d", s.T, v, e, s.V)
		}
	}
}

// none is chunks that are none.
func none() []*chunk.Chunk {
	return []*chunk.Chunk{nil, {}, new(chunk.Chunk)}
}

// The sentence ahead of the promises

func TestChunksThatAreNone(t *testing.T) {
	right := filled(t, 128, row(3, 0, 10, 5))
	for i, c := range none() {
		for _, time := range []int{bottom, -1, 0, 1, api.MaxTime - 1, api.MaxTime, top} {
			for _, p := range []int{bottom, 0, policy.Block, policy.Last, policy.Sum, 7, top} {
				if e := c.Put(api.Sample{T: time, V: 1}, p); e != api.ErrNil {
					t.Errorf("%d: Put at %d by %d: %d", i, time, p, e)
				}
			}
			if v, e := c.Get(time); v != 0 || e != api.ErrNil {
				t.Errorf("%d: Get(%d): %d, %d", i, time, v, e)
			}
			if c.Drop(time, top) != 0 || c.Drop(bottom, time) != 0 {
				t.Errorf("%d: Drop at %d", i, time)
			}
		}
		if o, e := c.Split(); o != nil || e != api.ErrNil {
			t.Errorf("%d: Split: %v, %d", i, o, e)
		}
		for j, o := range append(none(), c, right, empty(t, 128)) {
			if e := c.Join(o); e != api.ErrNil {
				t.Errorf("%d: Join of %d: %d", i, j, e)
			}
		}
		if c.Copy() != nil || c.All() != nil {
			t.Errorf("%d: Copy %v, All %v", i, c.Copy(), c.All())
		}
		check(t, c, 0, nil)
	}
	check(t, right, 128, row(3, 0, 10, 5))
}

// P4.1

func TestNewTakesSizes(t *testing.T) {
	for _, size := range []int{128, 129, 600, 1024, 4095, 4096} {
		c := empty(t, size)
		check(t, c, size, nil)
		if v, e := c.Get(0); v != 0 || e != api.ErrNone {
			t.Errorf("%d: Get: %d, %d", size, v, e)
		}
	}
}

func TestNewRefusesSizes(t *testing.T) {
	for _, size := range []int{127, 4097, 0, 1, -1, -128, -4096, 8 * 128 * 8, 1<<32 + 128, bottom, top} {
		if c, e := chunk.New(size); c != nil || e != api.ErrArg {
			t.Errorf("New(%d): %v, %d", size, c, e)
		}
	}
}

func TestUsedRoundsUp(t *testing.T) {
	c := empty(t, 128)
	for _, x := range []struct{ v, bits int }{ // at 1, 2, 3, ..: the second step differs from the first one, that is 0, all others do not
		{0, 128}, {0, 138}, {0, 140}, {0, 142}, {0, 144}, {0, 146}, {4096, 175}, {4096, 177}, {4097, 187}, {4097, 189}, {4097, 191}, {4097, 193},
	} {
		s := api.Sample{T: 1 + c.Len(), V: x.v}
		if e := c.Put(s, policy.Block); e != api.OK {
			t.Fatal(s, e)
		}
		want := int(math.Ceil(float64(x.bits) / 8))
		if c.Used() != want || delta.Bits(c.All()) != x.bits {
			t.Errorf("%d samples: Used %d, %d bits; want %d, %d", c.Len(), c.Used(), delta.Bits(c.All()), want, x.bits)
		}
	}
}

func TestAllIsNewMemory(t *testing.T) {
	want := row(5, 0, 10, 5)
	c := filled(t, 128, want)
	a, b := c.All(), c.All()
	for i := range a {
		a[i] = api.Sample{T: -1, V: -1}
	}
	check(t, c, 128, want)
	if !slices.Equal(b, want) {
		t.Error("two answers have memory in common", b)
	}
	_ = append(b[:0], row(cap(b), 7, 7, 7)...) // all of its room, too
	check(t, c, 128, want)
	kept := c.All()
	c.Put(api.Sample{T: 5, V: 6}, policy.Block)
	c.Put(api.Sample{T: 10, V: 6}, policy.Last)
	c.Drop(20, 20)
	if !slices.Equal(kept, want) {
		t.Error("an answer changes with the chunk", kept)
	}
}

func TestCopy(t *testing.T) {
	want := row(5, 0, 10, 5)
	for _, size := range []int{128, 1000, 4096} {
		a := filled(t, size, want)
		b := a.Copy()
		if b == a {
			t.Fatal("the same one")
		}
		check(t, b, size, want)
		a.Put(api.Sample{T: 10, V: 6}, policy.Last)
		a.Put(api.Sample{T: 50, V: 6}, policy.Last)
		check(t, b, size, want)
		b.Put(api.Sample{T: 50, V: 7}, policy.Last)
		b.Drop(0, 0)
		check(t, a, size, []api.Sample{{T: 0, V: 5}, {T: 10, V: 6}, {T: 20, V: 5}, {T: 30, V: 5}, {T: 40, V: 5}, {T: 50, V: 6}})
		check(t, b, size, []api.Sample{{T: 10, V: 5}, {T: 20, V: 5}, {T: 30, V: 5}, {T: 40, V: 5}, {T: 50, V: 7}})
	}
	check(t, empty(t, 200).Copy(), 200, nil)
	c, l, _ := over(t)
	check(t, c.Copy(), 600, l)
}

func TestCopiedAsValuesTheyStayApart(t *testing.T) {
	want := row(5, 0, 10, 5)
	a := filled(t, 128, want)
	b, c := *a, *a
	if many := c.Drop(0, 20); many != 3 {
		t.Error(many)
	}
	check(t, a, 128, want)
	check(t, &c, 128, want[3:])
	a.Put(api.Sample{T: 10, V: 6}, policy.Last)
	a.Put(api.Sample{T: 50, V: 6}, policy.Last)
	check(t, &b, 128, want)
	b.Put(api.Sample{T: 50, V: 7}, policy.Last)
	b.Drop(0, 0)
	check(t, a, 128, []api.Sample{{T: 0, V: 5}, {T: 10, V: 6}, {T: 20, V: 5}, {T: 30, V: 5}, {T: 40, V: 5}, {T: 50, V: 6}})
}

// P4.2

func TestPutExample(t *testing.T) {
	filled(t, 128, row(100, 0, 10, 7))
	c := empty(t, 128)
	var e api.Errno
	for i := 0; i < 10 && e == api.OK; i++ { // steps that differ as much: of one step ten would fit
		e = c.Put(api.Sample{T: i * i << 25, V: i % 2 << 62}, policy.Block)
	}
	if e != api.ErrFull {
		t.Error(e, c.Len())
	}
}

func TestPutInAnyOrder(t *testing.T) {
	want := []api.Sample{{T: 0, V: 3}, {T: 5, V: -1}, {T: 9, V: top}, {T: 10, V: bottom}, {T: api.MaxTime - 1, V: 0}}
	order := []int{0, 1, 2, 3, 4}
	var all func(k int)
	all = func(k int) {
		if k == len(order) {
			c := empty(t, 128)
			for _, i := range order {
				if e := c.Put(want[i], 0); e != api.OK { // of a time that is not there yet the policy does not count
					t.Fatal(order, e)
				}
			}
			check(t, c, 128, want)
			return
		}
		for i := k; i < len(order); i++ {
			order[k], order[i] = order[i], order[k]
			all(k + 1)
			order[k], order[i] = order[i], order[k]
		}
	}
	all(0)
}

func TestPutRefusesTimes(t *testing.T) {
	want := row(3, 0, 10, 5)
	c := filled(t, 128, want)
	for _, time := range []int{-1, -2, api.MaxTime, api.MaxTime + 1, 1 << 62, top, bottom} {
		for _, p := range []int{bottom, -1, 0, policy.Block, policy.First, policy.Last, policy.Sum, 7, top} {
			if e := c.Put(api.Sample{T: time, V: 5}, p); e != api.ErrArg {
				t.Errorf("Put at %d by %d: %d", time, p, e)
			}
		}
	}
	check(t, c, 128, want)
	atEnd := filled(t, 128, row(full, 0, 10, 5))
	if e := atEnd.Put(api.Sample{T: api.MaxTime, V: 5}, policy.Last); e != api.ErrArg {
		t.Error("too late, and full as well:", e)
	}
}

func TestPutTakesTimesAtTheEnds(t *testing.T) {
	c := empty(t, 128)
	for _, time := range []int{api.MaxTime - 1, 0, 1, api.MaxTime - 2} {
		if e := c.Put(api.Sample{T: time, V: time}, policy.Block); e != api.OK {
			t.Errorf("%d: %d", time, e)
		}
	}
	check(t, c, 128, []api.Sample{{T: 0, V: 0}, {T: 1, V: 1}, {T: api.MaxTime - 2, V: api.MaxTime - 2}, {T: api.MaxTime - 1, V: api.MaxTime - 1}})
}

func TestPutOfATimeThatIsThere(t *testing.T) {
	for at := range 3 {
		for _, x := range []struct {
			p, old, now, v int
			e              api.Errno
		}{
			{policy.Block, 5, 8, 5, api.ErrBlocked}, {policy.Block, 5, 5, 5, api.ErrBlocked},
			{policy.First, 5, 8, 5, api.OK}, {policy.First, 5, 2, 5, api.OK},
			{policy.Last, 5, 8, 8, api.OK}, {policy.Last, 5, 2, 2, api.OK},
			{policy.Min, 5, 8, 5, api.OK}, {policy.Min, 5, -2, -2, api.OK},
			{policy.Max, 5, 8, 8, api.OK}, {policy.Max, 5, -2, 5, api.OK},
			{policy.Sum, 5, 8, 13, api.OK}, {policy.Sum, 5, -8, -3, api.OK},
			{policy.Sum, 5, top, 5, api.ErrOver}, {policy.Sum, 5, top - 4, 5, api.ErrOver}, {policy.Sum, 5, top - 5, top, api.OK},
			{policy.Sum, -5, bottom, -5, api.ErrOver}, {policy.Sum, -5, bottom + 5, bottom, api.OK},
			{0, 5, 8, 5, api.ErrArg}, {7, 5, 8, 5, api.ErrArg}, {-1, 5, 8, 5, api.ErrArg}, {top, 5, 8, 5, api.ErrArg}, {bottom, 5, 8, 5, api.ErrArg},
		} {
			want := row(3, 0, 10, 1)
			want[at].V = x.old
			c := filled(t, 128, want)
			if e := c.Put(api.Sample{T: 10 * at, V: x.now}, x.p); e != x.e {
				t.Errorf("%d of %v: %d", at, x, e)
			}
			want[at].V = x.v
			check(t, c, 128, want)
		}
	}
}

func TestPutFitsToTheLastBit(t *testing.T) {
	want := row(full, 10, 10, 4)
	if delta.Bits(want) != 8*128 {
		t.Fatal(delta.Bits(want))
	}
	c := filled(t, 128, want)
	for _, time := range []int{0, 5, 11, 2225, 10*full - 1, 10 * (full + 1), api.MaxTime - 1} {
		for _, p := range []int{0, policy.Block, policy.Last} {
			if e := c.Put(api.Sample{T: time, V: 4}, p); e != api.ErrFull {
				t.Errorf("Put at %d by %d: %d", time, p, e)
			}
		}
		check(t, c, 128, want)
	}
	if c.Used() != 128 {
		t.Error(c.Used())
	}
}

func TestPutByOneBitNot(t *testing.T) {
	for _, x := range []struct{ still, bits int }{{430, 1023}, {431, 1025}} { // those of one value, and one behind them whose value needs 28 bits
		want := row(x.still, 0, 10, 4)
		c := filled(t, 128, want)
		s := api.Sample{T: 10 * x.still, V: 4 + 5000}
		if many := delta.Bits(append(c.All(), s)); many != x.bits {
			t.Fatal(many)
		}
		wanted := api.ErrFull
		if x.bits <= 8*128 {
			wanted = api.OK
			want = append(want, s)
		}
		if e := c.Put(s, policy.Block); e != wanted {
			t.Errorf("%d bits: %d", x.bits, e)
		}
		check(t, c, 128, want)
	}
}

func TestPutFillsEachSize(t *testing.T) {
	for _, size := range []int{128, 129, 200, 511} {
		l := row((8*size-138)/2+2, 0, 10, 4)
		c := filled(t, size, l)
		if c.Used() != size {
			t.Errorf("%d: Used %d", size, c.Used())
		}
		if e := c.Put(api.Sample{T: 10 * len(l), V: 4}, policy.Block); e != api.ErrFull {
			t.Errorf("%d: %d", size, e)
		}
		check(t, c, size, l)
	}
}

func TestPutIntoTheGreatestOne(t *testing.T) {
	l := row((8*4096-138)/2+2, 0, 10, 4)
	c := empty(t, 4096)
	for part := range slices.Chunk(l, full) { // joined: one by one it would take long
		if e := c.Join(filled(t, 128, part)); e != api.OK {
			t.Fatal(e)
		}
	}
	check(t, c, 4096, l)
	if e := c.Put(api.Sample{T: 10 * len(l), V: 4}, policy.Block); e != api.ErrFull || c.Used() != 4096 {
		t.Error(e, c.Used())
	}
	checkSplit(t, c, 8125) // 138 bits, and 2 for each behind the first two, are just half
}

func TestPutMergedDoesNotFit(t *testing.T) {
	want := row(full, 10, 10, 4)
	c := filled(t, 128, want)
	for _, at := range []int{1, 2, 200, full - 1} {
		time := want[at].T
		for _, x := range []struct {
			v, p int
			e    api.Errno
		}{
			{5, policy.Last, api.ErrFull}, {5, policy.Max, api.ErrFull}, {3, policy.Min, api.ErrFull}, {1, policy.Sum, api.ErrFull},
			{5, policy.Block, api.ErrBlocked}, {5, 0, api.ErrArg}, {top, policy.Sum, api.ErrOver},
			{5, policy.First, api.OK}, {4, policy.Last, api.OK}, {3, policy.Max, api.OK}, {5, policy.Min, api.OK}, {0, policy.Sum, api.OK},
		} {
			if e := c.Put(api.Sample{T: time, V: x.v}, x.p); e != x.e {
				t.Errorf("%d at %d by %d: %d, want %d", x.v, time, x.p, e, x.e)
			}
			check(t, c, 128, want)
		}
	}
}

func TestPutWhereThatMakesThemFit(t *testing.T) {
	c, l, gone := over(t)
	for _, x := range []struct {
		s api.Sample
		p int
		e api.Errno
	}{
		{api.Sample{T: 1, V: 0}, policy.Block, api.ErrFull},
		{api.Sample{T: 100 << 30, V: 0}, policy.Last, api.ErrFull},
		{l[5], policy.First, api.ErrFull}, // nothing would be another one, but they do not fit
		{l[5], policy.Last, api.ErrFull},
		{l[5], policy.Block, api.ErrBlocked},
		{l[5], 0, api.ErrArg},
		{api.Sample{T: -1, V: 0}, policy.Last, api.ErrArg},
	} {
		if e := c.Put(x.s, x.p); e != x.e {
			t.Errorf("%v by %d: %d, want %d", x.s, x.p, e, x.e)
		}
		check(t, c, 600, l)
	}
	if e := c.Put(gone, policy.Block); e != api.OK {
		t.Error("what lets them fit again:", e)
	}
	check(t, c, 600, jumps(68, 40))
	c, l, _ = over(t)
	for _, x := range []struct {
		at int
		e  api.Errno
	}{{66, api.ErrFull}, {40, api.OK}} { // the last one as the one ahead saves 67 bits, one in the middle both its neighbours' bits
		s := api.Sample{T: l[x.at].T, V: l[x.at-1].V}
		if e := c.Put(s, policy.Last); e != x.e {
			t.Errorf("%d: %d, want %d", x.at, e, x.e)
		}
		if x.e == api.OK {
			l[x.at] = s
		}
		check(t, c, 600, l)
	}
}

// P4.3

func TestDrop(t *testing.T) {
	for _, x := range []struct{ from, to, first, end int }{ // of samples at 0, 10, .., 40: which are gone
		{0, 40, 0, 5}, {bottom, top, 0, 5}, {-1, 41, 0, 5}, {0, top, 0, 5}, {bottom, 40, 0, 5},
		{20, 20, 2, 3}, {0, 0, 0, 1}, {40, 40, 4, 5},
		{10, 30, 1, 4}, {9, 31, 1, 4}, {11, 29, 2, 3}, {11, 30, 2, 4}, {10, 29, 1, 3},
		{bottom, 0, 0, 1}, {bottom, 9, 0, 1}, {31, top, 4, 5}, {40, top, 4, 5},
		{11, 19, 0, 0}, {5, 5, 0, 0}, {bottom, -1, 0, 0}, {41, top, 0, 0}, {bottom, bottom, 0, 0}, {top, top, 0, 0},
		{20, 10, 0, 0}, {21, 20, 0, 0}, {40, 0, 0, 0}, {top, bottom, 0, 0}, {21, 19, 0, 0}, {0, -1, 0, 0}, {50, 45, 0, 0},
	} {
		want := row(5, 0, 10, 5)
		c := filled(t, 128, want)
		if many := c.Drop(x.from, x.to); many != x.end-x.first {
			t.Errorf("Drop(%d, %d): %d", x.from, x.to, many)
		}
		gone := slices.Clone(want[x.first:x.end])
		check(t, c, 128, slices.Delete(want, x.first, x.end))
		for _, s := range gone {
			if v, e := c.Get(s.T); v != 0 || e != api.ErrNone {
				t.Errorf("Drop(%d, %d): Get(%d): %d, %d", x.from, x.to, s.T, v, e)
			}
		}
		if many := c.Drop(x.from, x.to); many != 0 {
			t.Errorf("Drop(%d, %d) once more: %d", x.from, x.to, many)
		}
	}
}

func TestDropOfNoSamples(t *testing.T) {
	c := empty(t, 128)
	for _, x := range [][2]int{{0, 0}, {bottom, top}, {top, bottom}, {0, api.MaxTime}} {
		if many := c.Drop(x[0], x[1]); many != 0 {
			t.Error(x, many)
		}
	}
	check(t, c, 128, nil)
}

func TestDropAtTheLastTime(t *testing.T) {
	want := []api.Sample{{T: 0, V: 1}, {T: api.MaxTime - 2, V: 2}, {T: api.MaxTime - 1, V: 3}}
	c := filled(t, 128, want)
	if many := c.Drop(api.MaxTime, top); many != 0 {
		t.Error(many)
	}
	if many := c.Drop(api.MaxTime-1, api.MaxTime-1); many != 1 {
		t.Error(many)
	}
	check(t, c, 128, want[:2])
}

func TestDropAndPutAnew(t *testing.T) {
	c := filled(t, 128, row(full, 0, 10, 4))
	if many := c.Drop(bottom, top); many != full {
		t.Fatal(many)
	}
	check(t, c, 128, nil)
	for _, s := range row(full, 7, 3, -4) {
		if e := c.Put(s, policy.Block); e != api.OK {
			t.Fatal(s, e)
		}
	}
	check(t, c, 128, row(full, 7, 3, -4))
}

func TestDropBehindWhichTheRestNeedsMore(t *testing.T) {
	l := jumps(30, 15)
	c := filled(t, 600, l)
	was := c.Used()
	if many := c.Drop(l[15].T, l[15].T); many != 1 || c.Used() <= was {
		t.Error(many, was, c.Used())
	}
	check(t, c, 600, slices.Delete(l, 15, 16))
}

func TestDropBehindWhichTheRestDoesNotFit(t *testing.T) {
	c, l, _ := over(t)
	if c.Used() <= c.Size() || c.Size() != 600 {
		t.Error(c.Used(), c.Size())
	}
	if many := c.Drop(l[60].T, top); many != 7 { // and it goes on from there
		t.Error(many)
	}
	check(t, c, 600, l[:60])
	if c.Used() > 600 {
		t.Error(c.Used())
	}
}

func TestGet(t *testing.T) {
	want := []api.Sample{{T: 0, V: bottom}, {T: 5, V: 0}, {T: 6, V: top}, {T: api.MaxTime - 1, V: -1}}
	c := filled(t, 128, want)
	for _, time := range []int{bottom, -1, 1, 4, 7, api.MaxTime - 2, api.MaxTime, top} {
		if v, e := c.Get(time); v != 0 || e != api.ErrNone {
			t.Errorf("Get(%d): %d, %d", time, v, e)
		}
	}
	check(t, c, 128, want)
}

func TestFirstAndLastOfOne(t *testing.T) {
	for _, s := range []api.Sample{{}, {T: 7, V: -7}, {T: api.MaxTime - 1, V: bottom}} {
		c := filled(t, 128, []api.Sample{s})
		if c.Used() != 16 {
			t.Error(c.Used())
		}
		if many := c.Drop(s.T, s.T); many != 1 {
			t.Error(many)
		}
		check(t, c, 128, nil)
	}
}

// P4.4

// parts is where samples are split, as the chapter's words tell it.
func parts(l []api.Sample) int {
	k := 1
	for k < len(l)-1 && 2*delta.Bits(l[:k]) < delta.Bits(l) {
		k++
	}
	return k
}

func TestSplitOfTooFew(t *testing.T) {
	for many := range 2 {
		want := row(many, 5, 10, 5)
		c := filled(t, 128, want)
		if o, e := c.Split(); o != nil || e != api.ErrNone {
			t.Errorf("of %d: %v, %d", many, o, e)
		}
		check(t, c, 128, want)
	}
}

// checkSplit splits a chunk, and holds both parts against what they must be.
func checkSplit(t *testing.T, c *chunk.Chunk, k int) *chunk.Chunk {
	t.Helper()
	l, size := c.All(), c.Size()
	fit := c.Used() <= size
	o, e := c.Split()
	if e != api.OK || o == nil || o == c {
		t.Fatalf("Split: %v, %d", o, e)
	}
	check(t, c, size, l[:k])
	check(t, o, size, l[k:])
	if fit && (c.Used() > size || o.Used() > size) {
		t.Errorf("Used %d and %d of %d", c.Used(), o.Used(), size)
	}
	return o
}

func TestSplitOfTwo(t *testing.T) {
	for _, l := range [][]api.Sample{
		{{T: 1, V: 1}, {T: 2, V: 2}},
		{{T: 0, V: 0}, {T: 1, V: 0}},
		{{T: 0, V: 0}, {T: 1 << 39, V: 1 << 62}}, // of 264 bits the first one has less than half; but the second one stays for the other part
	} {
		checkSplit(t, filled(t, 128, l), 1)
	}
}

func TestSplitAtJustHalf(t *testing.T) {
	l := row(full, 10, 10, 4)
	if 2*delta.Bits(l[:189]) != delta.Bits(l) {
		t.Fatal(delta.Bits(l[:189]), delta.Bits(l))
	}
	checkSplit(t, filled(t, 128, l), 189)
	checkSplit(t, filled(t, 128, l[:full-1]), 189) // half of it is 511: the first 188 have 510
	checkSplit(t, filled(t, 128, l[:full-2]), 188) // half of it is 510
	checkSplit(t, filled(t, 129, row(full+1, 10, 10, 4)), 190)
}

func TestSplitAtHalfOfAnOddNumber(t *testing.T) {
	l := append(row(430, 0, 10, 4), api.Sample{T: 4300, V: 5004})
	if delta.Bits(l) != 1023 { // half of it is 511 and a half: 188 samples have 510 bits, 189 have 512
		t.Fatal(delta.Bits(l))
	}
	checkSplit(t, filled(t, 128, l), 189)
	l = append(row(59, 0, 10, 4), api.Sample{T: 590, V: 5004}) // 281: half of it is 140 and a half: 3 samples have 140 bits
	if delta.Bits(l) != 281 || delta.Bits(l[:3]) != 140 {
		t.Fatal(delta.Bits(l))
	}
	checkSplit(t, filled(t, 128, l), 4)
}

func TestSplitOfManyRows(t *testing.T) {
	for many := 2; many < 60; many++ {
		for seed := range uint64(8) {
			l := chance(many, seed)
			checkSplit(t, filled(t, 2048, l), parts(l))
		}
		l := row(many, 3, 1<<20, 4)
		checkSplit(t, filled(t, 128, l), parts(l))
	}
}

func TestSplitOfWhatDoesNotFit(t *testing.T) {
	c, l, _ := over(t)
	checkSplit(t, c, parts(l))
}

func TestSplitPartsStayApart(t *testing.T) {
	l := row(10, 0, 10, 4)
	c := filled(t, 128, l)
	o := checkSplit(t, c, parts(l))
	first, second := c.All(), o.All()
	s := api.Sample{T: 95, V: 6}
	if e := c.Put(s, policy.Block); e != api.OK {
		t.Error(e)
	}
	check(t, o, 128, second)
	if e := o.Put(api.Sample{T: 1, V: 7}, policy.Block); e != api.OK {
		t.Error(e)
	}
	check(t, c, 128, append(first, s))
	check(t, o, 128, append([]api.Sample{{T: 1, V: 7}}, second...))
}

// P4.5

func TestJoin(t *testing.T) {
	for many := range 8 {
		for k := range many + 1 {
			for _, size := range []int{128, 300, 4096} {
				l := row(many, 0, 10, 4) // from 0, which is not above the zero time that a chunk without samples tells
				c, o := filled(t, size, l[:k]), filled(t, 128, l[k:])
				if e := c.Join(o); e != api.OK {
					t.Fatal(many, k, e)
				}
				check(t, c, size, l)
				check(t, o, 128, nil)
			}
		}
	}
}

func TestJoinRefusesTimes(t *testing.T) {
	l := []api.Sample{{T: 10, V: 1}, {T: 20, V: 2}, {T: 30, V: 3}}
	for _, x := range []struct {
		times []int
		e     api.Errno
	}{
		{[]int{30}, api.ErrArg}, {[]int{30, 40}, api.ErrArg}, {[]int{29, 40}, api.ErrArg}, {[]int{0}, api.ErrArg}, {[]int{5, 7}, api.ErrArg},
		{[]int{10, 20, 30}, api.ErrArg}, {[]int{15, 25}, api.ErrArg}, {[]int{0, 31}, api.ErrArg},
		{[]int{31}, api.OK}, {[]int{31, 32}, api.OK}, {[]int{api.MaxTime - 1}, api.OK},
	} {
		var other []api.Sample
		for _, time := range x.times {
			other = append(other, api.Sample{T: time, V: 9})
		}
		c, o := filled(t, 128, l), filled(t, 128, other)
		if e := c.Join(o); e != x.e {
			t.Errorf("%v: %d", x.times, e)
		}
		if x.e == api.OK {
			check(t, c, 128, append(slices.Clone(l), other...))
			check(t, o, 128, nil)
		} else {
			check(t, c, 128, l)
			check(t, o, 128, other)
		}
	}
}

func TestJoinOfItselfAndOfNone(t *testing.T) {
	for many := range 4 {
		l := row(many, 0, 10, 4)
		c := filled(t, 128, l)
		for i, o := range append(none(), c) {
			if e := c.Join(o); e != api.ErrArg {
				t.Errorf("of %d samples, with %d: %d", many, i, e)
			}
			check(t, c, 128, l)
		}
	}
	c, l, _ := over(t)
	for i, o := range append(none(), c) {
		if e := c.Join(o); e != api.ErrArg {
			t.Errorf("that does not fit as well, with %d: %d", i, e)
		}
	}
	check(t, c, 600, l)
}

func TestJoinToTheLastBit(t *testing.T) {
	for _, k := range []int{0, 1, 2, 100, full - 1, full} {
		l := row(full, 10, 10, 4)
		c, o := filled(t, 128, l[:k]), filled(t, 128, l[k:])
		if e := c.Join(o); e != api.OK || c.Used() != 128 {
			t.Errorf("%d: %d, Used %d", k, e, c.Used())
		}
		check(t, c, 128, l)
		check(t, o, 128, nil)
	}
}

func TestJoinThatDoesNotFit(t *testing.T) {
	odd := append(row(431, 0, 10, 4), api.Sample{T: 4310, V: 5004})
	if delta.Bits(odd) != 1025 {
		t.Fatal(delta.Bits(odd))
	}
	for _, x := range []struct {
		l []api.Sample
		k int
	}{{odd, 1}, {odd, 200}, {odd, 431}, {row(full+1, 0, 10, 4), 1}, {row(full+1, 0, 10, 4), full}, {row(2*full, 0, 10, 4), full}} {
		c, o := filled(t, 128, x.l[:x.k]), filled(t, 4096, x.l[x.k:]) // the other one's room does not count
		if e := c.Join(o); e != api.ErrFull {
			t.Errorf("%d of %d: %d", x.k, len(x.l), e)
		}
		check(t, c, 128, x.l[:x.k])
		check(t, o, 4096, x.l[x.k:])
	}
	o := filled(t, 4096, row(full+1, 0, 10, 4))
	c := empty(t, 128)
	if e := c.Join(o); e != api.ErrFull {
		t.Error("of none and too many:", e)
	}
	check(t, c, 128, nil)
	check(t, o, 4096, row(full+1, 0, 10, 4))
	both := filled(t, 128, row(full, 0, 10, 4))
	if e := both.Join(filled(t, 128, row(full, 0, 10, 4))); e != api.ErrArg {
		t.Error("of times that are there, and too many:", e)
	}
}

func TestJoinOfWhatDoesNotFit(t *testing.T) {
	c, l, _ := over(t)
	none := empty(t, 600)
	if e := c.Join(none); e != api.ErrFull {
		t.Error("with none:", e)
	}
	check(t, c, 600, l)
	check(t, none, 600, nil)
	wide := empty(t, 4096)
	if e := wide.Join(c); e != api.OK {
		t.Error(e)
	}
	check(t, wide, 4096, l)
	check(t, c, 600, nil)
}

func TestJoinedStayApart(t *testing.T) {
	l := row(6, 0, 10, 4)
	c, o := filled(t, 128, l[:3]), filled(t, 128, l[3:])
	if e := c.Join(o); e != api.OK {
		t.Fatal(e)
	}
	for _, s := range []api.Sample{{T: 30, V: 9}, {T: 31, V: 9}, {T: 1, V: 9}} {
		if e := o.Put(s, policy.Block); e != api.OK {
			t.Fatal(e)
		}
	}
	check(t, c, 128, l)
	if e := c.Put(api.Sample{T: 30, V: 8}, policy.Last); e != api.OK {
		t.Fatal(e)
	}
	check(t, o, 128, []api.Sample{{T: 1, V: 9}, {T: 30, V: 9}, {T: 31, V: 9}})
}

func TestSplitAndJoin(t *testing.T) {
	l := row(full, 10, 10, 4)
	c := filled(t, 128, l)
	o := checkSplit(t, c, 189)
	if e := o.Join(c); e != api.ErrArg {
		t.Error("the wrong way round:", e)
	}
	if e := c.Join(o); e != api.OK {
		t.Error(e)
	}
	check(t, c, 128, l)
	check(t, o, 128, nil)
}

// P4.6

func TestPartsOfWhatFitsFit(t *testing.T) {
	for _, size := range []int{128, 129, 256, 1000} {
		for seed := range uint64(100) {
			c := empty(t, size)
			for _, s := range chance(600, seed) {
				if c.Put(s, policy.Block) != api.OK {
					break
				}
				if c.Len() >= 2 {
					checkSplit(t, c.Copy(), parts(c.All()))
				}
			}
		}
	}
}

// model is samples as a plain list, and what the chapter says of them.
type model struct {
	size int
	l    []api.Sample
}

func (m *model) put(s api.Sample, p int) api.Errno {
	l := slices.Clone(m.l)
	at := slices.IndexFunc(l, func(x api.Sample) bool { return x.T == s.T })
	if at >= 0 {
		v, e := policy.Merge(p, l[at].V, s.V)
		if e != api.OK {
			return e
		}
		l[at].V = v
	} else {
		l = append(l, s)
		slices.SortFunc(l, func(a, b api.Sample) int { return a.T - b.T })
	}
	if delta.Bits(l) > 8*m.size {
		return api.ErrFull
	}
	m.l = l
	return api.OK
}

func (m *model) drop(from, to int) int {
	was := len(m.l)
	m.l = slices.DeleteFunc(m.l, func(x api.Sample) bool { return from <= x.T && x.T <= to })
	return was - len(m.l)
}

func TestManySteps(t *testing.T) {
	for seed, size := range []int{128, 128, 130, 200, 600} {
		c, m := empty(t, size), &model{size: size}
		seen := map[string]int{}
		for i, u := range numbers(4000) {
			u = u*(2*uint64(seed)+1) ^ u>>29
			time, v, p := int(u%300)<<(u>>10%3*15), int(u)>>(u>>20%64), int(u>>30%8)
			if u>>40%8 > 0 {
				got, want := c.Put(api.Sample{T: time, V: v}, p), m.put(api.Sample{T: time, V: v}, p)
				if got != want {
					t.Fatalf("%d, %d: Put(%d, %d) by %d: %d, want %d", seed, i, time, v, p, got, want)
				}
				seen[fmt.Sprint("put", got)]++
				if got == api.OK {
					if _, e := c.Get(time); e != api.OK {
						t.Fatalf("%d, %d: what was put is not got: %d", seed, i, e)
					}
				}
			} else {
				from, to := time, time+int(u>>50%40)
				got, want := c.Drop(from, to), m.drop(from, to)
				if got != want {
					t.Fatalf("%d, %d: Drop(%d, %d): %d, want %d", seed, i, from, to, got, want)
				}
				seen[fmt.Sprint("drop", got > 0)]++
			}
			check(t, c, size, m.l)
		}
		for _, name := range []string{"put0", "put1", "put2", "put8", "droptrue", "dropfalse"} {
			if seen[name] == 0 {
				t.Errorf("%d: %s was never seen: %v", seed, name, seen)
			}
		}
	}
}
