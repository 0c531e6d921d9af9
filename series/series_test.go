package series_test

import (
	"fmt"
	"math"
	"slices"
	"sort"
	"testing"

	"tachograph/api"
	"tachograph/delta"
	"tachograph/policy"
	"tachograph/series"
)

const (
	top    = math.MaxInt
	bottom = math.MinInt
	full   = 445 // samples of one step and value that fit into 128 bytes, to the last bit
)

// numbers is a row of numbers that look like chance, always the same of one seed.
func numbers(many int, seed uint64) []uint64 {
	l := make([]uint64, many)
	x := 88172645463325252 + seed*2654435761
	for i := range l {
		x ^= x << 13
		x ^= x >> 7
		x ^= x << 17
		l[i] = x
	}
	return l
}

// row is samples of a step and a value.
func row(many, from, step, v int) []api.Sample {
	l := make([]api.Sample, many)
	for i := range l {
		l[i] = api.Sample{T: from + i*step, V: v}
	}
	return l
}

// wide is samples of a step, whose values jump to and fro, so that few find room in a chunk.
func wide(many, from, step int) []api.Sample {
	l := row(many, from, step, 0)
	for i := range l {
		l[i].V = i % 2 << 60
	}
	return l
}

// chance is samples that look like chance: rising times, and differences of every width.
func chance(many int, seed uint64) []api.Sample {
	l := make([]api.Sample, many)
	u := numbers(4*many, seed)
	var s api.Sample
	for i := range l {
		s.T += 1 + int(u[4*i]>>1)>>(33+u[4*i+1]%30)
		s.V += int(u[4*i+2]) >> (u[4*i+3] % 64)
		l[i] = s
	}
	return l
}

// mixed is the same samples in another order, that looks like chance.
func mixed(l []api.Sample, seed uint64) []api.Sample {
	l = slices.Clone(l)
	for i, u := range numbers(len(l), seed) {
		j := i + int(u%uint64(len(l)-i))
		l[i], l[j] = l[j], l[i]
	}
	return l
}

// model is a series as a plain list, and what the chapter's words say of it.
type model struct {
	size, retention, policy, max, line int
	l                                  []api.Sample
}

func (m *model) add(x api.Sample, p int) api.Errno {
	if p == 0 {
		p = m.policy
	}
	if x.T < 0 || x.T >= 1<<40 || !policy.Right(p) {
		return api.ErrArg
	}
	if x.T < m.line {
		return api.ErrOld
	}
	at := slices.IndexFunc(m.l, func(y api.Sample) bool { return y.T == x.T })
	if at >= 0 {
		v, e := policy.Merge(p, m.l[at].V, x.V)
		if e != api.OK {
			return e
		}
		m.l[at].V = v
	} else {
		m.l = append(m.l, x)
		slices.SortFunc(m.l, func(a, b api.Sample) int { return a.T - b.T })
	}
	m.max = max(m.max, x.T)
	m.trim()
	return api.OK
}

func (m *model) alter(retention, p int) api.Errno {
	if retention < 0 || retention > 1<<40 || !policy.Right(p) {
		return api.ErrArg
	}
	m.retention, m.policy = retention, p
	m.trim()
	return api.OK
}

func (m *model) trim() {
	if m.retention > 0 && m.max-m.retention > m.line {
		m.line = m.max - m.retention
	}
	m.del(bottom, m.line-1)
}

func (m *model) del(from, to int) int {
	was := len(m.l)
	m.l = slices.DeleteFunc(m.l, func(x api.Sample) bool { return from <= x.T && x.T <= to })
	return was - len(m.l)
}

func (m *model) between(from, to int) []api.Sample {
	return slices.DeleteFunc(slices.Clone(m.l), func(x api.Sample) bool { return x.T < from || x.T > to })
}

// copy is another one with the same.
func (m *model) copy() *model {
	other := *m
	other.l = slices.Clone(m.l)
	return &other
}

// empty is a series without samples, and the same as a model; or the end of the test.
func empty(t *testing.T, size, retention, p int) (*series.Series, *model) {
	t.Helper()
	s, e := series.New(size, retention, p)
	if e != api.OK || s == nil {
		t.Fatalf("New(%d, %d, %d): %v, %d", size, retention, p, s, e)
	}
	return s, &model{size: size, retention: retention, policy: p, max: -1}
}

// filled is a series of no retention to which these samples were added, in their order, and the same as a model; or the end of the test.
func filled(t *testing.T, size int, l []api.Sample) (*series.Series, *model) {
	t.Helper()
	s, m := empty(t, size, 0, policy.Block)
	addAll(t, s, m, l)
	check(t, s, m)
	return s, m
}

// addAll adds samples to both.
func addAll(t *testing.T, s *series.Series, m *model, l []api.Sample) {
	t.Helper()
	for _, x := range l {
		if got, want := s.Add(x, 0), m.add(x, 0); got != want {
			t.Fatalf("Add(%v): %d, want %d", x, got, want)
		}
	}
}

// check holds everything that a series tells against what it must.
func check(t *testing.T, s *series.Series, m *model) {
	t.Helper()
	if s.Max() != m.max || s.Line() != m.line || s.Retention() != m.retention || s.Policy() != m.policy {
		t.Fatalf("Max %d, Line %d, Retention %d, Policy %d; want %d, %d, %d, %d", s.Max(), s.Line(), s.Retention(), s.Policy(), m.max, m.line, m.retention, m.policy)
	}
	if s.Len() != len(m.l) {
		t.Fatalf("Len %d, want %d", s.Len(), len(m.l))
	}
	checkRange(t, s, m, bottom, top)
	last, yes := s.Last()
	if len(m.l) == 0 {
		if yes || last != (api.Sample{}) {
			t.Fatalf("Last of none: %v, %v", last, yes)
		}
	} else if !yes || last != m.l[len(m.l)-1] {
		t.Fatalf("Last: %v, %v; want %v", last, yes, m.l[len(m.l)-1])
	}
	for _, x := range m.l {
		if v, e := s.Get(x.T); v != x.V || e != api.OK {
			t.Fatalf("Get(%d): %d, %d; want %d", x.T, v, e, x.V)
		}
	}
	checkChunks(t, s.Chunks(), m)
}

// checkRange holds what Range and Back tell against what they must.
func checkRange(t *testing.T, s *series.Series, m *model, from, to int) {
	t.Helper()
	want := m.between(from, to)
	if l := s.Range(from, to); !slices.Equal(l, want) {
		t.Fatalf("Range(%d, %d): %v; want %v", from, to, l, want)
	}
	slices.Reverse(want)
	if l := s.Back(from, to); !slices.Equal(l, want) {
		t.Fatalf("Back(%d, %d): %v; want %v", from, to, l, want)
	}
}

// checkChunks holds chunks against what they may be: also, that the samples can be cut into parts that need so many bytes.
func checkChunks(t *testing.T, chunks []int, m *model) {
	t.Helper()
	for i, used := range chunks {
		if used <= 0 || used > m.size {
			t.Fatalf("of %d: chunk %d of %v", m.size, i, chunks)
		}
		if i > 0 && 4*used < m.size && 4*chunks[i-1] < m.size {
			t.Fatalf("of %d: chunks %d and %d of %v are small", m.size, i-1, i, chunks)
		}
	}
	cuts := []int{0} // where the next chunk may begin
	for i, used := range chunks {
		var next []int
		for _, from := range cuts {
			need := func(many int) int { return (delta.Bits(m.l[from:from+many]) + 7) / 8 } // the more samples, the more bytes, or as many
			for many := sort.Search(len(m.l)-from, func(many int) bool { return need(many) >= used }); from+many <= len(m.l) && need(many) == used; many++ {
				if !slices.Contains(next, from+many) {
					next = append(next, from+many)
				}
			}
		}
		if cuts = next; len(cuts) == 0 {
			t.Fatalf("chunk %d of %v is not what samples need", i, chunks)
		}
	}
	if !slices.Contains(cuts, len(m.l)) {
		t.Fatalf("chunks %v are not what %d samples need", chunks, len(m.l))
	}
}

// none is series that are none.
func none() []*series.Series {
	return []*series.Series{nil, {}, new(series.Series)}
}

// times is times at their ends, and beyond.
func times() []int {
	return []int{bottom, bottom + 1, -1 << 40, -2, -1, 0, 1, 2, 1<<40 - 2, 1<<40 - 1, 1 << 40, 1<<40 + 1, 1<<41 - 1, 1 << 62, top - 1, top}
}

// noPolicies is numbers that are no policies, 0 apart.
func noPolicies() []int {
	return []int{-1, -2, -6, 7, 8, 255, 256, 257, 1 << 32, 1<<32 + 1, top, bottom}
}

// The sentence ahead of the promises

func TestSeriesThatAreNone(t *testing.T) {
	for i, s := range none() {
		for _, time := range times() {
			for p := -1; p < 9; p++ {
				if e := s.Add(api.Sample{T: time, V: 1}, p); e != api.ErrNil {
					t.Errorf("%d: Add at %d by %d: %d", i, time, p, e)
				}
				if e := s.Alter(time, p); e != api.ErrNil {
					t.Errorf("%d: Alter(%d, %d): %d", i, time, p, e)
				}
			}
			if v, e := s.Get(time); v != 0 || e != api.ErrNil {
				t.Errorf("%d: Get(%d): %d, %d", i, time, v, e)
			}
			for _, to := range times() {
				if many := s.Del(time, to); many != 0 {
					t.Errorf("%d: Del(%d, %d): %d", i, time, to, many)
				}
				if s.Range(time, to) != nil || s.Back(time, to) != nil {
					t.Errorf("%d: Range or Back(%d, %d)", i, time, to)
				}
				if r, e := series.Restore(s, time, to, []api.Sample{{T: 1, V: 1}}); r != nil || e != api.ErrNil {
					t.Errorf("%d: Restore(%d, %d): %v, %d", i, time, to, r, e)
				}
			}
		}
		if r, e := series.Restore(s, -1, 0, nil); r != nil || e != api.ErrNil {
			t.Errorf("%d: Restore: %v, %d", i, r, e)
		}
		if x, yes := s.Last(); x != (api.Sample{}) || yes {
			t.Errorf("%d: Last: %v, %v", i, x, yes)
		}
		if s.Len() != 0 || s.Max() != -1 || s.Line() != 0 || s.Retention() != 0 || s.Policy() != 0 {
			t.Errorf("%d: Len %d, Max %d, Line %d, Retention %d, Policy %d", i, s.Len(), s.Max(), s.Line(), s.Retention(), s.Policy())
		}
		if s.Chunks() != nil || s.Copy() != nil {
			t.Errorf("%d: Chunks %v, Copy %v", i, s.Chunks(), s.Copy())
		}
	}
}

func TestExample(t *testing.T) {
	s, m := empty(t, 128, 10, policy.Last)
	for i, want := range []api.Errno{api.OK, api.OK, api.ErrOld} {
		x := api.Sample{T: []int{5, 20, 9}[i], V: 1}
		if e := s.Add(x, 0); e != want || m.add(x, 0) != want {
			t.Errorf("Add(%v): %d", x, e)
		}
	}
	if v, e := s.Get(5); v != 0 || e != api.ErrNone {
		t.Errorf("Get(5): %d, %d", v, e)
	}
	check(t, s, m)
}

// P5.1

func TestNewTakes(t *testing.T) {
	for _, size := range []int{128, 129, 512, 4095, 4096} {
		for _, retention := range []int{0, 1, 10, 1<<40 - 1, 1 << 40} {
			for p := policy.Block; p <= policy.Sum; p++ {
				s, m := empty(t, size, retention, p)
				check(t, s, m)
				if v, e := s.Get(0); v != 0 || e != api.ErrNone {
					t.Errorf("Get: %d, %d", v, e)
				}
				if s.Range(bottom, top) != nil || s.Chunks() != nil {
					t.Error(s.Range(bottom, top), s.Chunks())
				}
			}
		}
	}
}

func TestNewRefuses(t *testing.T) {
	refused := func(size, retention, p int) {
		t.Helper()
		if s, e := series.New(size, retention, p); s != nil || e != api.ErrArg {
			t.Errorf("New(%d, %d, %d): %v, %d", size, retention, p, s, e)
		}
	}
	for _, size := range []int{127, 4097, 0, 1, -1, -128, -4096, 1<<32 + 128, bottom, top} {
		refused(size, 0, policy.Block)
		refused(size, -1, 0)
	}
	for _, retention := range []int{-1, 1<<40 + 1, -10, 1 << 41, bottom, top} {
		refused(128, retention, policy.Last)
		refused(4096, retention, policy.Sum)
		refused(128, retention, 7)
	}
	for _, p := range append(noPolicies(), 0) {
		refused(128, 0, p)
		refused(4096, 1<<40, p)
	}
}

func TestSizeIsTheChunks(t *testing.T) {
	for _, size := range []int{128, 129, 200, 511, 4096} {
		l := wide((8*size-205)/69+2, 0, 10) // 205 bits of two, 69 of each further one
		s, m := filled(t, size, l)
		if chunks := s.Chunks(); len(chunks) != 1 || size-chunks[0] > 8 {
			t.Errorf("%d: %v", size, chunks)
		}
		addAll(t, s, m, []api.Sample{{T: 1 << 30, V: -1 << 60}})
		check(t, s, m)
		if chunks := s.Chunks(); len(chunks) != 2 {
			t.Errorf("%d: %v", size, chunks)
		}
	}
}

func TestAlter(t *testing.T) {
	for _, c := range []struct{ retention, line, left int }{ // of samples at 0, 10, .., 200, all retained
		{0, 0, 21}, {1, 199, 1}, {9, 191, 1}, {10, 190, 2}, {11, 189, 2}, {199, 1, 20}, {200, 0, 21}, {201, 0, 21}, {1<<40 - 1, 0, 21}, {1 << 40, 0, 21},
	} {
		for p := policy.Block; p <= policy.Sum; p++ {
			s, m := filled(t, 128, wide(21, 0, 10))
			if got, want := s.Alter(c.retention, p), m.alter(c.retention, p); got != api.OK || want != api.OK {
				t.Fatalf("Alter(%d, %d): %d", c.retention, p, got)
			}
			check(t, s, m)
			if s.Line() != c.line || s.Len() != c.left || s.Max() != 200 || s.Retention() != c.retention || s.Policy() != p {
				t.Errorf("Alter(%d, %d): Line %d, Len %d, Max %d", c.retention, p, s.Line(), s.Len(), s.Max())
			}
		}
	}
}

func TestAlterRefuses(t *testing.T) {
	s, m := empty(t, 128, 1000, policy.Min)
	addAll(t, s, m, wide(21, 0, 10))
	refused := func(retention, p int) {
		t.Helper()
		if e := s.Alter(retention, p); e != api.ErrArg {
			t.Errorf("Alter(%d, %d): %d", retention, p, e)
		}
		check(t, s, m)
	}
	for _, retention := range []int{-1, 1<<40 + 1, -10, 1 << 41, bottom, top} {
		refused(retention, policy.Last)
		refused(retention, 0)
	}
	for _, p := range append(noPolicies(), 0) {
		refused(0, p)
		refused(5, p)
		refused(1<<40, p)
	}
}

func TestAlterOfNoSamples(t *testing.T) {
	s, m := empty(t, 128, 5, policy.Min)
	for _, retention := range []int{1, 1 << 40, 0, 3} {
		if s.Alter(retention, policy.Max) != api.OK || m.alter(retention, policy.Max) != api.OK {
			t.Error(retention)
		}
		check(t, s, m)
		if s.Line() != 0 || s.Max() != -1 {
			t.Error(s.Line(), s.Max())
		}
	}
	addAll(t, s, m, row(3, 0, 2, 7))
	check(t, s, m)
}

func TestTheLineNeverFalls(t *testing.T) {
	s, m := empty(t, 128, 100, policy.Last)
	for i, c := range []struct{ time, retention, line int }{ // a time that is added, or, below 0, a retention
		{150, 0, 50}, {-1, 40, 110}, {-1, 60, 110}, {160, 0, 110}, {-1, 1 << 40, 110}, {-1, 0, 110},
		{1000, 0, 110}, {-1, 900, 110}, {-1, 890, 110}, {-1, 889, 111}, {-1, 890, 111}, {1001, 0, 111}, {1002, 0, 112},
		{-1, 1, 1001}, {-1, 0, 1001}, {1<<40 - 1, 0, 1001}, {-1, 1, 1<<40 - 2}, {-1, 1 << 40, 1<<40 - 2}, {-1, 0, 1<<40 - 2},
	} {
		if c.time >= 0 {
			addAll(t, s, m, []api.Sample{{T: c.time, V: i}})
		} else if s.Alter(c.retention, policy.Last) != api.OK || m.alter(c.retention, policy.Last) != api.OK {
			t.Fatal(i)
		}
		check(t, s, m)
		if s.Line() != c.line {
			t.Fatalf("%d: Line %d, want %d", i, s.Line(), c.line)
		}
		if e := s.Add(api.Sample{T: c.line - 1, V: 1}, 0); e != api.ErrOld {
			t.Fatalf("%d: below the line: %d", i, e)
		}
		check(t, s, m)
	}
}

func TestAlteredPolicyIsTheSeriesOwn(t *testing.T) {
	s, m := filled(t, 128, row(3, 0, 10, 5))
	for i, c := range []struct {
		p, now, v int
		e         api.Errno
	}{{policy.Sum, 3, 8, api.OK}, {policy.Min, 4, 4, api.OK}, {policy.Block, 9, 4, api.ErrBlocked}, {policy.Max, 9, 9, api.OK}, {policy.First, 1, 9, api.OK}, {policy.Last, 1, 1, api.OK}} {
		x := api.Sample{T: 10, V: c.now}
		if s.Alter(0, c.p) != api.OK || m.alter(0, c.p) != api.OK {
			t.Fatal(i)
		}
		if e := s.Add(x, 0); e != c.e || m.add(x, 0) != c.e {
			t.Errorf("%d: %d", i, e)
		}
		check(t, s, m)
		if v, _ := s.Get(10); v != c.v {
			t.Errorf("%d: %d", i, v)
		}
	}
}

// P5.2

func TestAddRefusesTimes(t *testing.T) {
	for _, l := range [][]api.Sample{nil, row(3, 0, 10, 5), wide(30, 1<<20, 10)} {
		s, m := filled(t, 128, l)
		for _, time := range []int{-1, -2, 1 << 40, 1<<40 + 1, 1 << 62, top, bottom} {
			for p := -1; p < 9; p++ {
				if e := s.Add(api.Sample{T: time, V: 5}, p); e != api.ErrArg {
					t.Errorf("Add at %d by %d: %d", time, p, e)
				}
			}
		}
		check(t, s, m)
	}
}

func TestAddRefusesPolicies(t *testing.T) {
	s, m := empty(t, 128, 20, policy.Last)
	addAll(t, s, m, row(4, 0, 10, 5))
	for _, p := range noPolicies() {
		for _, time := range []int{0, 9, 10, 11, 30, 31, 1<<40 - 1} { // below the line, on it, where there is one, and where there is none
			if e := s.Add(api.Sample{T: time, V: 6}, p); e != api.ErrArg {
				t.Errorf("Add at %d by %d: %d", time, p, e)
			}
		}
	}
	check(t, s, m)
	s, m = empty(t, 128, 0, policy.Last)
	for _, p := range noPolicies() {
		if e := s.Add(api.Sample{T: 0, V: 6}, p); e != api.ErrArg {
			t.Errorf("Add by %d: %d", p, e)
		}
	}
	check(t, s, m)
}

func TestAddAtTheEndsOfTime(t *testing.T) {
	for _, order := range [][]int{{0, 1<<40 - 1}, {1<<40 - 1, 0}, {1, 1<<40 - 2, 0, 1<<40 - 1}} {
		for _, retention := range []int{0, 1 << 40, 1<<40 - 1} {
			s, m := empty(t, 128, retention, policy.Block)
			for _, time := range order {
				addAll(t, s, m, []api.Sample{{T: time, V: time}})
				check(t, s, m)
			}
			if s.Len() != len(order) || s.Line() != 0 || s.Max() != 1<<40-1 {
				t.Error(order, retention, s.Len(), s.Line(), s.Max())
			}
		}
	}
}

func TestAddAtTheLine(t *testing.T) {
	for _, c := range []struct {
		time int
		e    api.Errno
	}{{0, api.ErrOld}, {88, api.ErrOld}, {89, api.ErrOld}, {90, api.OK}, {91, api.OK}, {99, api.OK}, {100, api.ErrBlocked}, {101, api.OK}} {
		for _, p := range []int{0, policy.Block} {
			s, m := empty(t, 128, 10, policy.Block)
			addAll(t, s, m, []api.Sample{{T: 100, V: 1}})
			x := api.Sample{T: c.time, V: 2}
			if e := s.Add(x, p); e != c.e || m.add(x, p) != c.e {
				t.Errorf("%d: %d, want %d", c.time, e, c.e)
			}
			check(t, s, m)
		}
	}
}

func TestAddTakesAwayWhatIsBelowTheLine(t *testing.T) {
	for _, retention := range []int{1, 5, 9, 10, 11, 55, 200, 300} {
		s, m := empty(t, 128, retention, policy.Block)
		for _, x := range wide(60, 0, 10) {
			addAll(t, s, m, []api.Sample{x})
			check(t, s, m)
		}
		if s.Len() != min(60, retention/10+1) || s.Line() != 590-retention {
			t.Error(retention, s.Len(), s.Line())
		}
	}
	s, m := empty(t, 128, 10, policy.Block)
	addAll(t, s, m, row(500, 0, 1, 7))
	addAll(t, s, m, []api.Sample{{T: 1 << 39, V: 1}}) // all others at once
	check(t, s, m)
	if s.Len() != 1 {
		t.Error(s.Len())
	}
}

func TestAddLeavesMaxWhereItIs(t *testing.T) {
	s, m := empty(t, 128, 50, policy.Last)
	for _, time := range []int{100, 60, 99, 50, 100, 101, 51} {
		addAll(t, s, m, []api.Sample{{T: time, V: time}})
		check(t, s, m)
	}
	if s.Max() != 101 || s.Line() != 51 {
		t.Error(s.Max(), s.Line())
	}
}

func TestAddOfATimeThatIsThere(t *testing.T) {
	for _, c := range []struct {
		p, old, now, v int
		e              api.Errno
	}{
		{policy.Block, 5, 8, 5, api.ErrBlocked}, {policy.Block, 5, 5, 5, api.ErrBlocked},
		{policy.First, 5, 8, 5, api.OK}, {policy.First, 5, 2, 5, api.OK},
		{policy.Last, 5, 8, 8, api.OK}, {policy.Last, 5, 2, 2, api.OK},
		{policy.Min, 5, 8, 5, api.OK}, {policy.Min, 5, -2, -2, api.OK},
		{policy.Max, 5, 8, 8, api.OK}, {policy.Max, 5, -2, 5, api.OK},
		{policy.Sum, 5, 8, 13, api.OK}, {policy.Sum, 5, -8, -3, api.OK},
		{policy.Sum, 5, top, 5, api.ErrOver}, {policy.Sum, 5, top - 4, 5, api.ErrOver}, {policy.Sum, 5, top - 5, top, api.OK},
		{policy.Sum, -5, bottom, -5, api.ErrOver}, {policy.Sum, -5, bottom + 5, bottom, api.OK},
	} {
		for _, at := range []int{0, 1, 12, 13, 29, 39} {
			for own := policy.Block; own <= policy.Sum; own++ {
				l := wide(40, 0, 10)
				l[at].V = c.old
				s, m := empty(t, 128, 0, own)
				addAll(t, s, m, l)
				p := c.p
				if p == own {
					p = 0 // its own one
				}
				if e := s.Add(api.Sample{T: 10 * at, V: c.now}, p); e != c.e {
					t.Errorf("%d of %v by %d: %d", at, c, p, e)
				}
				m.l[at].V = c.v
				check(t, s, m)
			}
		}
	}
}

func TestAddErrorsInTheirOrder(t *testing.T) {
	s, m := empty(t, 128, 10, policy.Block)
	addAll(t, s, m, []api.Sample{{T: 100, V: top}})
	for _, c := range []struct {
		time, v, p int
		e          api.Errno
	}{
		{-1, 0, 7, api.ErrArg}, {-1, 0, 0, api.ErrArg}, {89, 0, 7, api.ErrArg}, {100, 0, 7, api.ErrArg}, {100, 1, -1, api.ErrArg},
		{89, 0, 0, api.ErrOld}, {89, 0, policy.Sum, api.ErrOld},
		{100, 1, 0, api.ErrBlocked}, {100, 1, policy.Block, api.ErrBlocked}, {100, 1, policy.Sum, api.ErrOver},
	} {
		if e := s.Add(api.Sample{T: c.time, V: c.v}, c.p); e != c.e {
			t.Errorf("%v: %d", c, e)
		}
		check(t, s, m)
	}
}

// P5.3

func TestDel(t *testing.T) {
	for _, c := range []struct{ from, to, first, end int }{ // of samples at 100, 110, .., 490: which are gone
		{100, 490, 0, 40}, {bottom, top, 0, 40}, {99, 491, 0, 40}, {0, 1 << 40, 0, 40}, {100, top, 0, 40}, {bottom, 490, 0, 40},
		{100, 100, 0, 1}, {250, 250, 15, 16}, {490, 490, 39, 40}, {220, 220, 12, 13}, {230, 230, 13, 14},
		{110, 480, 1, 39}, {109, 481, 1, 39}, {111, 479, 2, 38}, {220, 230, 12, 14}, {200, 400, 10, 31}, {225, 365, 13, 27}, {110, 130, 1, 4},
		{bottom, 100, 0, 1}, {bottom, 225, 0, 13}, {485, top, 39, 40}, {225, top, 13, 40},
		{101, 109, 0, 0}, {225, 225, 0, 0}, {bottom, 99, 0, 0}, {491, top, 0, 0}, {bottom, bottom, 0, 0}, {top, top, 0, 0}, {-5, -5, 0, 0},
		{490, 100, 0, 0}, {251, 250, 0, 0}, {top, bottom, 0, 0}, {260, 250, 0, 0}, {400, 150, 0, 0}, {100, 99, 0, 0}, {500, 495, 0, 0}, {1 << 41, 1 << 40, 0, 0},
	} {
		s, m := empty(t, 128, 390, policy.Block)
		addAll(t, s, m, wide(40, 100, 10))
		if len(s.Chunks()) < 3 {
			t.Fatal(s.Chunks())
		}
		if many, want := s.Del(c.from, c.to), m.del(c.from, c.to); many != want || many != c.end-c.first {
			t.Errorf("Del(%d, %d): %d, want %d", c.from, c.to, many, want)
		}
		check(t, s, m)
		if s.Max() != 490 || s.Line() != 100 {
			t.Errorf("Del(%d, %d): Max %d, Line %d", c.from, c.to, s.Max(), s.Line())
		}
		for _, x := range wide(40, 100, 10)[c.first:c.end] {
			if v, e := s.Get(x.T); v != 0 || e != api.ErrNone {
				t.Errorf("Del(%d, %d): Get(%d): %d, %d", c.from, c.to, x.T, v, e)
			}
		}
		if many := s.Del(c.from, c.to); many != 0 {
			t.Errorf("Del(%d, %d) once more: %d", c.from, c.to, many)
		}
		check(t, s, m)
	}
}

func TestDelOfNoSamples(t *testing.T) {
	s, m := empty(t, 128, 0, policy.Block)
	for _, from := range times() {
		for _, to := range times() {
			if many := s.Del(from, to); many != 0 {
				t.Errorf("Del(%d, %d): %d", from, to, many)
			}
		}
	}
	check(t, s, m)
}

func TestDelAndAddAnew(t *testing.T) {
	s, m := empty(t, 128, 100, policy.Block)
	addAll(t, s, m, wide(50, 0, 10))
	if many := s.Del(0, 1<<40); many != 11 || m.del(0, 1<<40) != 11 {
		t.Fatal(many)
	}
	check(t, s, m)
	if s.Chunks() != nil || s.Max() != 490 || s.Line() != 390 {
		t.Error(s.Chunks(), s.Max(), s.Line())
	}
	for _, c := range []struct {
		time int
		e    api.Errno
	}{{389, api.ErrOld}, {390, api.OK}, {490, api.OK}, {490, api.ErrBlocked}, {491, api.OK}, {390, api.ErrOld}} {
		x := api.Sample{T: c.time, V: 3}
		if e := s.Add(x, 0); e != c.e || m.add(x, 0) != c.e {
			t.Errorf("%d: %d, want %d", c.time, e, c.e)
		}
		check(t, s, m)
	}
}

// P5.4

func TestRangeAndBack(t *testing.T) {
	for _, many := range []int{1, 2, 13, 14, 40} {
		s, m := filled(t, 128, wide(many, 100, 10))
		edges := times()
		for i := range many {
			edges = append(edges, 99+10*i, 100+10*i, 101+10*i)
		}
		for _, from := range edges {
			for _, to := range edges {
				checkRange(t, s, m, from, to)
			}
		}
		check(t, s, m)
	}
}

func TestRangeOfGapsBetweenChunks(t *testing.T) {
	s, m := filled(t, 128, wide(50, 0, 1<<20))
	if len(s.Chunks()) < 3 {
		t.Fatal(s.Chunks())
	}
	for i := range 50 {
		for _, from := range []int{i<<20 - 1, i << 20, i<<20 + 1} {
			for _, to := range []int{from, from + 1, from + 2, from + 1<<19, from + 1<<20, from + 1<<24, from - 1, from - 1<<20} {
				checkRange(t, s, m, from, to)
			}
		}
	}
	for _, c := range [][2]int{{5, 9}, {3 << 20, 5<<20 - 1}, {1<<20 + 1, 2<<20 - 1}} {
		if l := s.Range(c[0], c[1]); len(l) != len(m.between(c[0], c[1])) || len(l) == 0 && l != nil {
			t.Error(c, l)
		}
	}
}

func TestGet(t *testing.T) {
	s, m := filled(t, 128, wide(50, 10, 10))
	for _, time := range times() {
		if v, e := s.Get(time); v != 0 || e != api.ErrNone {
			t.Errorf("Get(%d): %d, %d", time, v, e)
		}
	}
	for _, x := range m.l {
		for _, time := range []int{x.T - 1, x.T + 1, x.T - 5, x.T + 5} {
			if v, e := s.Get(time); v != 0 || e != api.ErrNone {
				t.Errorf("Get(%d): %d, %d", time, v, e)
			}
		}
	}
	check(t, s, m)
}

func TestGetLastAndLenFollow(t *testing.T) {
	s, m := empty(t, 128, 0, policy.Last)
	for _, x := range []api.Sample{{T: 0, V: 0}, {T: 5, V: bottom}, {T: 3, V: top}, {T: 5, V: -1}, {T: 1<<40 - 1, V: 9}} {
		addAll(t, s, m, []api.Sample{x})
		check(t, s, m)
	}
	for _, time := range []int{1<<40 - 1, 0, 5, 3} {
		if s.Del(time, time) != 1 || m.del(time, time) != 1 {
			t.Fatal(time)
		}
		check(t, s, m)
	}
	if s.Len() != 0 || s.Max() != 1<<40-1 {
		t.Error(s.Len(), s.Max())
	}
}

// P5.5

// rows is samples of many kinds.
func rows() map[string][]api.Sample {
	return map[string][]api.Sample{
		"one step and value": row(1000, 7, 10, 4),
		"jumps":              wide(300, 0, 10),
		"chance 1":           chance(300, 1),
		"chance 2":           chance(300, 2),
		"one by one":         wide(200, 0, 1),
	}
}

// falling is the same samples, the last one first.
func falling(l []api.Sample) []api.Sample {
	l = slices.Clone(l)
	slices.Reverse(l)
	return l
}

// inside is the same samples, from both ends to the middle.
func inside(l []api.Sample) []api.Sample {
	var out []api.Sample
	for i := range len(l) / 2 {
		out = append(out, l[i], l[len(l)-1-i])
	}
	if len(l)%2 == 1 {
		out = append(out, l[len(l)/2])
	}
	return out
}

func TestChunksInWhateverOrder(t *testing.T) {
	for name, l := range rows() {
		for _, size := range []int{128, 130, 200, 600} {
			for i, order := range [][]api.Sample{l, falling(l), inside(l), falling(inside(l)), mixed(l, 1), mixed(l, 2)} {
				s, m := empty(t, size, 0, policy.Block)
				for j, x := range order {
					addAll(t, s, m, []api.Sample{x})
					if j%11 == 0 || j == len(order)-1 {
						checkChunks(t, s.Chunks(), m)
					}
				}
				if !slices.Equal(m.l, l) {
					t.Fatal(name, size, i)
				}
				if len(s.Chunks()) < delta.Bits(l)/(8*size) {
					t.Errorf("%s: %v", name, s.Chunks())
				}
			}
			if t.Failed() {
				return
			}
		}
	}
}

func TestChunksInOrderStayFull(t *testing.T) {
	s, m := filled(t, 128, row(5*full, 10, 10, 4))
	if chunks := s.Chunks(); !slices.Equal(chunks, []int{128, 128, 128, 128, 128}) {
		t.Error(chunks)
	}
	addAll(t, s, m, row(1, 10*(5*full+1), 10, 4))
	check(t, s, m)
}

func TestChunksBehindDel(t *testing.T) {
	for name, l := range rows() {
		for _, size := range []int{128, 201, 600} {
			for seed := range uint64(2) {
				s, m := empty(t, size, 0, policy.Block)
				addAll(t, s, m, mixed(l, seed))
				for i, x := range mixed(l, seed+9) {
					to := x.T
					if i%5 == 4 { // some at once
						to = m.l[min(len(m.l)-1, i%37)].T
					}
					if got, want := s.Del(x.T, to), m.del(x.T, to); got != want {
						t.Fatalf("%s: Del(%d, %d): %d, want %d", name, x.T, to, got, want)
					}
					if i%3 == 0 {
						checkChunks(t, s.Chunks(), m)
					}
					if len(m.l) == 0 {
						break
					}
				}
				if s.Len() != len(m.l) {
					t.Error(name, s.Len())
				}
			}
		}
	}
}

// still is samples that need more bytes without the one at 40: it stands as its neighbour does, and all others jump.
func still() []api.Sample {
	l := make([]api.Sample, 68)
	v := 0
	for i := range l {
		if i > 0 && i != 40 {
			v = 1<<60 - v
		}
		l[i] = api.Sample{T: i << 30, V: v}
	}
	return l
}

func TestChunksBehindADelThatNeedsMore(t *testing.T) {
	for _, c := range []struct{ size, many int }{{594, 2}, {600, 2}, {609, 2}, {610, 2}, {611, 1}, {612, 1}} { // 594 bytes, and 611 without that one
		s, m := filled(t, c.size, still())
		if chunks := s.Chunks(); !slices.Equal(chunks, []int{594}) {
			t.Fatal(chunks)
		}
		if s.Del(40<<30, 40<<30) != 1 || m.del(40<<30, 40<<30) != 1 {
			t.Fatal("Del")
		}
		if used := (delta.Bits(m.l) + 7) / 8; used != 611 {
			t.Fatal(used)
		}
		check(t, s, m)
		if chunks := s.Chunks(); len(chunks) != c.many {
			t.Errorf("%d: %v", c.size, chunks)
		}
	}
}

func TestChunksBehindALineThatNeedsMore(t *testing.T) {
	l := append([]api.Sample{{T: 0, V: 0}, {T: 1<<23 - 1, V: 0}}, wide(13, 1<<23-1+1<<24-2, 1<<24-2)...)
	if delta.Bits(l) != 1014 || delta.Bits(l[1:]) != 1025 { // each step's difference needs less than the second step itself
		t.Fatal(delta.Bits(l), delta.Bits(l[1:]))
	}
	last := l[len(l)-1].T
	s, m := empty(t, 128, last, policy.Block)
	addAll(t, s, m, l)
	check(t, s, m)
	r, n := s.Copy(), m.copy()
	if chunks := s.Chunks(); !slices.Equal(chunks, []int{127}) {
		t.Fatal(chunks)
	}
	addAll(t, s, m, []api.Sample{{T: last + 1, V: 0}})
	check(t, s, m)
	if r.Alter(last-1, policy.Block) != api.OK || n.alter(last-1, policy.Block) != api.OK {
		t.Fatal("Alter")
	}
	check(t, r, n)
	if chunks := r.Chunks(); len(chunks) != 2 || r.Len() != len(l)-1 || s.Len() != len(l) {
		t.Error(chunks, r.Len(), s.Len())
	}
}

func TestChunksBehindAMergeThatNeedsMore(t *testing.T) {
	for _, at := range []int{0, 1, 2, 100, 188, 189, 300, full - 2, full - 1} {
		for _, p := range []int{policy.Last, policy.Max, policy.Sum} {
			s, m := filled(t, 128, row(full, 10, 10, 4))
			if chunks := s.Chunks(); !slices.Equal(chunks, []int{128}) {
				t.Fatal(chunks)
			}
			x := api.Sample{T: 10 + 10*at, V: 1 << 60}
			if s.Add(x, p) != api.OK || m.add(x, p) != api.OK {
				t.Fatal(at, p)
			}
			check(t, s, m)
			if at > 0 && len(s.Chunks()) < 2 {
				t.Error(at, s.Chunks())
			}
		}
	}
}

func TestChunksBehindManyMerges(t *testing.T) {
	l := row(600, 10, 10, 4)
	s, m := filled(t, 128, l)
	u := numbers(len(l), 7)
	for i, x := range mixed(l, 4) { // ever more jump
		x.V = int(u[i]) >> (i % 40)
		if s.Add(x, policy.Last) != api.OK || m.add(x, policy.Last) != api.OK {
			t.Fatal(x)
		}
		checkChunks(t, s.Chunks(), m)
	}
	most := len(s.Chunks())
	for _, x := range mixed(l, 5) { // and are still again
		if s.Add(x, policy.Last) != api.OK || m.add(x, policy.Last) != api.OK {
			t.Fatal(x)
		}
		checkChunks(t, s.Chunks(), m)
	}
	check(t, s, m)
	if len(s.Chunks()) >= most {
		t.Error(most, s.Chunks())
	}
}

func TestAMergeThatMakesAChunkSmall(t *testing.T) {
	s, m := filled(t, 128, wide(16, 0, 10))
	if s.Del(10, 120) != 12 || m.del(10, 120) != 12 {
		t.Fatal("Del")
	}
	if chunks := s.Chunks(); !slices.Equal(chunks, []int{16, 35}) { // the second one is not small yet
		t.Fatal(chunks)
	}
	x := api.Sample{T: 150, V: 0}
	if s.Add(x, policy.Last) != api.OK || m.add(x, policy.Last) != api.OK {
		t.Fatal("Add")
	}
	check(t, s, m)
	if chunks := s.Chunks(); len(chunks) != 1 {
		t.Error(chunks)
	}
}

func TestNeighboursMeetWhereAllBetweenIsGone(t *testing.T) {
	s, m := filled(t, 128, wide(60, 0, 10))
	if many := s.Del(10, 580); many != 58 || m.del(10, 580) != 58 {
		t.Fatal(many)
	}
	check(t, s, m)
	if chunks := s.Chunks(); len(chunks) != 1 {
		t.Error(chunks)
	}
}

func TestChunksAtJustAQuarter(t *testing.T) {
	for _, c := range []struct {
		size int
		want []int
	}{{128, []int{16, 35}}, {139, []int{16, 35}}, {140, []int{16, 35}}, {141, []int{46}}} { // 35 bytes are just a quarter of 140
		s, m := filled(t, c.size, wide(60, 0, 10))
		second := 10 * ((8*c.size-205)/69 + 2) // where the second chunk begins
		for _, gone := range [][2]int{{10, second - 10}, {second + 30, top}} {
			if got, want := s.Del(gone[0], gone[1]), m.del(gone[0], gone[1]); got != want {
				t.Fatal(got, want)
			}
		}
		check(t, s, m)
		if chunks := s.Chunks(); !slices.Equal(chunks, c.want) {
			t.Errorf("%d: %v, want %v", c.size, chunks, c.want)
		}
	}
}

func TestChunksBehindAlter(t *testing.T) {
	for name, l := range rows() {
		for _, size := range []int{128, 201, 600} {
			s, m := empty(t, size, 0, policy.Block)
			addAll(t, s, m, mixed(l, 3))
			for i := range l {
				if i%7 > 0 {
					continue
				}
				for _, retention := range []int{s.Max() - l[i].T + 1, s.Max() - l[i].T} {
					if got, want := s.Alter(retention, policy.Block), m.alter(retention, policy.Block); got != want {
						t.Fatal(name, got, want)
					}
					checkChunks(t, s.Chunks(), m)
				}
			}
			check(t, s, m)
		}
	}
}

func TestCopy(t *testing.T) {
	for _, l := range [][]api.Sample{nil, row(3, 0, 10, 5), wide(60, 0, 10)} {
		for _, retention := range []int{0, 300} {
			a, m := empty(t, 128, retention, policy.Last)
			addAll(t, a, m, l)
			b, n := a.Copy(), m.copy()
			if b == nil || b == a {
				t.Fatal(b)
			}
			check(t, b, n)
			if !slices.Equal(a.Chunks(), b.Chunks()) {
				t.Error(a.Chunks(), b.Chunks())
			}
			changeBoth(t, a, m, b, n)
		}
	}
}

// changeBoth changes two series in turn, and looks whether either changes with the other.
func changeBoth(t *testing.T, a *series.Series, m *model, b *series.Series, n *model) {
	t.Helper()
	for i := range 200 {
		s, o := a, m
		if i%2 == 1 {
			s, o = b, n
		}
		u := numbers(200, 3)[i]
		switch x := (api.Sample{T: int(u % 700), V: int(u) >> (i % 60)}); {
		case i == 120 || i == 141:
			if s.Alter(i, policy.Max) != o.alter(i, policy.Max) {
				t.Fatal("Alter")
			}
		case i%10 > 7:
			if s.Del(x.T, x.T+20) != o.del(x.T, x.T+20) {
				t.Fatal("Del")
			}
		default:
			if s.Add(x, 0) != o.add(x, 0) {
				t.Fatal("Add")
			}
		}
		check(t, a, m)
		check(t, b, n)
	}
}

func TestCopiedAsValuesTheyStayApart(t *testing.T) {
	a, m := empty(t, 128, 0, policy.Last)
	addAll(t, a, m, wide(60, 0, 10))
	b := *a
	changeBoth(t, a, m, &b, m.copy())
}

func TestAnswersAreNewMemory(t *testing.T) {
	s, m := filled(t, 128, wide(40, 0, 10))
	for _, tell := range []func(from, to int) []api.Sample{s.Range, s.Back} {
		for _, c := range [][2]int{{bottom, top}, {0, 120}, {50, 50}, {5, 9}} {
			a, b := tell(c[0], c[1]), tell(c[0], c[1])
			was := slices.Clone(b)
			clear(a[:cap(a)])
			_ = append(a[:0], row(cap(a), 7, 7, 7)...)
			if !slices.Equal(b, was) {
				t.Error("two answers have memory in common")
			}
			check(t, s, m)
		}
	}
	a, b := s.Chunks(), s.Chunks()
	was := slices.Clone(b)
	clear(a[:cap(a)])
	if !slices.Equal(b, was) || !slices.Equal(s.Chunks(), was) {
		t.Error("two answers of Chunks have memory in common")
	}
	kept, chunks := s.Range(0, 1<<40), s.Chunks()
	wanted := slices.Clone(kept)
	addAll(t, s, m, row(10, 5, 10, 9))
	s.Del(0, 100)
	s.Add(api.Sample{T: 200, V: 77}, policy.Last)
	if !slices.Equal(kept, wanted) || !slices.Equal(chunks, was) {
		t.Error("an answer changes with the series")
	}
}

// P5.6

// restored is a series with what is told, or the end of the test.
func restored(t *testing.T, x *series.Series, greatest, line int, l []api.Sample) *series.Series {
	t.Helper()
	s, e := series.Restore(x, greatest, line, l)
	if e != api.OK || s == nil || s == x {
		t.Fatalf("Restore(%d, %d, %d samples): %v, %d", greatest, line, len(l), s, e)
	}
	return s
}

func TestRestore(t *testing.T) {
	for name, l := range rows() {
		for _, size := range []int{128, 201, 600, 4096} {
			for _, retention := range []int{0, 1 << 40} {
				x, m := empty(t, size, retention, policy.Min)
				last := l[len(l)-1].T
				for _, greatest := range []int{last, last + 1, 1<<40 - 1} {
					for _, line := range []int{0, l[0].T / 2, l[0].T} {
						n := *m
						n.max, n.line, n.l = greatest, line, l
						s := restored(t, x, greatest, line, l)
						checkChunks(t, s.Chunks(), &n)
						check(t, s, &n)
					}
				}
				check(t, x, m)
				if t.Failed() {
					t.Fatal(name)
				}
			}
		}
	}
}

func TestRestoreOfFew(t *testing.T) {
	x, m := empty(t, 128, 0, policy.Sum)
	for _, l := range [][]api.Sample{nil, {}, {{T: 0, V: 0}}, {{T: 1<<40 - 1, V: bottom}}, {{T: 0, V: bottom}, {T: 1<<40 - 1, V: top}}, chance(2, 3), chance(3, 3), chance(7, 3), chance(8, 3)} {
		n := *m
		n.max, n.l = 1<<40-1, l
		s := restored(t, x, n.max, 0, l)
		check(t, s, &n)
	}
	s := restored(t, x, -1, 0, nil)
	check(t, s, m)
}

func TestRestoreOfMany(t *testing.T) {
	x, m := empty(t, 4096, 0, policy.Sum)
	l := row(100000, 3, 10, 7) // as many as are decoded at once
	m.max, m.l = l[len(l)-1].T, l
	check(t, restored(t, x, m.max, 0, l), m)
}

func TestRestoreMaxAndLine(t *testing.T) {
	for _, c := range []struct {
		retention, max, line int
		e                    api.Errno
	}{
		{0, -1, 0, api.OK}, {0, 0, 0, api.OK}, {0, 1<<40 - 1, 0, api.OK}, {0, 1<<40 - 1, 1<<40 - 1, api.OK}, {0, 30, 30, api.OK}, {0, 30, 15, api.OK}, {0, 1, 1, api.OK},
		{0, -2, 0, api.ErrArg}, {0, bottom, 0, api.ErrArg}, {0, 1 << 40, 0, api.ErrArg}, {0, 1 << 40, 1<<40 - 1, api.ErrArg}, {0, 1 << 40, 1 << 40, api.ErrArg}, {0, top, 0, api.ErrArg}, {0, top, top, api.ErrArg},
		{0, -1, -1, api.ErrArg}, {0, -1, 1, api.ErrArg}, {0, 0, 1, api.ErrArg}, {0, 0, -1, api.ErrArg}, {0, 30, 31, api.ErrArg}, {0, 30, -1, api.ErrArg}, {0, 30, bottom, api.ErrArg}, {0, 30, top, api.ErrArg}, {0, bottom, bottom, api.ErrArg}, {0, bottom, top, api.ErrArg},
		{20, 30, 9, api.ErrArg}, {20, 30, 10, api.OK}, {20, 30, 11, api.OK}, {20, 30, 30, api.OK}, {20, 30, 31, api.ErrArg}, {20, 30, 0, api.ErrArg},
		{20, 20, 0, api.OK}, {20, 21, 0, api.ErrArg}, {20, 21, 1, api.OK}, {20, 19, 0, api.OK}, {20, -1, 0, api.OK}, {20, 0, 0, api.OK},
		{1, 1<<40 - 1, 1<<40 - 3, api.ErrArg}, {1, 1<<40 - 1, 1<<40 - 2, api.OK}, {1, 1<<40 - 1, 1<<40 - 1, api.OK}, {1 << 40, 1<<40 - 1, 0, api.OK}, {1<<40 - 1, 1<<40 - 1, 0, api.OK}, {1<<40 - 2, 1<<40 - 1, 0, api.ErrArg},
		{1 << 40, bottom, 0, api.ErrArg}, {1, bottom, 0, api.ErrArg}, {1, top, top, api.ErrArg},
	} {
		x, m := empty(t, 128, c.retention, policy.Min)
		s, e := series.Restore(x, c.max, c.line, nil)
		if e != c.e || (s == nil) != (e != api.OK) {
			t.Errorf("%v: %v, %d", c, s, e)
			continue
		}
		check(t, x, m)
		if e == api.OK {
			m.max, m.line = c.max, c.line
			check(t, s, m)
		}
	}
}

func TestRestoreSamples(t *testing.T) {
	at := func(times ...int) []api.Sample {
		var l []api.Sample
		for _, time := range times {
			l = append(l, api.Sample{T: time, V: 1})
		}
		return l
	}
	for _, c := range []struct {
		times []int
		e     api.Errno
	}{ // with a line of 12, and a Max of 30
		{[]int{12}, api.OK}, {[]int{30}, api.OK}, {[]int{12, 30}, api.OK}, {[]int{12, 13, 29, 30}, api.OK}, {nil, api.OK},
		{[]int{11}, api.ErrArg}, {[]int{31}, api.ErrArg}, {[]int{11, 12}, api.ErrArg}, {[]int{30, 31}, api.ErrArg}, {[]int{0}, api.ErrArg}, {[]int{-1}, api.ErrArg}, {[]int{12, 40}, api.ErrArg},
		{[]int{13, 13}, api.ErrArg}, {[]int{14, 13}, api.ErrArg}, {[]int{12, 20, 20, 30}, api.ErrArg}, {[]int{12, 20, 19, 30}, api.ErrArg}, {[]int{12, 20, 30, 30}, api.ErrArg}, {[]int{30, 12}, api.ErrArg}, {[]int{12, 12, 20}, api.ErrArg}, {[]int{12, 30, 11}, api.ErrArg},
		{[]int{bottom}, api.ErrArg}, {[]int{top}, api.ErrArg}, {[]int{20, top}, api.ErrArg}, {[]int{20, bottom}, api.ErrArg}, {[]int{top, bottom}, api.ErrArg}, {[]int{20, 1 << 40}, api.ErrArg},
	} {
		for _, retention := range []int{0, 18, 20} {
			x, m := empty(t, 128, retention, policy.Max)
			s, e := series.Restore(x, 30, 12, at(c.times...))
			if e != c.e || (s == nil) != (e != api.OK) {
				t.Errorf("%v: %v, %d", c, s, e)
				continue
			}
			if e == api.OK {
				m.max, m.line, m.l = 30, 12, at(c.times...)
				check(t, s, m)
			}
		}
	}
	x, _ := empty(t, 128, 0, policy.Max)
	for _, time := range times() {
		if s, e := series.Restore(x, -1, 0, at(time)); s != nil || e != api.ErrArg {
			t.Errorf("%d, above a Max of -1: %v, %d", time, s, e)
		}
	}
	l := wide(100, 0, 10)
	for i := range l {
		l[i].T++
		if i < 99 {
			l[i].T += 9
		}
		if s, e := series.Restore(x, 1<<40-1, 0, l); (e == api.OK) != (i == 99) || (s == nil) != (e != api.OK) {
			t.Errorf("%d: %v, %d", i, s, e)
		}
		l[i].T = 10 * i
	}
}

func TestRestoreTakesWhatXHas(t *testing.T) {
	for _, size := range []int{128, 4096} {
		x, m := empty(t, size, 100, policy.Sum)
		addAll(t, x, m, wide(40, 0, 10))
		l := wide(20, 500, 5)
		n := model{size: size, retention: 100, policy: policy.Sum, max: 600, line: 500, l: slices.Clone(l)}
		s := restored(t, x, 600, 500, l)
		check(t, s, &n)
		check(t, x, m)
		changeBoth(t, x, m, s, &n) // and goes on by itself
	}
}

func TestRestoreGoesOn(t *testing.T) {
	x, m := empty(t, 128, 20, policy.Min)
	m.max, m.line, m.l = 30, 12, []api.Sample{{T: 12, V: 1}, {T: 29, V: 2}}
	s := restored(t, x, 30, 12, slices.Clone(m.l))
	for _, c := range []struct {
		time int
		e    api.Errno
	}{{11, api.ErrOld}, {12, api.OK}, {32, api.OK}, {33, api.OK}, {12, api.ErrOld}, {13, api.OK}} {
		y := api.Sample{T: c.time, V: -5}
		if e := s.Add(y, 0); e != c.e || m.add(y, 0) != c.e {
			t.Errorf("%d: %d, want %d", c.time, e, c.e)
		}
		check(t, s, m)
	}
}

func TestRestoreLeavesTheListAlone(t *testing.T) {
	x, m := empty(t, 128, 0, policy.Last)
	room := append(wide(60, 0, 10), row(40, 7, 7, 7)...)
	was := slices.Clone(room)
	s := restored(t, x, 1000, 0, room[:60])
	m.max, m.l = 1000, slices.Clone(room[:60])
	addAll(t, s, m, row(50, 3, 10, 2))
	s.Del(0, 50)
	m.del(0, 50)
	if !slices.Equal(room, was) {
		t.Error("the list is changed, or the room behind it")
	}
	clear(room)
	check(t, s, m)
	room = append(wide(60, 0, 10), api.Sample{T: 5, V: 5})
	was = slices.Clone(room)
	if _, e := series.Restore(x, 1000, 0, room); e != api.ErrArg || !slices.Equal(room, was) {
		t.Error(e)
	}
}

// P5.7

func TestRestoredFromWhatAnotherOneTells(t *testing.T) {
	for seed := range uint64(6) {
		s, m := empty(t, 128+int(seed)*30, 0, policy.Last)
		for i := range 25 {
			step(t, s, m, numbers(40*(i+1), seed)[40*i:])
			r := restored(t, s, s.Max(), s.Line(), s.Range(0, 1<<40))
			n := m.copy()
			check(t, r, n)
			for j, u := range numbers(40, seed+99) { // both answer the same from now on
				x := api.Sample{T: int(u % 4000), V: int(u) >> (j % 60)}
				if got, want := r.Add(x, j%7), n.add(x, j%7); got != want {
					t.Fatalf("%d, %d: %d, want %d", seed, i, got, want)
				}
			}
			check(t, r, n)
			check(t, s, m)
		}
	}
}

func TestTheOrderMakesNoDifference(t *testing.T) {
	for _, p := range []int{policy.Min, policy.Max, policy.Sum} {
		l := append(append(chance(100, 5), wide(60, 0, 10)...), wide(60, 3, 10)...)
		for i := range l {
			l[i].V >>= 9 // so that no sum is too large
		}
		l = append(l, mixed(l, 8)[:90]...) // second ones of a time
		want, m := empty(t, 128, 1<<40, p)
		addAll(t, want, m, l)
		check(t, want, m)
		for seed := range uint64(8) {
			s, n := empty(t, 128, 1<<40, p)
			addAll(t, s, n, mixed(l, seed))
			if !slices.Equal(n.l, m.l) {
				t.Fatal("the model's own")
			}
			check(t, s, m)
		}
		s, _ := empty(t, 128, 1<<40, p)
		for _, x := range falling(l) {
			if e := s.Add(x, 0); e != api.OK {
				t.Fatal(x, e)
			}
		}
		check(t, s, m)
	}
}

// step does some calls, and holds what they answer against what they must.
func step(t *testing.T, s *series.Series, m *model, u []uint64) map[string]int {
	t.Helper()
	seen := map[string]int{}
	for _, u := range u[:40] {
		time, v, p := 5*(max(0, m.line-20)/5+int(u%uint64((m.max-m.line)/5+12))), int(u)>>(u>>20%8*8), int(u>>30%8) // from below the line to behind Max
		was := len(s.Chunks())
		switch kind := u >> 40 % 40; {
		case kind == 0:
			retention := []int{0, 500, 1500, 3000, 1 << 40, -1}[u>>50%6]
			got, want := s.Alter(retention, p), m.alter(retention, p)
			if got != want {
				t.Fatalf("Alter(%d, %d): %d, want %d", retention, p, got, want)
			}
			seen[fmt.Sprint("alter", got)]++
		case kind < 8:
			to := time + int(u>>50%60)
			got, want := s.Del(time, to), m.del(time, to)
			if got != want {
				t.Fatalf("Del(%d, %d): %d, want %d", time, to, got, want)
			}
			seen[fmt.Sprint("del", got > 0)]++
		default:
			got, want := s.Add(api.Sample{T: time, V: v}, p), m.add(api.Sample{T: time, V: v}, p)
			if got != want {
				t.Fatalf("Add(%d, %d) by %d: %d, want %d", time, v, p, got, want)
			}
			seen[fmt.Sprint("add", got)]++
		}
		seen[fmt.Sprint("chunks", min(1, max(-1, len(s.Chunks())-was)))]++
		checkChunks(t, s.Chunks(), m)
	}
	return seen
}

func TestManySteps(t *testing.T) {
	all := map[string]int{}
	for seed := range uint64(12) {
		s, m := empty(t, []int{128, 129, 200, 511}[seed%4], int(seed%3)*900, policy.Last)
		u := numbers(4000, seed+20)
		for len(u) > 0 {
			kept, n := *s, m.copy() // goes on by itself
			for name, many := range step(t, s, m, u) {
				all[name] += many
			}
			check(t, s, m)
			check(t, &kept, n)
			u = u[40:]
		}
	}
	for _, name := range []string{"add0", "add1", "add7", "add8", "add9", "alter0", "alter1", "deltrue", "delfalse", "chunks-1", "chunks0", "chunks1"} {
		if all[name] == 0 {
			t.Errorf("%s was never seen: %v", name, all)
		}
	}
}
