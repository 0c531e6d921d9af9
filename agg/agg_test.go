package agg_test

import (
	"fmt"
	"math"
	"math/big"
	"slices"
	"strings"
	"testing"

	"tachograph/agg"
	"tachograph/api"
)

const (
	top    = math.MaxInt
	bottom = math.MinInt
	end    = 1 << 40 // of all times, and the greatest size
)

// none is numbers that are no kinds.
func none() []int {
	return []int{0, 8, 9, -1, -2, -7, 255, 256, 257, 1 << 32, 1<<32 + 1, top - 1, top, bottom, bottom + 1}
}

// given is the kinds and their names, as the chapter tells them.
func given() []string {
	return []string{1: "sum", 2: "min", 3: "max", 4: "count", 5: "first", 6: "last", 7: "range"}
}

// numbers is a row of numbers that look like chance, of every width and both signs, always the same of one seed.
func numbers(many int, seed uint64) []int {
	l := make([]int, many)
	x := 88172645463325252 + seed*2654435761
	for i := range l {
		x ^= x << 13
		x ^= x >> 7
		x ^= x << 17
		l[i] = int(x) >> ((x >> 7) % 64)
	}
	return l
}

// lists is rows of numbers: all of up to four edges, and some longer ones that look like chance.
func lists() [][]int {
	edges := []int{bottom, bottom + 1, -3, -1, 0, 1, 4, top - 1, top}
	all := [][]int{nil}
	from := 0
	for range 4 {
		to := len(all)
		for _, l := range all[from:to] {
			for _, v := range edges {
				all = append(all, append(slices.Clone(l), v))
			}
		}
		from = to
	}
	for seed := range 200 {
		all = append(all, numbers(5+seed, uint64(seed)))
	}
	return all
}

// samples is numbers as samples, at times of which nothing hangs.
func samples(l []int) []api.Sample {
	var all []api.Sample
	for i, v := range l {
		all = append(all, api.Sample{T: i, V: v})
	}
	return all
}

// capped is a number, or the end that it is beyond.
func capped(n *big.Int) int {
	switch {
	case n.Cmp(big.NewInt(top)) > 0:
		return top
	case n.Cmp(big.NewInt(bottom)) < 0:
		return bottom
	}
	return int(n.Int64())
}

// summed is the sum of numbers, held between the ends behind each one.
func summed(l []int) int {
	sum := l[0]
	for _, v := range l[1:] {
		sum = capped(new(big.Int).Add(big.NewInt(int64(sum)), big.NewInt(int64(v))))
	}
	return sum
}

// value is what the chapter's words say that numbers make.
func value(kind int, l []int) (int, bool) {
	if len(l) == 0 {
		return 0, false
	}
	sorted := slices.Sorted(slices.Values(l))
	least, most := sorted[0], sorted[len(l)-1]
	switch given()[kind] {
	case "sum":
		return summed(l), true
	case "min":
		return least, true
	case "max":
		return most, true
	case "count":
		return len(l), true
	case "first":
		return l[0], true
	case "last":
		return l[len(l)-1], true
	}
	return capped(new(big.Int).Sub(big.NewInt(int64(most)), big.NewInt(int64(least)))), true
}

// empty is a state of a kind; or the end of the test.
func empty(t *testing.T, kind int) *agg.State {
	t.Helper()
	s, e := agg.New(kind)
	if e != api.OK || s == nil {
		t.Fatalf("New(%d): %v, %d", kind, s, e)
	}
	return s
}

// addAll adds numbers.
func addAll(t *testing.T, s *agg.State, l []int) {
	t.Helper()
	for _, v := range l {
		if e := s.Add(v); e != api.OK {
			t.Fatalf("Add(%d): %d", v, e)
		}
	}
}

// check holds what a state tells against what these numbers make.
func check(t *testing.T, s *agg.State, kind int, l []int) {
	t.Helper()
	want, wanted := value(kind, l)
	if v, ok := s.Value(); v != want || ok != wanted {
		t.Fatalf("%s of %v: %d, %v; want %d, %v", given()[kind], l, v, ok, want, wanted)
	}
	if s.Len() != len(l) {
		t.Fatalf("%s of %v: Len %d", given()[kind], l, s.Len())
	}
}

// P6.1

func TestTheKindsNumbers(t *testing.T) {
	got := []int{agg.Sum, agg.Min, agg.Max, agg.Count, agg.First, agg.Last, agg.Range}
	if !slices.Equal(got, []int{1, 2, 3, 4, 5, 6, 7}) {
		t.Error(got)
	}
}

func TestRightAndName(t *testing.T) {
	for kind, name := range given() {
		if kind > 0 && (!agg.Right(kind) || agg.Name(kind) != name) {
			t.Errorf("%d: %v, %q; want %q", kind, agg.Right(kind), agg.Name(kind), name)
		}
	}
	for _, kind := range none() {
		if agg.Right(kind) || agg.Name(kind) != "" {
			t.Errorf("%d, that is none: %v, %q", kind, agg.Right(kind), agg.Name(kind))
		}
	}
}

// checkParse holds what Parse answers against what it must; 0: there is none.
func checkParse(t *testing.T, s string, want int) {
	t.Helper()
	wanted := api.OK
	if want == 0 {
		wanted = api.ErrWord
	}
	if kind, e := agg.Parse(s); kind != want || e != wanted {
		t.Errorf("%q: %d, %d; want %d, %d", s, kind, e, want, wanted)
	}
}

func TestParseOfEachCase(t *testing.T) {
	for kind, name := range given()[1:] {
		for mask := range 1 << len(name) { // each letter great, or small
			s := []byte(name)
			for i := range s {
				if mask>>i&1 == 1 {
					s[i] -= 'a' - 'A'
				}
			}
			checkParse(t, string(s), kind+1)
		}
	}
}

// spelt is the kind whose name s is in small and great letters; 0: none.
func spelt(s string) int {
	small := []byte(s)
	for i, b := range small {
		if b >= 'A' && b <= 'Z' {
			small[i] += 'a' - 'A'
		}
	}
	return max(0, slices.Index(given()[1:], string(small))+1)
}

func TestParseOfAnotherByte(t *testing.T) {
	for _, name := range given() {
		for i := range len(name) {
			for b := range 256 {
				s := name[:i] + string([]byte{byte(b)}) + name[i+1:]
				checkParse(t, s, spelt(s)) // min and max are not far apart
			}
		}
	}
}

func TestParseOfAByteTooManyOrTooFew(t *testing.T) {
	for _, name := range given() {
		for i := range len(name) + 1 {
			for b := range 256 {
				checkParse(t, name[:i]+string([]byte{byte(b)})+name[i:], 0)
			}
			checkParse(t, name[:i]+"\r\n"+name[i:], 0)
			if i < len(name) {
				checkParse(t, name[:i]+name[i+1:], 0)
				checkParse(t, name[:i], 0)
				checkParse(t, name[i+1:], 0)
			}
		}
	}
}

func TestParseOfLettersThatLookLikeThem(t *testing.T) {
	for _, s := range []string{
		"\u017fum", "\u017fUM", "fir\u017ft", "FIR\u017fT", "la\u017ft", "LA\u017fT", // a long s: its great letter is S
		"m\u0131n", "M\u0131N", "f\u0131rst", // an i without a dot: its great letter is I
		"m\u0130n", "M\u0130N", "F\u0130RST", // an I with a dot: its small letter is i
		"\uff53\uff55\uff4d", "\u043c\u0430\u0445", "m\u0430x", "mi\u0148", "mi\u0307n", "max\u0301", "r\u00e5nge", "co\u00fbnt",
		"\ufffdum", "su\xcd", "\xf3um", "m\x00n",
	} {
		checkParse(t, s, 0)
	}
}

func TestParseOfOtherTexts(t *testing.T) {
	for _, s := range []string{
		"", " ", "  min", "min  ", " min ", "min max", "minmax", "min,max", "minmin", "m i n", "+min", "-min", "\"min\"", "min\x00", "\x00min", "\x00", "\x00\x00\x00", "\xff", "\xef\xbb\xbfmin",
		"0", "1", "2", "3", "4", "5", "6", "7", "8", "-1", "01",
		"block", "avg", "none", "kind", "len", "sums", "mini", "maxi", "counts", "firsts", "lasts", "ranges", "minimum", "maximum", "su", "coun", "rang",
		"mus", "nim", "xam", "tnuoc", "tsrif", "tsal", "egnar", "SUMMINMAXCOUNTFIRSTLASTRANGE", strings.Repeat("min", 1000), strings.Repeat(" ", 1000),
	} {
		checkParse(t, s, 0)
		checkParse(t, strings.ToUpper(s), 0)
	}
}

func TestNamesAreParsed(t *testing.T) {
	for kind := -3; kind < 11; kind++ {
		want := kind
		if !agg.Right(kind) {
			want = 0
		}
		checkParse(t, agg.Name(kind), want)
	}
}

// P6.3

// given by no New
func statesThatAreNone() []*agg.State {
	var zero agg.State
	return []*agg.State{nil, {}, new(agg.State), &zero}
}

func TestStatesThatAreNone(t *testing.T) {
	for i, s := range statesThatAreNone() {
		for range 2 { // and it stays one
			for _, v := range []int{0, 1, -1, top, bottom} {
				if e := s.Add(v); e != api.ErrNil {
					t.Errorf("%d: Add(%d): %d", i, v, e)
				}
			}
			if v, ok := s.Value(); v != 0 || ok {
				t.Errorf("%d: Value: %d, %v", i, v, ok)
			}
			if s.Len() != 0 {
				t.Errorf("%d: Len: %d", i, s.Len())
			}
			if s.Copy() != nil {
				t.Errorf("%d: Copy: %v", i, s.Copy())
			}
		}
	}
}

func TestNewOfEachKind(t *testing.T) {
	for kind := agg.Sum; kind <= agg.Range; kind++ {
		check(t, empty(t, kind), kind, nil)
	}
}

func TestNewOfNoKind(t *testing.T) {
	for _, kind := range none() {
		if s, e := agg.New(kind); s != nil || e != api.ErrArg {
			t.Errorf("%d: %v, %d", kind, s, e)
		}
	}
}

func TestStatesOfNewStayApart(t *testing.T) {
	for kind := agg.Sum; kind <= agg.Range; kind++ {
		a, b := empty(t, kind), empty(t, kind)
		addAll(t, a, []int{3, 8})
		check(t, b, kind, nil)
		addAll(t, b, []int{-5})
		check(t, a, kind, []int{3, 8})
		check(t, b, kind, []int{-5})
	}
}

func TestValueOfEachKind(t *testing.T) {
	for _, c := range []struct {
		l    []int
		want []int // sum, min, max, count, first, last, range
	}{
		{[]int{0}, []int{0, 0, 0, 1, 0, 0, 0}},
		{[]int{5}, []int{5, 5, 5, 1, 5, 5, 0}},
		{[]int{-5}, []int{-5, -5, -5, 1, -5, -5, 0}},
		{[]int{2, 2}, []int{4, 2, 2, 2, 2, 2, 0}},
		{[]int{3, -5, 4, 1}, []int{3, -5, 4, 4, 3, 1, 9}},
		{[]int{7, 9, 8}, []int{24, 7, 9, 3, 7, 8, 2}},
		{[]int{-7, -9, -8}, []int{-24, -9, -7, 3, -7, -8, 2}},
		{[]int{0, 0, 0, 0, 0}, []int{0, 0, 0, 5, 0, 0, 0}},
		{[]int{top}, []int{top, top, top, 1, top, top, 0}}, // the first number an end itself
		{[]int{bottom}, []int{bottom, bottom, bottom, 1, bottom, bottom, 0}},
		{[]int{top, 1}, []int{top, 1, top, 2, top, 1, top - 1}},
		{[]int{top, 1, -1}, []int{top - 1, -1, top, 3, top, -1, top}}, // it comes back from the end
		{[]int{1, top, 1, -10}, []int{top - 10, -10, top, 4, 1, -10, top}},
		{[]int{top, top, bottom}, []int{-1, bottom, top, 3, top, bottom, top}},
		{[]int{bottom, -1}, []int{bottom, bottom, -1, 2, bottom, -1, top}},
		{[]int{bottom, -1, 1}, []int{bottom + 1, bottom, 1, 3, bottom, 1, top}},
		{[]int{-1, bottom, -1, 10}, []int{bottom + 10, bottom, 10, 4, -1, 10, top}},
		{[]int{bottom, bottom, top}, []int{-1, bottom, top, 3, bottom, top, top}},
		{[]int{top, bottom, top, top, 5}, []int{top, bottom, top, 5, top, 5, top}},
		{[]int{0, top}, []int{top, 0, top, 2, 0, top, top}}, // a range of the end itself, and beyond it
		{[]int{-1, top}, []int{top - 1, -1, top, 2, -1, top, top}},
		{[]int{1, top}, []int{top, 1, top, 2, 1, top, top - 1}},
		{[]int{bottom, 0}, []int{bottom, bottom, 0, 2, bottom, 0, top}},
		{[]int{bottom, -2}, []int{bottom, bottom, -2, 2, bottom, -2, top - 1}},
		{[]int{bottom, top}, []int{-1, bottom, top, 2, bottom, top, top}},
		{[]int{top, bottom}, []int{-1, bottom, top, 2, top, bottom, top}},
		{[]int{bottom, bottom}, []int{bottom, bottom, bottom, 2, bottom, bottom, 0}},
		{[]int{top, top}, []int{top, top, top, 2, top, top, 0}},
	} {
		for i, want := range c.want {
			s := empty(t, i+1)
			addAll(t, s, c.l)
			if v, ok := s.Value(); v != want || !ok {
				t.Errorf("%s of %v: %d, %v; want %d", given()[i+1], c.l, v, ok, want)
			}
			if v, ok := agg.Fold(i+1, samples(c.l)); v != want || !ok {
				t.Errorf("Fold, %s of %v: %d, %v; want %d", given()[i+1], c.l, v, ok, want)
			}
		}
	}
}

func TestValueAndLenBehindEachAdd(t *testing.T) {
	for kind := agg.Sum; kind <= agg.Range; kind++ {
		for _, l := range lists() {
			s := empty(t, kind)
			check(t, s, kind, nil)
			for i, v := range l {
				addAll(t, s, []int{v})
				check(t, s, kind, l[:i+1])
				check(t, s, kind, l[:i+1]) // telling changes nothing
			}
		}
	}
}

func TestManyNumbers(t *testing.T) {
	l := numbers(100000, 7)
	for kind := agg.Sum; kind <= agg.Range; kind++ {
		s := empty(t, kind)
		addAll(t, s, l)
		check(t, s, kind, l)
	}
}

func TestCopy(t *testing.T) {
	for kind := agg.Sum; kind <= agg.Range; kind++ {
		for _, l := range [][]int{nil, {4}, {4, -9, 2}, {top, top}, {bottom, bottom}, numbers(50, 3)} {
			s := empty(t, kind)
			addAll(t, s, l)
			c := s.Copy()
			if c == nil || c == s {
				t.Fatalf("%p, and its copy %p", s, c)
			}
			check(t, c, kind, l)

			more, other := append(slices.Clone(l), -100, 6), append(slices.Clone(l), 1<<50, 77, 3)
			addAll(t, c, more[len(l):])
			check(t, s, kind, l)
			check(t, c, kind, more)
			addAll(t, s, other[len(l):])
			check(t, s, kind, other)
			check(t, c, kind, more)
			check(t, c.Copy(), kind, more)
		}
	}
}

func TestCopiedAsValuesTheyStayApart(t *testing.T) {
	for kind := agg.Sum; kind <= agg.Range; kind++ {
		s := empty(t, kind)
		addAll(t, s, []int{4, 1})
		c := *s
		addAll(t, &c, []int{-20, 9})
		check(t, s, kind, []int{4, 1})
		addAll(t, s, []int{30})
		check(t, &c, kind, []int{4, 1, -20, 9})
		check(t, s, kind, []int{4, 1, 30})
	}
}

// P6.4

func TestFold(t *testing.T) {
	for kind := agg.Sum; kind <= agg.Range; kind++ {
		for _, l := range lists() {
			want, wanted := value(kind, l)
			if v, ok := agg.Fold(kind, samples(l)); v != want || ok != wanted {
				t.Fatalf("%s of %v: %d, %v; want %d, %v", given()[kind], l, v, ok, want, wanted)
			}
		}
	}
}

func TestFoldOfNoSamples(t *testing.T) {
	for kind := -1; kind < 10; kind++ {
		for _, l := range [][]api.Sample{nil, {}, make([]api.Sample, 0, 5)} {
			if v, ok := agg.Fold(kind, l); v != 0 || ok {
				t.Errorf("%d: %d, %v", kind, v, ok)
			}
		}
	}
}

func TestFoldOfNoKind(t *testing.T) {
	for _, kind := range none() {
		for _, l := range [][]int{{0}, {3}, {3, 4}, {top, bottom}} {
			if v, ok := agg.Fold(kind, samples(l)); v != 0 || ok {
				t.Errorf("%d of %v: %d, %v", kind, l, v, ok)
			}
		}
	}
}

func TestFoldTakesNoHeedOfTimes(t *testing.T) {
	l := []api.Sample{{T: 9, V: 1}, {T: -5, V: 7}, {T: top, V: 3}, {T: bottom, V: -4}, {T: 9, V: 2}}
	for kind := agg.Sum; kind <= agg.Range; kind++ {
		want, _ := value(kind, []int{1, 7, 3, -4, 2})
		if v, ok := agg.Fold(kind, l); v != want || !ok {
			t.Errorf("%s: %d, %v; want %d", given()[kind], v, ok, want)
		}
	}
}

// P6.5

func TestPartsMakeWhatTheWholeMakes(t *testing.T) {
	for kind := agg.Sum; kind <= agg.Range; kind++ {
		for _, l := range lists() {
			whole, there := agg.Fold(kind, samples(l))
			for cut := 0; cut <= len(l); cut += 1 + len(l)/10 {
				s := empty(t, kind)
				addAll(t, s, l[:cut])
				s = s.Copy()
				addAll(t, s, l[cut:])
				if v, ok := s.Value(); v != whole || ok != there {
					t.Fatalf("%s of %v and %v: %d, %v; want %d, %v", given()[kind], l[:cut], l[cut:], v, ok, whole, there)
				}
			}
		}
	}
}

func TestAnswersStayTheSame(t *testing.T) {
	l := []api.Sample{{T: 1, V: 5}, {T: 9, V: 7}, {T: 35, V: top}, {T: 31, V: 3}, {T: 8, V: bottom}}
	tell := func() string {
		var b strings.Builder
		for kind := -1; kind < 10; kind++ {
			v, ok := agg.Fold(kind, l)
			n, e := agg.Parse(agg.Name(kind))
			fmt.Fprintln(&b, agg.Right(kind), agg.Name(kind), n, e, v, ok)
			fmt.Fprintln(&b, agg.Buckets(kind, 10, 3, l), agg.Start(25, 10, kind), agg.End(25, 10, kind))
		}
		return b.String()
	}
	first := tell()
	for range 20 {
		if again := tell(); again != first {
			t.Fatalf("%s\nand ahead of that\n%s", again, first)
		}
	}
}
