package delta_test

import (
	"fmt"
	"math"
	"slices"
	"strings"
	"testing"

	"tachograph/api"
	"tachograph/bits"
	"tachograph/delta"
)

const most = math.MaxUint64

// numbers is a row of numbers that look like chance, always the same.
func numbers(many int) []uint64 {
	l := make([]uint64, many)
	x := uint64(88172645463325252)
	for i := range l {
		x ^= x << 13
		x ^= x >> 7
		x ^= x << 17
		l[i] = x
	}
	return l
}

// codeText is a number's code as text, as the chapter's words tell it.
func codeText(u uint64) string {
	switch {
	case u == 0:
		return "0"
	case u <= 127:
		return "10" + fmt.Sprintf("%07b", u)
	case u <= 4095:
		return "110" + fmt.Sprintf("%012b", u)
	case u <= 1<<24-1:
		return "1110" + fmt.Sprintf("%024b", u)
	}
	return "1111" + fmt.Sprintf("%064b", u)
}

// zig is what bits.Zig tells, by a way of its own.
func zig(n int) uint64 {
	if n < 0 {
		return -(2 * uint64(n)) - 1
	}
	return 2 * uint64(n)
}

// samplesText is samples' bits as text, as the chapter's words tell them.
func samplesText(l []api.Sample) string {
	var b strings.Builder
	step := func(i int) int {
		if i == 0 {
			return 0
		}
		return l[i].T - l[i-1].T
	}
	for i, s := range l {
		if i == 0 {
			fmt.Fprintf(&b, "%064b%064b", uint64(s.T), uint64(s.V))
			continue
		}
		b.WriteString(codeText(zig(step(i) - step(i-1))))
		b.WriteString(codeText(zig(s.V - l[i-1].V)))
	}
	return b.String()
}

// packed is bits that stand as text, as bytes.
func packed(text string) string {
	l := make([]byte, (len(text)+7)/8)
	for i := range len(text) {
		l[i/8] |= (text[i] - '0') << (7 - i%8)
	}
	return string(l)
}

// unpacked is bytes as text of bits.
func unpacked(s string) string {
	var b strings.Builder
	for i := range len(s) {
		fmt.Fprintf(&b, "%08b", s[i])
	}
	return b.String()
}

// readText is a reader of bits that stand as text, behind the first at of them.
func readText(t *testing.T, text string, at int) *bits.Reader {
	t.Helper()
	r, e := bits.Read(packed(text), len(text))
	if e != api.OK {
		t.Fatalf("Read(%q): %d", text, e)
	}
	if e := r.Seek(at); e != api.OK {
		t.Fatalf("Seek(%d): %d", at, e)
	}
	return r
}

// edges is the numbers at which codes change, and those beside them.
func edges() []uint64 {
	l := []uint64{most, most - 1, 1 << 63, 1<<63 - 1}
	for _, u := range []uint64{0, 1 << 7, 1 << 12, 1 << 24, 1 << 32} {
		if u > 0 {
			l = append(l, u-1)
		}
		l = append(l, u, u+1)
	}
	return l
}

// manyNumbers is the edges, each power of two and its neighbours, and numbers of every width.
func manyNumbers() []uint64 {
	l := edges()
	for i := range 64 {
		l = append(l, 1<<i, 1<<i-1, 1<<i+1)
	}
	for i, u := range numbers(640) {
		l = append(l, u>>(i%64))
	}
	return l
}

// P2.1

func TestSizeAtTheEdges(t *testing.T) {
	for _, c := range []struct {
		u    uint64
		many int
	}{
		{0, 1}, {1, 9}, {2, 9}, {126, 9}, {127, 9}, {128, 15}, {129, 15}, {4094, 15}, {4095, 15},
		{4096, 28}, {4097, 28}, {1<<24 - 2, 28}, {1<<24 - 1, 28},
		{1 << 24, 68}, {1<<24 + 1, 68}, {1 << 32, 68}, {1<<63 - 1, 68}, {1 << 63, 68}, {most - 1, 68}, {most, 68},
	} {
		if many := delta.Size(c.u); many != c.many {
			t.Errorf("Size(%d): %d, want %d", c.u, many, c.many)
		}
	}
}

func TestPutAtTheEdges(t *testing.T) {
	noughts, ones := strings.Repeat("0", 64), strings.Repeat("1", 64)
	for _, c := range []struct {
		u    uint64
		text string
	}{
		{0, "0"},
		{1, "10" + "0000001"},
		{5, "10" + "0000101"},
		{127, "10" + "1111111"},
		{128, "110" + "000010000000"},
		{4095, "110" + "111111111111"},
		{4096, "1110" + "000000000001000000000000"},
		{1<<24 - 1, "1110" + ones[:24]},
		{1 << 24, "1111" + noughts[:39] + "1" + noughts[:24]},
		{most, "1111" + ones},
	} {
		var w bits.Writer
		if e := delta.Put(&w, c.u); e != api.OK || w.Len() != len(c.text) || w.Bytes() != packed(c.text) {
			t.Errorf("Put(%d): %d, %d bits %q; want %s", c.u, e, w.Len(), w.Bytes(), c.text)
		}
	}
}

func TestPutAndGetOfManyNumbers(t *testing.T) {
	for _, u := range manyNumbers() {
		text := codeText(u)
		if delta.Size(u) != len(text) {
			t.Errorf("Size(%d): %d, want %d", u, delta.Size(u), len(text))
		}
		var w bits.Writer
		w.Put(5, 3)
		if e := delta.Put(&w, u); e != api.OK || w.Len() != 3+len(text) || w.Bytes() != packed("101"+text) {
			t.Errorf("Put(%d): %d, %d bits %q; want 101 %s", u, e, w.Len(), w.Bytes(), text)
		}
		r := readText(t, "101"+text+"01", 3)
		if got, e := delta.Get(r); got != u || e != api.OK || r.Left() != 2 {
			t.Errorf("Get of %s: %d, %d, Left %d; want %d", text, got, e, r.Left(), u)
		}
	}
}

func TestPutOneBehindAnother(t *testing.T) {
	var w bits.Writer
	text := ""
	for _, u := range manyNumbers() {
		if e := delta.Put(&w, u); e != api.OK {
			t.Fatal(u, e)
		}
		text += codeText(u)
	}
	if w.Len() != len(text) || w.Bytes() != packed(text) {
		t.Fatal("other bits than the codes")
	}
	r := readText(t, text, 0)
	for _, u := range manyNumbers() {
		if got, e := delta.Get(r); got != u || e != api.OK {
			t.Fatalf("%d, %d; want %d", got, e, u)
		}
	}
	if got, e := delta.Get(r); got != 0 || e != api.ErrShort || r.Left() != 0 {
		t.Errorf("behind the end: %d, %d, Left %d", got, e, r.Left())
	}
}

func TestPutToNoWriter(t *testing.T) {
	for _, u := range edges() {
		if e := delta.Put(nil, u); e != api.ErrNil {
			t.Errorf("Put(nil, %d): %d", u, e)
		}
	}
}

func TestGetOfNoReader(t *testing.T) {
	for i, r := range []*bits.Reader{nil, {}} {
		if u, e := delta.Get(r); u != 0 || e != api.ErrNil {
			t.Errorf("%d: %d, %d", i, u, e)
		}
	}
}

func TestGetOfCutCodes(t *testing.T) {
	for _, ahead := range []string{"", "1", "0110100", "10000001", strings.Repeat("1", 100)} {
		for _, u := range edges() {
			text := codeText(u)
			for cut := range len(text) {
				r := readText(t, ahead+text[:cut], len(ahead))
				for range 2 { // a second time: the reader stands where it stood
					if got, e := delta.Get(r); got != 0 || e != api.ErrShort || r.Left() != cut {
						t.Fatalf("%d, cut at %d, behind %d bits: %d, %d, Left %d", u, cut, len(ahead), got, e, r.Left())
					}
				}
				seen := min(cut, 64)
				if got, e := r.Get(seen); e != api.OK || seen > 0 && fmt.Sprintf("%0*b", seen, got) != text[:seen] {
					t.Fatalf("%d, cut at %d: stands elsewhere: %b, %d", u, cut, got, e)
				}
			}
		}
	}
}

func TestGetSeesBitsNotBytes(t *testing.T) {
	r, e := bits.Read("\x82\x80\xff", 8) // a byte more would end the code
	if e != api.OK {
		t.Fatal(e)
	}
	if u, e := delta.Get(r); u != 0 || e != api.ErrShort || r.Left() != 8 {
		t.Error(u, e, r.Left())
	}
}

// longTexts is a number in codes that are longer than it needs.
func longTexts(u uint64) []string {
	var l []string
	for _, c := range []struct {
		prefix string
		width  int
		from   uint64 // the least number that needs it
	}{{"10", 7, 1}, {"110", 12, 1 << 7}, {"1110", 24, 1 << 12}, {"1111", 64, 1 << 24}} {
		if u < c.from {
			l = append(l, c.prefix+fmt.Sprintf("%0*b", c.width, u))
		}
	}
	return l
}

func TestGetOfLongCodes(t *testing.T) {
	for _, ahead := range []string{"", "1", "0110100", strings.Repeat("1", 100)} {
		for _, u := range manyNumbers() {
			for _, text := range longTexts(u) {
				for _, behind := range []string{"", "1", "00000000"} {
					r := readText(t, ahead+text+behind, len(ahead))
					left := r.Left()
					for range 2 {
						if got, e := delta.Get(r); got != 0 || e != api.ErrForm || r.Left() != left {
							t.Fatalf("%s: %d, %d, Left %d of %d", text, got, e, r.Left(), left)
						}
					}
				}
				r := readText(t, ahead+text[:len(text)-1], len(ahead))
				if got, e := delta.Get(r); got != 0 || e != api.ErrShort || r.Left() != len(text)-1 {
					t.Fatalf("%s, too short as well: %d, %d, Left %d", text, got, e, r.Left())
				}
			}
		}
	}
}

// P2.2

// row is samples of a step and a value.
func row(many, from, step, v int) []api.Sample {
	l := make([]api.Sample, many)
	for i := range l {
		l[i] = api.Sample{T: from + i*step, V: v}
	}
	return l
}

// chance is samples that look like chance, with differences of every width.
func chance(many int) []api.Sample {
	l := make([]api.Sample, many)
	u := numbers(4 * many)
	var s api.Sample
	for i := range l {
		s.T += int(u[4*i]) >> (u[4*i+1] % 64)
		s.V += int(u[4*i+2]) >> (u[4*i+3] % 64)
		l[i] = s
	}
	return l
}

// manyRows is rows of samples: ordinary ones, and those at the edges.
func manyRows() [][]api.Sample {
	const lowest, highest = math.MinInt, math.MaxInt
	l := [][]api.Sample{
		nil,
		{},
		{{T: 0, V: 0}},
		{{T: 10, V: 7}},
		{{T: api.MaxTime - 1, V: -1}},
		{{T: lowest, V: highest}},
		{{T: 10, V: 7}, {T: 20, V: 7}},
		{{T: 10, V: 7}, {T: 20, V: 7}, {T: 30, V: 7}},
		{{T: 0, V: 0}, {T: 0, V: 0}, {T: 0, V: 0}},
		{{T: 30, V: 1}, {T: 20, V: 2}, {T: 25, V: -3}},
		{{T: 0, V: lowest}, {T: 1, V: highest}, {T: 2, V: lowest}},
		{{T: 0, V: 0}, {T: 1, V: lowest}, {T: 2, V: 0}, {T: 3, V: highest}},
		{{T: lowest, V: 0}, {T: highest, V: 0}, {T: lowest, V: 0}, {T: 0, V: 0}},
		{{T: 0, V: 0}, {T: highest, V: 0}, {T: lowest, V: 0}, {T: highest, V: 0}, {T: lowest, V: 0}},
		{{T: highest, V: highest}, {T: lowest, V: lowest}, {T: -1, V: -1}},
		row(100, 0, 10, 5), row(100, 7, 0, 5), row(100, 5000, -3, lowest), row(50, lowest, highest, 0),
		chance(2), chance(3), chance(500),
	}
	for _, u := range edges() { // each size of a code, as a step's difference and as a value's
		d := bits.Zag(u)
		l = append(l,
			[]api.Sample{{T: 5, V: 5}, {T: 5 + d, V: 5}},
			[]api.Sample{{T: 5, V: 5}, {T: 5, V: 5 + d}},
			[]api.Sample{{T: 5, V: 5}, {T: 15, V: 5}, {T: 25 + d, V: 5}})
	}
	return l
}

// name is a row as it is told of.
func name(l []api.Sample) string {
	return fmt.Sprintf("%d samples %v", len(l), l[:min(5, len(l))])
}

func TestEncodeExample(t *testing.T) {
	s, many := delta.Encode([]api.Sample{{T: 10, V: 7}, {T: 20, V: 7}, {T: 30, V: 7}})
	want := "\x00\x00\x00\x00\x00\x00\x00\x0a" + "\x00\x00\x00\x00\x00\x00\x00\x07" + "\x8a\x00" // 10 0010100, 0; 0, 0
	if many != 128+10+2 || s != want {
		t.Errorf("%d bits %q, want %q", many, s, want)
	}
}

func TestEncodeOfNoSamples(t *testing.T) {
	for _, l := range [][]api.Sample{nil, {}, make([]api.Sample, 0, 5)} {
		if s, many := delta.Encode(l); s != "" || many != 0 || delta.Bits(l) != 0 {
			t.Errorf("%q, %d, Bits %d", s, many, delta.Bits(l))
		}
	}
}

func TestEncodeAndBits(t *testing.T) {
	for _, l := range manyRows() {
		text := samplesText(l)
		was := slices.Clone(l)
		s, many := delta.Encode(l)
		if many != len(text) || s != packed(text) {
			t.Errorf("%s: %d bits %q; want %d, %q", name(l), many, s, len(text), packed(text))
		}
		if delta.Bits(l) != len(text) {
			t.Errorf("%s: Bits %d, want %d", name(l), delta.Bits(l), len(text))
		}
		if !slices.Equal(l, was) {
			t.Errorf("%s: changed", name(was))
		}
	}
}

func TestDifferencesWrap(t *testing.T) {
	for _, c := range []struct {
		l    []api.Sample
		many int
	}{
		{[]api.Sample{{T: 0, V: math.MaxInt}, {T: 0, V: math.MinInt}}, 128 + 1 + 9},           // 1 more
		{[]api.Sample{{T: 0, V: math.MinInt}, {T: 0, V: math.MaxInt}}, 128 + 1 + 9},           // 1 less
		{[]api.Sample{{T: math.MaxInt, V: 0}, {T: math.MinInt, V: 0}}, 128 + 9 + 1},           // a step of 1
		{[]api.Sample{{T: 0, V: 0}, {T: math.MinInt, V: 0}, {T: 0, V: 0}}, 128 + 69 + 2},      // both steps are the least number
		{[]api.Sample{{T: 0, V: 0}, {T: math.MaxInt, V: 0}, {T: -1, V: 0}}, 128 + 69 + 9 + 1}, // the second one is the least number
	} {
		if _, many := delta.Encode(c.l); many != c.many || delta.Bits(c.l) != c.many {
			t.Errorf("%v: %d bits, Bits %d; want %d", c.l, many, delta.Bits(c.l), c.many)
		}
	}
}

// P2.3

// checkDecode holds what Decode answers against what it must.
func checkDecode(t *testing.T, text string, samples int, want []api.Sample, wanted api.Errno) {
	t.Helper()
	l, e := delta.Decode(packed(text), len(text), samples)
	if e != wanted || !slices.Equal(l, want) || e != api.OK && l != nil {
		t.Fatalf("%d bits, %d samples: %s, %d; want %s, %d", len(text), samples, name(l), e, name(want), wanted)
	}
}

func TestDecode(t *testing.T) {
	for _, l := range manyRows() {
		checkDecode(t, samplesText(l), len(l), l, api.OK)
	}
}

func TestDecodeRefusesSamples(t *testing.T) {
	text := samplesText(row(3, 10, 10, 7))
	for _, samples := range []int{-1, -3, 100001, 100002, math.MinInt, math.MaxInt} {
		checkDecode(t, text, samples, nil, api.ErrArg)
		checkDecode(t, "", samples, nil, api.ErrArg)
		if l, e := delta.Decode("", 1, samples); l != nil || e != api.ErrArg {
			t.Errorf("%d, no bits to read as well: %v, %d", samples, l, e)
		}
	}
}

func TestDecodeRefusesBits(t *testing.T) {
	s, many := delta.Encode(row(3, 10, 10, 7))
	for _, samples := range []int{0, 1, 3, 100000} {
		for _, wrong := range []int{-1, -many, 8*len(s) + 1, 8*len(s) + 8, math.MinInt, math.MaxInt} {
			if l, e := delta.Decode(s, wrong, samples); l != nil || e != api.ErrArg {
				t.Errorf("%d bits, %d samples: %v, %d", wrong, samples, l, e)
			}
		}
		if l, e := delta.Decode("", 1, samples); l != nil || e != api.ErrArg {
			t.Errorf("a bit of nothing, %d samples: %v, %d", samples, l, e)
		}
	}
}

func TestDecodeOfNoSamples(t *testing.T) {
	checkDecode(t, "", 0, nil, api.OK)
	if l, e := delta.Decode("\xff", 0, 0); len(l) != 0 || e != api.OK {
		t.Errorf("%v, %d", l, e)
	}
	for _, text := range []string{"0", "1", "00000000", samplesText(row(2, 1, 1, 1))} {
		checkDecode(t, text, 0, nil, api.ErrForm)
	}
	for _, samples := range []int{1, 2, 100000} {
		checkDecode(t, "", samples, nil, api.ErrShort)
	}
}

func TestDecodeOfOtherMany(t *testing.T) {
	for _, l := range manyRows() {
		text := samplesText(l)
		checkDecode(t, text, len(l)+1, nil, api.ErrShort)
		checkDecode(t, text, 100000, nil, api.ErrShort)
		if len(l) > 0 {
			checkDecode(t, text, len(l)-1, nil, api.ErrForm)
			checkDecode(t, text, 0, nil, api.ErrForm)
		}
	}
}

func TestDecodeOfBitsLeft(t *testing.T) {
	for _, l := range manyRows() {
		text := samplesText(l)
		for _, behind := range []string{"0", "1", "00", "00000000", "1111"} {
			checkDecode(t, text+behind, len(l), nil, api.ErrForm)
		}
	}
}

func TestDecodeOfCutBits(t *testing.T) {
	for _, l := range manyRows() {
		text := samplesText(l)
		for cut := max(0, len(text)-300); cut < len(text); cut++ {
			checkDecode(t, text[:cut], len(l), nil, api.ErrShort)
		}
	}
}

func TestDecodeTakesNoHeedBehindTheBits(t *testing.T) {
	for _, l := range manyRows() {
		text := samplesText(l)
		s := packed(text + strings.Repeat("1", 20))
		if got, e := delta.Decode(s, len(text), len(l)); e != api.OK || !slices.Equal(got, l) {
			t.Errorf("%s: %s, %d", name(l), name(got), e)
		}
	}
}

func TestDecodeOfLongCodes(t *testing.T) {
	first := samplesText(row(1, 10, 0, 7))
	for _, u := range edges() {
		for _, long := range longTexts(u) {
			checkDecode(t, first+long+"0", 2, nil, api.ErrForm)
			checkDecode(t, first+"0"+long, 2, nil, api.ErrForm)
			checkDecode(t, first+long, 2, nil, api.ErrForm) // ahead of the bits that are missing
			checkDecode(t, first+"00"+long+"0", 3, nil, api.ErrForm)
			checkDecode(t, first+"0"+long[:len(long)-1], 2, nil, api.ErrShort)
		}
	}
}

func TestDecodeOfMost(t *testing.T) {
	l := row(100000, 3, 10, -4)
	text := samplesText(l)
	checkDecode(t, text, 100000, l, api.OK)
	checkDecode(t, text, 99999, nil, api.ErrForm)
	checkDecode(t, text, 100001, nil, api.ErrArg)
	checkDecode(t, text+"00", 100001, nil, api.ErrArg)
	checkDecode(t, text+"00", 100000, nil, api.ErrForm)
	checkDecode(t, text[:len(text)-1], 100000, nil, api.ErrShort)
}

func TestDecodedListsStayApart(t *testing.T) {
	s, many := delta.Encode(row(3, 10, 10, 7))
	a, _ := delta.Decode(s, many, 3)
	b, _ := delta.Decode(s, many, 3)
	clear(a[:cap(a)])
	if !slices.Equal(b, row(3, 10, 10, 7)) {
		t.Error(b)
	}
}

// P2.4

func TestWhatIsEncodedIsDecoded(t *testing.T) {
	l := append(manyRows(), chance(5000), row(5000, 1, 60, 9))
	for _, l := range l {
		s, many := delta.Encode(l)
		if got, e := delta.Decode(s, many, len(l)); e != api.OK || !slices.Equal(got, l) {
			t.Errorf("%s: %s, %d", name(l), name(got), e)
		}
	}
}

// chanceText is bits that often begin with whole samples: prefixes and numbers that look like chance.
func chanceText(samples int, u []uint64) string {
	var b strings.Builder
	fmt.Fprintf(&b, "%064b%064b", u[0], u[1])
	for i := range 2 * (samples - 1) {
		kind, n := u[2+2*i]%5, u[3+2*i]
		width := []int{0, 7, 12, 24, 64}[kind]
		b.WriteString([]string{"0", "10", "110", "1110", "1111"}[kind])
		b.WriteString(fmt.Sprintf("%064b", n)[:width])
	}
	return b.String()
}

func TestBitsThatAreDecodedAreTheSamples(t *testing.T) {
	u := numbers(40000)
	decoded := 0
	for i := range 3000 {
		samples := 1 + i%4
		text := chanceText(samples, u[10*i:])
		l, e := delta.Decode(packed(text), len(text), samples)
		if e == api.ErrForm {
			continue
		}
		if e != api.OK {
			t.Fatalf("%s: %d", text, e)
		}
		decoded++
		if s, many := delta.Encode(l); many != len(text) || unpacked(s)[:many] != text {
			t.Fatalf("%s: as %v other bits: %s", text, l, unpacked(s)[:many])
		}
	}
	if decoded < 1000 {
		t.Error("too few were decoded:", decoded)
	}
}

func TestTwoBitsEach(t *testing.T) {
	for _, c := range []struct{ step, v int }{{10, 7}, {0, 0}, {1, -1}, {-5, math.MinInt}, {math.MaxInt, math.MaxInt}, {math.MinInt, 3}} {
		two := delta.Bits(row(2, 100, c.step, c.v))
		for _, many := range []int{2, 3, 4, 100, 5000} {
			want := two + 2*(many-2)
			l := row(many, 100, c.step, c.v)
			if _, n := delta.Encode(l); n != want || delta.Bits(l) != want {
				t.Errorf("%d of step %d: %d bits, Bits %d; want %d", many, c.step, n, delta.Bits(l), want)
			}
		}
	}
}
