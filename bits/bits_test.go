package bits_test

import (
	"math"
	"strings"
	"testing"

	"tachograph/api"
	"tachograph/bits"
)

const most = math.MaxUint64

// numbers is a row of numbers that look like chance, always the same.
func numbers(many int) []uint64 {
	l := make([]uint64, many)
	x := uint64(88172645463325252)
	for i := range l {
		x ^= x << 13
		x ^= x >> 7
		x ^= x << 17
		l[i] = x
	}
	return l
}

// cut is the last many bits of a number.
func cut(u uint64, many int) uint64 {
	return u & (1<<many - 1)
}

// digits is a number's bits as text, by a way of its own.
func digits(u uint64, many int) string {
	l := make([]byte, many)
	for i := many - 1; i >= 0; i-- {
		l[i] = '0' + byte(u%2)
		u /= 2
	}
	return string(l)
}

// packed is bits that stand as text, as bytes.
func packed(text string) string {
	var l []byte
	for len(text) > 0 {
		eight := (text + "0000000")[:8]
		text = text[min(8, len(text)):]
		b := 0
		for _, c := range eight {
			b = 2*b + int(c-'0')
		}
		l = append(l, byte(b))
	}
	return string(l)
}

// unpacked is bytes as text of bits.
func unpacked(s string) string {
	var b strings.Builder
	for i := range len(s) {
		b.WriteString(digits(uint64(s[i]), 8))
	}
	return b.String()
}

// mustRead is a reader, or the end of the test.
func mustRead(t *testing.T, s string, many int) *bits.Reader {
	t.Helper()
	r, e := bits.Read(s, many)
	if e != api.OK || r == nil {
		t.Fatalf("Read(%q, %d): %v, %d", s, many, r, e)
	}
	return r
}

// checkWriter holds a writer against the bits that it must have.
func checkWriter(t *testing.T, w *bits.Writer, text string) {
	t.Helper()
	if w.Len() != len(text) || w.Bytes() != packed(text) {
		t.Fatalf("Len %d, Bytes %q; want %d, %q", w.Len(), w.Bytes(), len(text), packed(text))
	}
}

// P1.1

func TestZigZag(t *testing.T) {
	for _, c := range []struct {
		n int
		u uint64
	}{
		{0, 0}, {-1, 1}, {1, 2}, {-2, 3}, {2, 4}, {-3, 5}, {100, 200}, {-100, 199},
		{1 << 32, 1 << 33}, {-1 << 32, 1<<33 - 1},
		{1 << 62, 1 << 63}, {-1 << 62, 1<<63 - 1}, {-1<<62 - 1, 1<<63 + 1},
		{math.MaxInt - 1, most - 3}, {math.MinInt + 1, most - 2},
		{math.MaxInt, most - 1}, {math.MinInt, most},
	} {
		if u := bits.Zig(c.n); u != c.u {
			t.Errorf("Zig(%d): %d, want %d", c.n, u, c.u)
		}
		if n := bits.Zag(c.u); n != c.n {
			t.Errorf("Zag(%d): %d, want %d", c.u, n, c.n)
		}
	}
}

func TestZigZagOfManyNumbers(t *testing.T) {
	for _, u := range numbers(1000) {
		if bits.Zig(bits.Zag(u)) != u {
			t.Errorf("Zig(Zag(%d)): %d", u, bits.Zig(bits.Zag(u)))
		}
		n := int(u)
		want := 2 * u
		if n < 0 {
			want = -(2 * u) - 1
		}
		if bits.Zig(n) != want || bits.Zag(want) != n {
			t.Errorf("%d: Zig %d, want %d; Zag %d", n, bits.Zig(n), want, bits.Zag(want))
		}
	}
}

// P1.2

func TestZeroWriterHasNoBits(t *testing.T) {
	var w bits.Writer
	checkWriter(t, &w, "")
	if w.Put(0, 0) != api.OK {
		t.Error("Put(0, 0)")
	}
	checkWriter(t, &w, "")
}

func TestPutExample(t *testing.T) {
	var w bits.Writer
	if w.Put(5, 3) != api.OK || w.Put(1, 2) != api.OK {
		t.Fatal("Put")
	}
	if w.Len() != 5 || w.Bytes() != "\xa8" {
		t.Errorf("%d %q", w.Len(), w.Bytes())
	}
}

func TestPutRefuses(t *testing.T) {
	var w bits.Writer
	w.Put(5, 3)
	for _, many := range []int{-1, -64, 65, 66, 128, math.MinInt, math.MaxInt} {
		for _, u := range []uint64{0, 1, most} {
			if e := w.Put(u, many); e != api.ErrArg {
				t.Errorf("Put(%d, %d): %d", u, many, e)
			}
		}
	}
	for many := range 64 {
		for _, u := range []uint64{1 << many, 1<<many + 1, most} {
			if e := w.Put(u, many); e != api.ErrArg {
				t.Errorf("Put(%d, %d): %d", u, many, e)
			}
		}
	}
	checkWriter(t, &w, "101")
}

func TestPutTakesJustBelow(t *testing.T) {
	var w bits.Writer
	text := ""
	for many := range 65 {
		u := uint64(1)<<many - 1 // at 64 all ones: the shift falls to 0
		if e := w.Put(u, many); e != api.OK {
			t.Fatalf("Put(%d, %d): %d", u, many, e)
		}
		text += digits(u, many)
		if e := w.Put(0, many); e != api.OK {
			t.Fatalf("Put(0, %d): %d", many, e)
		}
		text += digits(0, many)
		checkWriter(t, &w, text)
	}
}

func TestBytesOfEachLength(t *testing.T) {
	var w bits.Writer
	text := ""
	for i, u := range numbers(300) {
		bit := cut(u, 1)
		if e := w.Put(bit, 1); e != api.OK {
			t.Fatal(i, e)
		}
		text += digits(bit, 1)
		checkWriter(t, &w, text)
	}
}

func TestPutAtEachPlace(t *testing.T) {
	for ahead := range 65 {
		for _, many := range []int{0, 1, 7, 8, 9, 31, 32, 33, 63, 64} {
			var w bits.Writer
			text := ""
			for i, u := range numbers(5) {
				size := many
				if i == 0 {
					size = ahead
				}
				u = cut(u, size)
				if e := w.Put(u, size); e != api.OK {
					t.Fatal(ahead, many, e)
				}
				text += digits(u, size)
			}
			checkWriter(t, &w, text)
		}
	}
}

func TestNilWriter(t *testing.T) {
	var w *bits.Writer
	for _, many := range []int{math.MinInt, -1, 0, 1, 64, 65, math.MaxInt} {
		if e := w.Put(0, many); e != api.ErrNil {
			t.Errorf("Put(0, %d): %d", many, e)
		}
		if e := w.Put(most, many); e != api.ErrNil {
			t.Errorf("Put(most, %d): %d", many, e)
		}
	}
	if w.Len() != 0 || w.Bytes() != "" {
		t.Error(w.Len(), w.Bytes())
	}
}

func TestCopiedWritersStayApart(t *testing.T) {
	for ahead := range 200 {
		var a bits.Writer
		text := ""
		for i := range ahead {
			a.Put(uint64(i%2), 1)
			text += digits(uint64(i%2), 1)
		}
		b := a
		a.Put(0xff, 8)
		b.Put(0, 3)
		c := b
		b.Put(0, 64)
		c.Put(most, 64)
		checkWriter(t, &a, text+"11111111")
		checkWriter(t, &b, text+"000"+digits(0, 64))
		checkWriter(t, &c, text+"000"+digits(most, 64))
	}
}

func TestBytesStayAsTheyWere(t *testing.T) {
	var w bits.Writer
	w.Put(1, 1)
	s := w.Bytes()
	w.Put(0x7f, 7)
	if s != "\x80" || w.Bytes() != "\xff" {
		t.Errorf("%q %q", s, w.Bytes())
	}
}

// P1.3

func TestReadRefuses(t *testing.T) {
	for _, c := range []struct {
		s    string
		many int
	}{
		{"", -1}, {"", 1}, {"", 8}, {"ab", -1}, {"ab", 17}, {"ab", 24}, {"ab", -16},
		{"", math.MinInt}, {"", math.MaxInt}, {"ab", math.MinInt}, {"ab", math.MaxInt},
	} {
		if r, e := bits.Read(c.s, c.many); r != nil || e != api.ErrArg {
			t.Errorf("Read(%q, %d): %v, %d", c.s, c.many, r, e)
		}
	}
}

func TestReadStandsAhead(t *testing.T) {
	s := "\xa5\x0f\x3c"
	for many := range 25 {
		r := mustRead(t, s, many)
		if r.Left() != many {
			t.Errorf("%d: Left %d", many, r.Left())
		}
		u, e := r.Get(many)
		if e != api.OK || digits(u, many) != unpacked(s)[:many] || r.Left() != 0 {
			t.Errorf("%d: Get %d, %d", many, u, e)
		}
		if u, e := r.Get(1); u != 0 || e != api.ErrShort {
			t.Errorf("%d: Get behind the end: %d, %d", many, u, e)
		}
	}
}

func TestReadOfNoBits(t *testing.T) {
	for _, s := range []string{"", "\xff"} {
		r := mustRead(t, s, 0)
		if u, e := r.Get(0); u != 0 || e != api.OK {
			t.Error("Get(0)", u, e)
		}
		if u, e := r.Get(1); u != 0 || e != api.ErrShort {
			t.Error("Get(1)", u, e)
		}
		if r.Left() != 0 || r.Seek(0) != api.OK || r.Seek(1) != api.ErrArg {
			t.Error("Left, Seek")
		}
	}
}

func TestReadersStayApart(t *testing.T) {
	a, b := mustRead(t, "\xa5", 8), mustRead(t, "\xa5", 8)
	a.Get(5)
	if a.Left() != 3 || b.Left() != 8 {
		t.Error(a.Left(), b.Left())
	}
}

// P1.4

func TestGetRefuses(t *testing.T) {
	r := mustRead(t, strings.Repeat("\xff", 20), 160)
	r.Get(3)
	for _, many := range []int{-1, -64, 65, 66, 157, 158, math.MinInt, math.MaxInt} {
		if u, e := r.Get(many); u != 0 || e != api.ErrArg || r.Left() != 157 {
			t.Errorf("Get(%d): %d, %d, Left %d", many, u, e, r.Left())
		}
	}
	short := mustRead(t, "\xff", 8)
	for _, many := range []int{-1, 65} {
		if u, e := short.Get(many); u != 0 || e != api.ErrArg {
			t.Errorf("Get(%d), too long as well: %d, %d", many, u, e)
		}
	}
}

func TestGetJustWhatIsLeft(t *testing.T) {
	s := strings.Repeat("\x9b", 8)
	for left := range 65 {
		r := mustRead(t, s, 64)
		if r.Seek(64-left) != api.OK {
			t.Fatal(left)
		}
		if left < 64 {
			if u, e := r.Get(left + 1); u != 0 || e != api.ErrShort || r.Left() != left {
				t.Errorf("one more than %d: %d, %d, Left %d", left, u, e, r.Left())
			}
		}
		u, e := r.Get(left)
		if e != api.OK || digits(u, left) != unpacked(s)[64-left:] || r.Left() != 0 {
			t.Errorf("%d: %d, %d, Left %d", left, u, e, r.Left())
		}
	}
}

func TestGetStopsAtTheBitsNotTheBytes(t *testing.T) {
	r := mustRead(t, "\xff\xff", 9)
	if u, e := r.Get(10); u != 0 || e != api.ErrShort || r.Left() != 9 {
		t.Error(u, e, r.Left())
	}
	if u, e := r.Get(9); u != 0x1ff || e != api.OK || r.Left() != 0 {
		t.Error(u, e, r.Left())
	}
}

func TestSeek(t *testing.T) {
	s := "\xa5\x0f\x3c\x71"
	r := mustRead(t, s, 30)
	for _, at := range []int{30, 0, 7, 29, 8, 1, 16, 0, 30} {
		if e := r.Seek(at); e != api.OK || r.Left() != 30-at {
			t.Fatalf("Seek(%d): %d, Left %d", at, e, r.Left())
		}
		u, e := r.Get(30 - at)
		if e != api.OK || digits(u, 30-at) != unpacked(s)[at:30] {
			t.Errorf("at %d: %d, %d", at, u, e)
		}
	}
}

func TestSeekRefuses(t *testing.T) {
	r := mustRead(t, "\xa5\x0f\x3c\x71", 30)
	r.Get(11)
	for _, at := range []int{-1, 31, 32, 33, math.MinInt, math.MaxInt} {
		if e := r.Seek(at); e != api.ErrArg || r.Left() != 19 {
			t.Errorf("Seek(%d): %d, Left %d", at, e, r.Left())
		}
	}
}

func TestReaderThatIsNone(t *testing.T) {
	var none *bits.Reader
	for i, r := range []*bits.Reader{none, {}, new(bits.Reader)} {
		for _, many := range []int{math.MinInt, -1, 0, 1, 64, 65, math.MaxInt} {
			if u, e := r.Get(many); u != 0 || e != api.ErrNil {
				t.Errorf("%d: Get(%d): %d, %d", i, many, u, e)
			}
			if e := r.Seek(many); e != api.ErrNil {
				t.Errorf("%d: Seek(%d): %d", i, many, e)
			}
		}
		if r.Left() != 0 {
			t.Errorf("%d: Left %d", i, r.Left())
		}
	}
}

// P1.5

func TestWhatWasPutIsGot(t *testing.T) {
	l := numbers(4000)
	size := func(i int) int { return int(l[i]>>32) % 65 }
	var w bits.Writer
	all := 0
	for i, u := range l {
		if e := w.Put(cut(u, size(i)), size(i)); e != api.OK {
			t.Fatal(i, e)
		}
		all += size(i)
	}
	if w.Len() != all {
		t.Fatalf("Len %d, want %d", w.Len(), all)
	}
	r := mustRead(t, w.Bytes(), w.Len())
	for i, u := range l {
		if got, e := r.Get(size(i)); e != api.OK || got != cut(u, size(i)) {
			t.Fatalf("%d: %d, %d; want %d", i, got, e, cut(u, size(i)))
		}
	}
	if r.Left() != 0 {
		t.Error("left", r.Left())
	}
}

func TestWhatIsReadIsWritten(t *testing.T) {
	s := "\x00\xff\xa5\x0f\x3c\x71\x80\x01\x7f\xfe"
	for many := range 8*len(s) + 1 {
		r := mustRead(t, s, many)
		var w bits.Writer
		for size := 1; r.Left() > 0; size++ {
			size := min(size, r.Left())
			u, _ := r.Get(size)
			w.Put(u, size)
		}
		checkWriter(t, &w, unpacked(s)[:many])
	}
}

func TestNearerNumbersHaveLesserZigs(t *testing.T) {
	ends := []int{0, 1, 2, 3, 1 << 20, 1<<62 - 1, 1 << 62, math.MaxInt - 1}
	for _, u := range numbers(500) {
		ends = append(ends, int(u>>1)%math.MaxInt)
	}
	for _, n := range ends {
		near := max(bits.Zig(n), bits.Zig(-n))
		far := min(bits.Zig(n+1), bits.Zig(-n-1))
		if near >= far {
			t.Errorf("%d: %d is not less than %d", n, near, far)
		}
	}
	if bits.Zig(math.MaxInt) >= bits.Zig(math.MinInt) || bits.Zig(-math.MaxInt) >= bits.Zig(math.MinInt) {
		t.Error("the least number is the farthest one")
	}
}
