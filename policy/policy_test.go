package policy_test

import (
	"fmt"
	"math"
	"math/big"
	"slices"
	"strings"
	"testing"

	"tachograph/api"
	"tachograph/policy"
)

const (
	top    = math.MaxInt
	bottom = math.MinInt
)

// none is numbers that are no policies.
func none() []int {
	return []int{0, 7, 8, -1, -2, -6, 255, 256, 257, 1 << 32, 1<<32 + 1, top - 1, top, bottom, bottom + 1}
}

// given is the policies and their names, as the chapter tells them.
func given() []string {
	return []string{1: "BLOCK", 2: "FIRST", 3: "LAST", 4: "MIN", 5: "MAX", 6: "SUM"}
}

// numbers is a row of numbers that look like chance, of every width and both signs, always the same.
func numbers(many int) []int {
	l := make([]int, many)
	x := uint64(88172645463325252)
	for i := range l {
		x ^= x << 13
		x ^= x >> 7
		x ^= x << 17
		l[i] = int(x) >> (i % 64)
	}
	return l
}

// edges is numbers at both ends, at their halves, and about 0.
func edges() []int {
	return []int{
		bottom, bottom + 1, bottom + 2, bottom/2 - 1, bottom / 2, bottom/2 + 1,
		-1 << 32, -1 << 31, -100, -2, -1, 0, 1, 2, 100, 1 << 31, 1 << 32,
		top/2 - 1, top / 2, top/2 + 1, top/2 + 2, top - 2, top - 1, top,
	}
}

// pairs is numbers two by two: each edge with each, and many that look like chance.
func pairs() [][2]int {
	var l [][2]int
	for _, a := range edges() {
		for _, b := range edges() {
			l = append(l, [2]int{a, b})
		}
	}
	some := numbers(4001)
	for i, a := range some[1:] {
		l = append(l, [2]int{a, some[i]}, [2]int{a, some[len(some)-1-i]})
	}
	return l
}

// whole is a sum without ends, and on which side of them it lies: -1, 0 (between), 1.
func whole(a, b int) (*big.Int, int) {
	sum := new(big.Int).Add(big.NewInt(int64(a)), big.NewInt(int64(b)))
	switch {
	case sum.Cmp(big.NewInt(top)) > 0:
		return sum, 1
	case sum.Cmp(big.NewInt(bottom)) < 0:
		return sum, -1
	}
	return sum, 0
}

// P3.1

func TestThePoliciesNumbers(t *testing.T) {
	got := []int{policy.Block, policy.First, policy.Last, policy.Min, policy.Max, policy.Sum}
	if !slices.Equal(got, []int{1, 2, 3, 4, 5, 6}) {
		t.Error(got)
	}
}

func TestRightAndName(t *testing.T) {
	for p, name := range given() {
		if p > 0 && (!policy.Right(p) || policy.Name(p) != name) {
			t.Errorf("%d: %v, %q; want %q", p, policy.Right(p), policy.Name(p), name)
		}
	}
	for _, p := range none() {
		if policy.Right(p) || policy.Name(p) != "" {
			t.Errorf("%d, that is none: %v, %q", p, policy.Right(p), policy.Name(p))
		}
	}
}

// checkParse holds what Parse answers against what it must; 0: there is none.
func checkParse(t *testing.T, s string, want int) {
	t.Helper()
	wanted := api.OK
	if want == 0 {
		wanted = api.ErrWord
	}
	if p, e := policy.Parse(s); p != want || e != wanted {
		t.Errorf("%q: %d, %d; want %d, %d", s, p, e, want, wanted)
	}
}

func TestParseOfEachCase(t *testing.T) {
	for p, name := range given() {
		if p == 0 {
			continue
		}
		small := strings.ToLower(name)
		for mask := range 1 << len(name) { // each letter great, or small
			s := []byte(name)
			for i := range s {
				if mask>>i&1 == 1 {
					s[i] = small[i]
				}
			}
			checkParse(t, string(s), p)
		}
	}
}

func TestParseOfAnotherByte(t *testing.T) {
	for p, name := range given() {
		for i := range len(name) {
			for b := range 256 {
				s := name[:i] + string([]byte{byte(b)}) + name[i+1:]
				want := 0
				if byte(b) == name[i] || byte(b) == name[i]+'a'-'A' {
					want = p
				}
				checkParse(t, s, want)
			}
		}
	}
}

func TestParseOfAByteTooManyOrTooFew(t *testing.T) {
	for _, name := range given() {
		for i := range len(name) + 1 {
			for b := range 256 {
				checkParse(t, name[:i]+string([]byte{byte(b)})+name[i:], 0)
			}
			checkParse(t, name[:i]+"\r\n"+name[i:], 0)
			if i < len(name) {
				checkParse(t, name[:i]+name[i+1:], 0)
				checkParse(t, name[:i], 0)
				checkParse(t, name[i+1:], 0)
			}
		}
	}
}

func TestParseOfLettersThatLookLikeThem(t *testing.T) {
	for _, s := range []string{
		"LA\u017fT", "la\u017ft", "FIR\u017fT", "\u017fum", "\u017fUM", // a long s: its great letter is S
		"BLOC\u212a", "bloc\u212a", // the sign of Kelvin: its small letter is k
		"M\u0131N", "m\u0131n", "F\u0131RST", "M\u0130N", "F\u0130RST", // an i without a dot, an I with one
		"\uff2d\uff29\uff2e", "\u041c\u0410\u0425", "MI\u0147", "M\u0049\u0307N", "MAX\u0301",
	} {
		checkParse(t, s, 0)
	}
}

func TestParseOfOtherTexts(t *testing.T) {
	for _, s := range []string{
		"", " ", "  MIN", "MIN  ", " MIN ", "MIN MAX", "MINMAX", "MIN,MAX", "MINMIN", "M I N", "+MIN", "-MIN", "\"MIN\"", "MIN\x00", "\x00MIN", "\x00", "\xff", "\xef\xbb\xbfMIN",
		"0", "1", "2", "3", "4", "5", "6", "7", "-1", "01",
		"COUNT", "RANGE", "AVG", "NONE", "ON", "BLOCKED", "FIRSTS", "LASTS", "MINI", "MAXI", "SUMS", "MINIMUM", "MAXIMUM", "NIM", "KCOLB",
		strings.Repeat("MIN", 1000), strings.Repeat(" ", 1000), strings.Repeat("\x00", 3), "TSAL", "TSRIF", "XAM", "MUS",
	} {
		checkParse(t, s, 0)
		checkParse(t, strings.ToLower(s), 0)
	}
}

func TestNamesAreParsed(t *testing.T) {
	for p := -3; p < 10; p++ {
		want := p
		if !policy.Right(p) {
			want = 0
		}
		checkParse(t, policy.Name(p), want)
	}
}

// P3.2

func TestAddAndCapAtTheEnds(t *testing.T) {
	for _, c := range []struct {
		a, b, sum, end int
		e              api.Errno
	}{
		{0, 0, 0, 0, api.OK},
		{3, 4, 7, 7, api.OK},
		{3, -4, -1, -1, api.OK},
		{-3, -4, -7, -7, api.OK},
		{top, 0, top, top, api.OK},
		{top - 1, 1, top, top, api.OK},
		{top/2 + 1, top / 2, top, top, api.OK},
		{top, 1, 0, top, api.ErrOver}, // one beyond
		{top/2 + 1, top/2 + 1, 0, top, api.ErrOver},
		{top - 1, 2, 0, top, api.ErrOver},
		{top, top, 0, top, api.ErrOver}, // as far as can be
		{top, top - 1, 0, top, api.ErrOver},
		{bottom, 0, bottom, bottom, api.OK},
		{bottom + 1, -1, bottom, bottom, api.OK},
		{bottom / 2, bottom / 2, bottom, bottom, api.OK},
		{bottom, -1, 0, bottom, api.ErrOver},
		{bottom / 2, bottom/2 - 1, 0, bottom, api.ErrOver},
		{bottom + 1, -2, 0, bottom, api.ErrOver},
		{bottom, bottom, 0, bottom, api.ErrOver}, // what wraps is 0
		{bottom, bottom + 1, 0, bottom, api.ErrOver},
		{top, bottom, -1, -1, api.OK},
		{top, -top, 0, 0, api.OK},
		{top, -1, top - 1, top - 1, api.OK},
		{bottom, 1, bottom + 1, bottom + 1, api.OK},
	} {
		for _, x := range [][2]int{{c.a, c.b}, {c.b, c.a}} {
			if sum, e := policy.Add(x[0], x[1]); sum != c.sum || e != c.e {
				t.Errorf("Add(%d, %d): %d, %d; want %d, %d", x[0], x[1], sum, e, c.sum, c.e)
			}
			if n := policy.Cap(x[0], x[1]); n != c.end {
				t.Errorf("Cap(%d, %d): %d, want %d", x[0], x[1], n, c.end)
			}
		}
	}
}

func TestAddAndCapOfManyNumbers(t *testing.T) {
	seen := map[int]int{}
	for _, x := range pairs() {
		sum, side := whole(x[0], x[1])
		seen[side]++
		want, wanted, end := int(sum.Int64()), api.OK, int(sum.Int64())
		switch side {
		case 1:
			want, wanted, end = 0, api.ErrOver, top
		case -1:
			want, wanted, end = 0, api.ErrOver, bottom
		}
		if n, e := policy.Add(x[0], x[1]); n != want || e != wanted {
			t.Errorf("Add(%d, %d): %d, %d; want %d, %d", x[0], x[1], n, e, want, wanted)
		}
		if n := policy.Cap(x[0], x[1]); n != end {
			t.Errorf("Cap(%d, %d): %d, want %d", x[0], x[1], n, end)
		}
	}
	for _, side := range []int{-1, 0, 1} {
		if seen[side] < 40 {
			t.Errorf("too few on side %d: %d", side, seen[side])
		}
	}
}

// P3.3

func TestMergeOfEachPolicy(t *testing.T) {
	for _, c := range []struct {
		p, old, now, want int
		e                 api.Errno
	}{
		{policy.Block, 1, 2, 0, api.ErrBlocked},
		{policy.Block, 2, 1, 0, api.ErrBlocked},
		{policy.Block, 2, 2, 0, api.ErrBlocked}, // like the other one, and blocked all the same
		{policy.Block, 0, 0, 0, api.ErrBlocked},
		{policy.Block, top, top, 0, api.ErrBlocked},
		{policy.First, 1, 2, 1, api.OK},
		{policy.First, 2, 1, 2, api.OK},
		{policy.First, 2, 2, 2, api.OK},
		{policy.First, bottom, top, bottom, api.OK},
		{policy.Last, 1, 2, 2, api.OK},
		{policy.Last, 2, 1, 1, api.OK},
		{policy.Last, 2, 2, 2, api.OK},
		{policy.Last, bottom, top, top, api.OK},
		{policy.Min, 1, 2, 1, api.OK},
		{policy.Min, 2, 1, 1, api.OK},
		{policy.Min, 2, 2, 2, api.OK},
		{policy.Min, -2, 1, -2, api.OK},
		{policy.Min, bottom, top, bottom, api.OK},
		{policy.Min, top, bottom, bottom, api.OK},
		{policy.Max, 1, 2, 2, api.OK},
		{policy.Max, 2, 1, 2, api.OK},
		{policy.Max, 2, 2, 2, api.OK},
		{policy.Max, -2, 1, 1, api.OK},
		{policy.Max, bottom, top, top, api.OK},
		{policy.Max, top, bottom, top, api.OK},
		{policy.Sum, 3, 4, 7, api.OK},
		{policy.Sum, 4, 3, 7, api.OK},
		{policy.Sum, 4, 4, 8, api.OK},
		{policy.Sum, top, bottom, -1, api.OK},
		{policy.Sum, top - 1, 1, top, api.OK},
		{policy.Sum, top, 1, 0, api.ErrOver},
		{policy.Sum, 1, top, 0, api.ErrOver},
		{policy.Sum, top, top, 0, api.ErrOver},
		{policy.Sum, bottom + 1, -1, bottom, api.OK},
		{policy.Sum, bottom, -1, 0, api.ErrOver},
		{policy.Sum, -1, bottom, 0, api.ErrOver},
		{policy.Sum, bottom, bottom, 0, api.ErrOver},
	} {
		if n, e := policy.Merge(c.p, c.old, c.now); n != c.want || e != c.e {
			t.Errorf("Merge(%s, %d, %d): %d, %d; want %d, %d", policy.Name(c.p), c.old, c.now, n, e, c.want, c.e)
		}
	}
}

// merged is what the chapter's words say that Merge answers, sums apart.
func merged(p, old, now int) (int, api.Errno) {
	least, most := old, now
	if least > most {
		least, most = most, least
	}
	switch given()[p] {
	case "BLOCK":
		return 0, api.ErrBlocked
	case "FIRST":
		return old, api.OK
	case "LAST":
		return now, api.OK
	case "MIN":
		return least, api.OK
	}
	return most, api.OK
}

func TestMergeOfManyNumbers(t *testing.T) {
	for _, x := range pairs() {
		for p := policy.Block; p <= policy.Max; p++ {
			want, wanted := merged(p, x[0], x[1])
			if n, e := policy.Merge(p, x[0], x[1]); n != want || e != wanted {
				t.Errorf("Merge(%s, %d, %d): %d, %d; want %d, %d", given()[p], x[0], x[1], n, e, want, wanted)
			}
		}
		want, wanted := policy.Add(x[0], x[1])
		if n, e := policy.Merge(policy.Sum, x[0], x[1]); n != want || e != wanted {
			t.Errorf("Merge(SUM, %d, %d): %d, %d; want %d, %d", x[0], x[1], n, e, want, wanted)
		}
	}
}

func TestMergeOfNoPolicy(t *testing.T) {
	for _, p := range none() {
		for _, x := range [][2]int{{0, 0}, {1, 2}, {2, 1}, {2, 2}, {top, 1}, {top, top}, {bottom, bottom}, {bottom, top}} {
			if n, e := policy.Merge(p, x[0], x[1]); n != 0 || e != api.ErrArg {
				t.Errorf("Merge(%d, %d, %d): %d, %d", p, x[0], x[1], n, e)
			}
		}
	}
}

// P3.4

// orders is three numbers in each of their orders.
func orders(l [3]int) [][3]int {
	a, b, c := l[0], l[1], l[2]
	return [][3]int{{a, b, c}, {a, c, b}, {b, a, c}, {b, c, a}, {c, a, b}, {c, b, a}}
}

// both is what three numbers become in their order, from the left and from the right.
func both(p int, l [3]int) []answer {
	left, e := policy.Merge(p, l[0], l[1])
	if e == api.OK {
		left, e = policy.Merge(p, left, l[2])
	}
	right, f := policy.Merge(p, l[1], l[2])
	if f == api.OK {
		right, f = policy.Merge(p, l[0], right)
	}
	return []answer{{left, e}, {right, f}}
}

type answer struct {
	n int
	e api.Errno
}

// threes is numbers three by three.
func threes() [][3]int {
	var l [][3]int
	for i, a := range edges() {
		for j, b := range edges()[i:] {
			for _, c := range edges()[i+j:] {
				l = append(l, [3]int{a, b, c})
			}
		}
	}
	some := numbers(3000)
	for i := 0; i < len(some); i += 3 {
		l = append(l, [3]int(some[i:i+3]))
	}
	return l
}

func TestMinMaxAndSumInAnyOrder(t *testing.T) {
	for _, p := range []int{policy.Min, policy.Max, policy.Sum} {
		for _, l := range threes() {
			var got []int
			for _, o := range orders(l) {
				for _, x := range both(p, o) {
					switch {
					case x.e == api.OK:
						got = append(got, x.n)
					case x.e != api.ErrOver || x.n != 0 || p != policy.Sum:
						t.Fatalf("%s of %v: %v", policy.Name(p), o, x)
					}
				}
			}
			if distinct := slices.Compact(got); len(distinct) > 1 {
				t.Fatalf("%s of %v: %v", policy.Name(p), l, distinct)
			}
		}
	}
}

func TestTwoNumbersEitherWayRound(t *testing.T) {
	for _, x := range pairs() {
		for _, p := range []int{policy.Min, policy.Max, policy.Sum} {
			n, e := policy.Merge(p, x[0], x[1])
			m, f := policy.Merge(p, x[1], x[0])
			if n != m || e != f {
				t.Errorf("%s of %v: %d, %d, and %d, %d", policy.Name(p), x, n, e, m, f)
			}
		}
	}
}

func TestCapIsAddOrAnEnd(t *testing.T) {
	for _, x := range pairs() {
		n := policy.Cap(x[0], x[1])
		sum, side := whole(x[0], x[1])
		if m, e := policy.Add(x[0], x[1]); e == api.OK && n != m {
			t.Errorf("Cap%v: %d, and Add tells %d", x, n, m)
		} else if e != api.OK && n != top && n != bottom {
			t.Errorf("Cap%v: %d is no end, and Add tells %d", x, n, e)
		}
		// an end is never beyond the sum that it stands for
		if at := big.NewInt(int64(n)).Cmp(sum); at != -side {
			t.Errorf("Cap%v: %d for %s", x, n, sum)
		}
	}
}

func TestAnswersStayTheSame(t *testing.T) {
	tell := func() string {
		var b strings.Builder
		for p := -1; p < 9; p++ {
			n, e := policy.Merge(p, 5, -3)
			fmt.Fprintln(&b, policy.Right(p), policy.Name(p), n, e)
			n, e = policy.Parse(policy.Name(p))
			fmt.Fprintln(&b, n, e)
		}
		return b.String()
	}
	first := tell()
	for range 20 {
		if again := tell(); again != first {
			t.Fatalf("%s\nand ahead of that\n%s", again, first)
		}
	}
}
