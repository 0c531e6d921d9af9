package resp_test

import (
	"math"
	"slices"
	"strconv"
	"strings"
	"testing"

	"tachograph/resp"
)

func simple(s string) resp.Item { return resp.Item{Kind: resp.Simple, S: s} }
func fault(s string) resp.Item  { return resp.Item{Kind: resp.Error, S: s} }
func number(n int) resp.Item    { return resp.Item{Kind: resp.Int, N: n} }
func bulk(s string) resp.Item   { return resp.Item{Kind: resp.Bulk, S: s} }
func null() resp.Item           { return resp.Item{Kind: resp.Null} }
func array(n int) resp.Item     { return resp.Item{Kind: resp.Array, N: n} }

// of is items put together from any number of parts.
func of(parts ...[]resp.Item) []resp.Item { return slices.Concat(parts...) }

// one is a list of items.
func one(l ...resp.Item) []resp.Item { return l }

// say is items to be read.
func say(l []resp.Item) string {
	var told []string
	for _, x := range l[:min(len(l), 6)] {
		told = append(told, strconv.Itoa(x.Kind)+" "+strconv.Itoa(x.N)+" "+short(x.S))
	}
	return strconv.Itoa(len(l)) + "[" + strings.Join(told, "; ") + "]"
}

// rest is what stands behind the first whole reply in items, and that reply's bytes, by the chapter's words; no, if there is none.
func rest(l []resp.Item) ([]resp.Item, string, bool) {
	if len(l) == 0 {
		return nil, "", false
	}
	x, l := l[0], l[1:]
	plain := strings.IndexFunc(x.S, func(r rune) bool { return r < 32 || r > 126 }) < 0
	no := resp.Item{Kind: x.Kind}
	switch {
	case x.Kind == resp.Simple && plain && len(x.S) < 129 && x.N == 0:
		return l, "+" + x.S + "\r\n", true
	case x.Kind == resp.Error && plain && len(x.S) < 129 && x.N == 0:
		return l, "-" + x.S + "\r\n", true
	case x.Kind == resp.Int && x.S == "":
		return l, ":" + strconv.Itoa(x.N) + "\r\n", true
	case x.Kind == resp.Bulk && len(x.S) < 513 && x.N == 0:
		return l, "$" + strconv.Itoa(len(x.S)) + "\r\n" + x.S + "\r\n", true
	case x.Kind == resp.Null && x == no:
		return l, "$-1\r\n", true
	case x.Kind == resp.Array && x.S == "" && x.N >= 0 && x.N < 100001:
		var b strings.Builder
		b.WriteString("*" + strconv.Itoa(x.N) + "\r\n")
		for range x.N {
			more, s, ok := rest(l)
			if !ok {
				return nil, "", false
			}
			b.WriteString(s)
			l = more
		}
		return l, b.String(), true
	}
	return nil, "", false
}

// checkReply holds what Right and Encode tell of items against what they must: s is empty, if they are not right.
func checkReply(t *testing.T, l []resp.Item, s string) {
	t.Helper()
	if resp.Right(l) != (s != "") {
		t.Errorf("Right of %s: %v", say(l), s == "")
	}
	if got := resp.Encode(l); got != s {
		t.Errorf("Encode of %s: %s, want %s", say(l), short(got), short(s))
	}
}

// checkItems is checkReply by the chapter's words.
func checkItems(t *testing.T, l []resp.Item) {
	t.Helper()
	more, s, ok := rest(l)
	if !ok || len(more) > 0 {
		s = ""
	}
	checkReply(t, l, s)
}

// P13.3

func TestReplyOfEachKind(t *testing.T) {
	checkReply(t, one(simple("OK")), "+OK\r\n")
	checkReply(t, one(simple("")), "+\r\n")
	checkReply(t, one(fault("ERR NONE")), "-ERR NONE\r\n")
	checkReply(t, one(fault("")), "-\r\n")
	checkReply(t, one(bulk("a")), "$1\r\na\r\n")
	checkReply(t, one(bulk("")), "$0\r\n\r\n")
	checkReply(t, one(bulk("-1")), "$2\r\n-1\r\n")
	checkReply(t, one(null()), "$-1\r\n")
	checkReply(t, one(array(0)), "*0\r\n")
	checkReply(t, one(array(1), null()), "*1\r\n$-1\r\n")
	checkReply(t, one(array(6), simple("a"), fault("b"), number(-3), bulk("c\r\n"), null(), array(0)), "*6\r\n+a\r\n-b\r\n:-3\r\n$3\r\nc\r\n\r\n$-1\r\n*0\r\n")
}

func TestReplyOfNumbers(t *testing.T) {
	for n, s := range map[int]string{0: "0", 1: "1", -1: "-1", 9: "9", 10: "10", -10: "-10", 100001: "100001", 1 << 40: "1099511627776", math.MaxInt: "9223372036854775807", math.MinInt: "-9223372036854775808", math.MaxInt - 1: "9223372036854775806", math.MinInt + 1: "-9223372036854775807"} {
		checkReply(t, one(number(n)), ":"+s+"\r\n")
		checkReply(t, one(array(2), number(n), number(n)), "*2\r\n:"+s+"\r\n:"+s+"\r\n")
	}
	for i := range 63 {
		for _, n := range []int{1 << i, -1 << i, 1<<i - 1, -1<<i - 1} {
			checkReply(t, one(number(n)), ":"+strconv.Itoa(n)+"\r\n")
		}
	}
}

func TestReplyByATextsLength(t *testing.T) {
	for many := range 300 {
		s := strings.Repeat("x", many)
		want := map[bool]string{true: s + "\r\n"}[many < 129]
		for sign, x := range map[string]resp.Item{"+": simple(s), "-": fault(s)} {
			if want == "" {
				checkReply(t, one(x), "")
			} else {
				checkReply(t, one(x), sign+want)
			}
		}
	}
	checkReply(t, one(simple(strings.Repeat("x", 1<<20))), "")
	checkReply(t, one(array(2), null(), fault(strings.Repeat("x", 129))), "")
}

func TestReplyByATextsBytes(t *testing.T) {
	for b := range 256 {
		c := string([]byte{byte(b)})
		for _, s := range []string{c, "x" + c, c + "x", strings.Repeat("x", 127) + c, strings.Repeat("x", 60) + c + strings.Repeat("x", 60)} {
			for sign, x := range map[string]resp.Item{"+": simple(s), "-": fault(s)} {
				if b < 32 || b > 126 {
					checkReply(t, one(x), "")
				} else {
					checkReply(t, one(x), sign+s+"\r\n")
				}
			}
		}
		checkReply(t, one(bulk(c)), "$1\r\n"+c+"\r\n")
	}
	checkReply(t, one(simple("é")), "")
	checkReply(t, one(fault("a\r\n")), "")
}

func TestReplyByABulksLength(t *testing.T) {
	for many := range 1100 {
		s := letters(many)
		want := ""
		if many < 513 {
			want = "$" + strconv.Itoa(many) + "\r\n" + s + "\r\n"
		}
		checkReply(t, one(bulk(s)), want)
	}
	checkReply(t, one(bulk(strings.Repeat("x", 1<<20))), "")
	checkReply(t, one(bulk(strings.Repeat("é", 257))), "") // bytes, not runes
	checkReply(t, one(array(1), bulk(letters(513))), "")
}

func TestReplyOfNoItem(t *testing.T) {
	checkReply(t, nil, "")
	checkReply(t, []resp.Item{}, "")
}

func TestReplyOfAKindThatIsNone(t *testing.T) {
	for _, kind := range []int{0, 7, 8, -1, -6, 255, 256 + resp.Null, 1<<32 + resp.Null, math.MaxInt, math.MinInt, '+', '-', ':', '$', '*'} {
		for _, x := range one(resp.Item{Kind: kind}, resp.Item{Kind: kind, S: "a"}, resp.Item{Kind: kind, N: 1}) {
			checkReply(t, one(x), "")
			checkReply(t, one(array(1), x), "")
			checkReply(t, one(x, null()), "")
			checkReply(t, one(array(3), null(), x, null()), "")
		}
	}
}

// TestReplyOfAnItemWithMoreThanItsKindHas: a number, a text, or both.
func TestReplyOfAnItemWithMoreThanItsKindHas(t *testing.T) {
	for _, n := range []int{1, -1, 2, 1 << 32, math.MinInt} {
		for _, x := range one(simple("a"), fault("a"), bulk("a"), simple(""), fault(""), bulk(""), null()) {
			x.N = n
			checkReply(t, one(x), "")
			checkReply(t, one(x, null()), "")
			checkReply(t, one(array(1), x), "")
		}
	}
	for _, s := range []string{"a", "\x00", "-1"} {
		for _, x := range one(number(0), number(5), null(), array(0), array(1)) {
			x.S = s
			checkReply(t, one(x), "")
			checkReply(t, one(x, null()), "")
			checkReply(t, one(array(1), x), "")
		}
	}
}

func TestReplyOfTooFewParts(t *testing.T) {
	for many := 1; many < 20; many++ {
		l := one(array(many))
		for range many {
			checkReply(t, l, "")
			l = append(l, null())
		}
		checkItems(t, l)
		checkReply(t, append(l, null()), "") // and too many
		checkReply(t, append(l, array(0)), "")
		checkReply(t, append(l, l...), "")
	}
	checkReply(t, one(array(2), array(1), null()), "")
	checkReply(t, one(array(1), array(1)), "")
	checkReply(t, one(array(0), null()), "")
	checkReply(t, one(array(100000)), "")
}

func TestReplyOfTwo(t *testing.T) {
	kinds := one(simple("a"), fault("b"), number(1), bulk("c"), null(), array(0))
	for _, x := range kinds {
		for _, y := range kinds {
			checkReply(t, one(x, y), "")
			checkReply(t, one(x, y, array(0)), "")
			checkReply(t, one(array(1), x, y), "")
			checkItems(t, one(array(2), x, y))
		}
	}
}

// TestReplyOfEachNumberOfParts: at both ends of what an Array can have.
func TestReplyOfEachNumberOfParts(t *testing.T) {
	for _, many := range []int{99999, 100000} {
		l := append(one(array(many)), slices.Repeat(one(null()), many)...)
		checkReply(t, l, "*"+strconv.Itoa(many)+"\r\n"+strings.Repeat("$-1\r\n", many))
		checkReply(t, l[:many], "")
		checkReply(t, append(l, null()), "")
	}
	for _, many := range []int{100001, 100002, 1 << 20} {
		checkReply(t, append(one(array(many)), slices.Repeat(one(null()), many)...), "")
	}
	for _, many := range []int{-1, -2, -100000, math.MinInt, math.MaxInt, 1 << 32, 1<<32 + 1} {
		checkReply(t, one(array(many)), "")
		checkReply(t, one(array(many), null()), "")
		checkReply(t, one(array(2), array(many), null()), "")
		checkReply(t, one(array(1), array(many)), "")
	}
	checkReply(t, one(array(3), array(-1), null()), "")
	checkReply(t, one(array(math.MaxInt), array(math.MaxInt), array(3)), "")
}

func TestReplyOfArraysInArrays(t *testing.T) {
	checkReply(t, one(array(1), array(0)), "*1\r\n*0\r\n")
	checkReply(t, one(array(2), array(2), number(1), bulk("5"), array(2), number(2), bulk("-6")), "*2\r\n*2\r\n:1\r\n$1\r\n5\r\n*2\r\n:2\r\n$2\r\n-6\r\n")
	checkReply(t, one(array(2), array(1), array(1), number(7), null()), "*2\r\n*1\r\n*1\r\n:7\r\n$-1\r\n")
	for _, many := range []int{2, 100, 1 << 16, 1 << 18} {
		deep := append(slices.Repeat(one(array(1)), many), null())
		checkReply(t, deep, strings.Repeat("*1\r\n", many)+"$-1\r\n")
		checkReply(t, deep[:many], "")
		checkReply(t, append(deep, null()), "")
		left := of(slices.Repeat(one(array(2)), many), slices.Repeat(one(null()), many+1)) // nested in the first part of each
		checkReply(t, left, strings.Repeat("*2\r\n", many)+strings.Repeat("$-1\r\n", many+1))
		checkReply(t, left[:2*many], "")
	}
}

// TestReplyOfAllShortLists: of items that can be, and of some that can't.
func TestReplyOfAllShortLists(t *testing.T) {
	for _, l := range lists(one(null(), number(2), array(0), array(1), array(2), array(3), array(-1), resp.Item{}, bulk("a")), 5) {
		checkItems(t, l)
	}
}

// lists is each list of at most so many items out of some.
func lists(of []resp.Item, most int) [][]resp.Item {
	l := [][]resp.Item{nil}
	from := 0
	for range most {
		to := len(l)
		for _, row := range l[from:to] {
			for _, x := range of {
				l = append(l, append(slices.Clone(row), x))
			}
		}
		from = to
	}
	return l
}
