package resp_test

import (
	"math"
	"slices"
	"strconv"
	"strings"
	"testing"
	"unsafe"

	"tachograph/api"
	"tachograph/resp"
)

// numbers is a row of numbers that look like chance, always the same of one seed.
func numbers(many int, seed uint64) []int {
	l := make([]int, many)
	x := 88172645463325252 + seed*2654435761
	for i := range l {
		x ^= x << 13
		x ^= x >> 7
		x ^= x << 17
		l[i] = int(x >> 20)
	}
	return l
}

// texted is a text of bytes that look like chance, and of lines' ends.
func texted(n int) string {
	many := []int{0, 1, 2, 3, 7, 10, 20, 100, 511, 512}[n%10]
	b := make([]byte, many)
	for i, x := range numbers(many, uint64(n)) {
		b[i] = []byte{byte(x), '\r', '\n', '*', '$', 'a'}[x>>8%6]
	}
	return string(b)
}

// commands is rows of words that can be framed, some of them without words.
func commands(many int, seed uint64) [][]string {
	var l [][]string
	for _, n := range numbers(many, seed) {
		var words []string
		for i := range []int{0, 1, 2, 3, 4, 5, 12, 64}[n%8] {
			words = append(words, texted(n>>10%1000+i*7))
		}
		l = append(l, words)
	}
	return l
}

// cut is a text in parts of lengths that look like chance.
func cut(s string, most int, seed uint64) []string {
	var l []string
	for _, n := range numbers(len(s), seed) {
		if s == "" {
			break
		}
		at := min(n%(most+1), len(s))
		l, s = append(l, s[:at]), s[at:]
	}
	return append(l, s)
}

// P13.5

// checkStream feeds a text in parts, and holds all that is told against what it is told of in one part.
func checkStream(t *testing.T, what string, s string, parts []string, w told) {
	t.Helper()
	var p resp.Parser
	var got []resp.Command
	for _, b := range parts {
		got = append(got, p.Feed(b)...)
	}
	checkState(t, what+", "+short(s), &p, got, w)
}

func TestFeedOfWhatIsFramed(t *testing.T) {
	for seed := range uint64(20) {
		s := ""
		var w told
		for _, words := range commands(20, seed) {
			s += resp.Frame(words)
			if len(words) > 0 {
				w.l = append(w.l, resp.Command{Words: words})
			}
		}
		what := "seed " + strconv.Itoa(int(seed))
		checkStream(t, what, s, []string{s}, w)
		for _, most := range []int{5, 50, 600, 5000, len(s)} {
			checkStream(t, what+", parts of "+strconv.Itoa(most), s, cut(s, most, seed), w)
		}
	}
}

// TestFeedOfFramesThatAreTurned: with a byte that is another one, or missing, or cut off.
func TestFeedOfFramesThatAreTurned(t *testing.T) {
	for seed := range uint64(150) {
		s := ""
		for _, words := range commands(4, seed) {
			s += resp.Frame(words)
		}
		for i, n := range numbers(6, seed+1000) {
			at := n % max(len(s), 1)
			bad := s[:at] + []string{"", "x", "\r", "\n", "0", "1", "9", "$", "*", string([]byte{byte(n >> 30)})}[n>>20%10] + s[min(at+1, len(s)):]
			what := "seed " + strconv.Itoa(int(seed)) + ", " + strconv.Itoa(i)
			checkStream(t, what, bad, []string{bad}, mustTell(bad))
			checkStream(t, what+", parts", bad, cut(bad, 700, seed), mustTell(bad))
			checkStream(t, what+", small parts", bad, cut(bad, 9, seed), mustTell(bad))
		}
	}
}

// replied is a reply of items that look like chance: at most so deep, and its parts' parts fewer.
func replied(row []int, deep int) ([]resp.Item, []int) {
	n, row := row[0], row[1:]
	switch n % 8 {
	case 0, 1:
		s := strings.Map(func(r rune) rune { return ' ' + r%95 }, strings.ToValidUTF8(texted(n>>10%1000), "?"))
		s = s[:min(len(s), 128)]
		return one(map[int]resp.Item{0: simple(s), 1: fault(s)}[n%8]), row
	case 2:
		return one(number([]int{n >> 8, -n >> 8, n >> 8 % 100, 0, math.MinInt, math.MaxInt, -1}[n>>4%7])), row
	case 3, 4:
		return one(bulk(texted(n >> 10 % 1000))), row
	case 5:
		return one(null()), row
	}
	many := n >> 8 % 6
	if deep == 0 {
		many = 0
	}
	l := one(array(many))
	for range many {
		var part []resp.Item
		part, row = replied(row, deep-1)
		l = append(l, part...)
	}
	return l, row
}

func TestDecodeOfWhatIsEncoded(t *testing.T) {
	for seed := range uint64(400) {
		l, _ := replied(numbers(10000, seed), 4)
		checkItems(t, l)
		s := resp.Encode(l)
		checkDecode(t, s, l, len(s), api.OK)
		checkDecode(t, s+s, l, len(s), api.OK)
		for _, n := range numbers(30, seed) {
			checkDecode(t, s[:n%len(s)], nil, 0, api.ErrShort)
		}
	}
}

// TestDecodeOfRepliesThatAreTurned: what is decoded is encoded as it was, and the rest is told as the chapter says.
func TestDecodeOfRepliesThatAreTurned(t *testing.T) {
	for seed := range uint64(400) {
		l, _ := replied(numbers(10000, seed), 3)
		s := resp.Encode(l)
		for _, n := range numbers(30, seed+1000) {
			at := n % len(s)
			bad := s[:at] + []string{"", "x", "\r", "\n", "0", "1", "9", "-", "+", ":", "$", "*", "-1\r\n", string([]byte{byte(n >> 30)})}[n>>20%14] + s[at+1:]
			checkText(t, bad)
			if m, many, e := resp.Decode(bad); e == api.OK && resp.Encode(m) != bad[:many] {
				t.Errorf("Encode of what Decode told of %s: %s", short(bad), short(resp.Encode(m)))
			}
		}
	}
}

// TestParsersThatAreCopied: each goes on by itself.
func TestParsersThatAreCopied(t *testing.T) {
	s := resp.Frame([]string{"a", "bc", "d", "", "e", "f", "ghi", "j", "k"}) // enough that a list of some of them has room behind it
	for at := range len(s) {
		var p resp.Parser
		p.Feed(s[:at])
		q, dead := p, p
		dead.Feed("\x00\x00\x00\x00\x00\x00")
		for i := at; i < len(s); i++ { // in turns
			checkState(t, "the first one", &p, p.Feed(s[i:i+1]), told{l: mustTell(s[:i+1]).l, left: mustTell(s[:i+1]).left})
			other := s[at:i] + strings.ToUpper(s[i:i+1])
			checkState(t, "the copy", &q, q.Feed(other[i-at:]), told{l: mustTell(s[:at] + strings.ToUpper(s[at:i+1])).l, left: mustTell(s[:i+1]).left})
		}
	}
}

func TestParsersAreApart(t *testing.T) {
	var p, q, r resp.Parser
	p.Feed("*1\r\n$1\r\n")
	q.Feed("x")
	r.Feed("*2\r\n$1\r\na\r\n")
	if p.Left() != 8 || q.Left() != 0 || r.Left() != 11 || p.Dead() || !q.Dead() || r.Dead() {
		t.Error(p.Left(), q.Left(), r.Left(), p.Dead(), q.Dead(), r.Dead())
	}
	checkState(t, "p", &p, p.Feed("b\r\n"), told{l: []resp.Command{{Words: []string{"b"}}}})
	checkState(t, "r", &r, r.Feed("$1\r\nc\r\n"), told{l: []resp.Command{{Words: []string{"a", "c"}}}})
}

// spoil writes over a list, and over the room behind it.
func spoil[T any](l []T, x T) {
	l = l[:cap(l)]
	for i := range l {
		l[i] = x
	}
}

// last is what shared made last: kept here it can't lie on the stack, from where texts are copied whoever takes them.
var last []byte

// shared is a text, and the bytes it lies on, so that whoever still has the text sees what becomes of these.
func shared(s string) (string, []byte) {
	b := []byte(s)
	last = b
	return unsafe.String(unsafe.SliceData(b), len(b)), b
}

func TestFeedKeepsNothingOfWhatIsHandedIn(t *testing.T) {
	s := "*2\r\n$1\r\na\r\n$2\r\nbc\r\n*1\r\n$3\r\ndef\r\n"
	for at := range len(s) + 1 {
		for mid := range at + 1 {
			var p resp.Parser
			var got []resp.Command
			for _, part := range []string{s[:mid], s[mid:at], s[at:]} {
				b, under := shared(part)
				got = append(got, p.Feed(b)...)
				spoil(under, '!')
			}
			checkState(t, "cut at "+strconv.Itoa(mid)+" and "+strconv.Itoa(at), &p, got, mustTell(s))
		}
	}
}

func TestDecodeKeepsNothingOfWhatIsHandedIn(t *testing.T) {
	want := one(array(3), simple("abc"), fault("de"), bulk("f\r\n"))
	s, under := shared(resp.Encode(want) + "rest")
	l, _, _ := resp.Decode(s)
	spoil(under, '!')
	if !slices.Equal(l, want) {
		t.Error(say(l))
	}
}

func TestFrameAndEncodeAreNewMemory(t *testing.T) {
	word, under := shared("abc")
	frame, reply := resp.Frame([]string{word}), resp.Encode(one(bulk(word)))
	spoil(under, '!')
	if frame != "*1\r\n$3\r\nabc\r\n" || reply != "$3\r\nabc\r\n" {
		t.Errorf("%q, %q", frame, reply)
	}
}

func TestFeedIsNewMemory(t *testing.T) {
	s := strings.Repeat("*2\r\n$1\r\na\r\n$2\r\nbc\r\n*1\r\n$3\r\ndef\r\n", 3)
	for at := range len(s) + 1 {
		var p resp.Parser
		first := p.Feed(s[:at])
		w := mustTell(s[:at])
		for i := range first { // no list is another one's, spare room too
			spoil(first[i].Words, "!")
			w.l[i].Words = first[i].Words
			checkState(t, "one is written over", &p, first, w)
		}
		spoil(first, resp.Command{Words: []string{"!"}, E: api.ErrBig})
		checkState(t, "behind what was written over", &p, p.Feed(s[at:]), told{l: mustTell(s).l[len(w.l):]})
	}
}

func TestDecodeIsNewMemory(t *testing.T) {
	l := one(array(2), bulk("a"), array(1), simple("b"))
	s := resp.Encode(l)
	for range 3 {
		got, _, _ := resp.Decode(s)
		other, _, _ := resp.Decode(s)
		spoil(got, resp.Item{Kind: 9, N: 9, S: "!"})
		if !slices.Equal(other, l) {
			t.Error(say(other))
		}
	}
}

// TestListsThatAreHandedInStay: as they are, the room behind them too.
func TestListsThatAreHandedInStay(t *testing.T) {
	for many := range 66 {
		words := slices.Repeat([]string{"a", "bc"}, 40)
		resp.Frame(words[:many])
		if !slices.Equal(words, slices.Repeat([]string{"a", "bc"}, 40)) {
			t.Errorf("Frame of %d: %q", many, words)
		}
	}
	long := []string{"a", letters(513), "b"}
	resp.Frame(long)
	if long[0] != "a" || long[1] != letters(513) || long[2] != "b" {
		t.Error("Frame of what is too long")
	}
	items := one(array(2), bulk("a"), array(1), number(3), null(), simple("x\x00"))
	for many := range len(items) + 1 {
		l := slices.Clone(items)
		resp.Right(l[:many])
		resp.Encode(l[:many])
		if !slices.Equal(l, items) {
			t.Errorf("Encode of %d: %s", many, say(l))
		}
	}
}
