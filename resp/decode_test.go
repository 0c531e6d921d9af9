package resp_test

import (
	"math/big"
	"regexp"
	"slices"
	"strconv"
	"strings"
	"testing"

	"tachograph/api"
	"tachograph/resp"
)

// What a line of a reply is, by its sign, and what can become one, or is told of only when another byte is there.
var (
	wholeText  = regexp.MustCompile(`^[+-]([ -~]{0,128})\r\n`)
	someText   = regexp.MustCompile(`^[+-][ -~]{0,128}\r?$`)
	wholeInt   = regexp.MustCompile(`^:(0|-?[1-9][0-9]*)\r\n`)
	someInt    = regexp.MustCompile(`^:(-?|-0|(0|-?[1-9][0-9]*)\r?)$`)
	wholeBulk  = regexp.MustCompile(`^\$(0|[1-9][0-9]*)\r\n`)
	someBulk   = regexp.MustCompile(`^\$(-?|-0|0\r?|-1\r?|[1-9][0-9]*\r?)$`)
	wholeArray = regexp.MustCompile(`^\*(0|[1-9][0-9]*)\r\n`)
	someArray  = regexp.MustCompile(`^\*((0|[1-9][0-9]*)\r?)?$`)
)

// leading is the number with which a text begins: of an Int, of a Bulk's bytes, of an Array's parts.
var leading = regexp.MustCompile(`^[:$*](-?[0-9]+)`)

// isBeyond tells whether the number of a line is below a least one, or above a most one; and whether a byte stands behind its digits.
func isBeyond(s string, least, most int) (bool, bool) {
	m := leading.FindStringSubmatch(s)
	if m == nil {
		return false, false
	}
	n, _ := new(big.Int).SetString(m[1], 10)
	return n.Cmp(big.NewInt(int64(least))) < 0 || n.Cmp(big.NewInt(int64(most))) > 0, len(m[0]) < len(s)
}

// mustItem is the item with which s begins, by the chapter's words, and how many bytes it has, without its parts.
func mustItem(s string) (resp.Item, int, api.Errno) {
	if s == "" {
		return resp.Item{}, 0, api.ErrShort
	}
	switch s[0] {
	case '+', '-':
		m := wholeText.FindStringSubmatch(s)
		kind := map[byte]int{'+': resp.Simple, '-': resp.Error}[s[0]]
		return mustBe(s, m, someText, func() resp.Item { return resp.Item{Kind: kind, S: m[1]} })
	case ':':
		m := wholeInt.FindStringSubmatch(s)
		if beyond, _ := isBeyond(s, -1<<63, 1<<63-1); beyond { // told at once
			return resp.Item{}, 0, api.ErrForm
		}
		return mustBe(s, m, someInt, func() resp.Item { n, _ := strconv.Atoi(m[1]); return number(n) })
	case '*':
		m := wholeArray.FindStringSubmatch(s)
		if beyond, told := isBeyond(s, 0, 100000); beyond && told {
			return resp.Item{}, 0, api.ErrForm
		}
		return mustBe(s, m, someArray, func() resp.Item { n, _ := strconv.Atoi(m[1]); return array(n) })
	case '$':
		return mustBulk(s)
	}
	return resp.Item{}, 0, api.ErrForm
}

// mustBe is an item, if there is a match, with as many bytes as that; else what s is in place of one, if it can become such a line, or not.
func mustBe(s string, m []string, some *regexp.Regexp, make func() resp.Item) (resp.Item, int, api.Errno) {
	switch {
	case m != nil:
		return make(), len(m[0]), api.OK
	case some.MatchString(s):
		return resp.Item{}, 0, api.ErrShort
	}
	return resp.Item{}, 0, api.ErrForm
}

// mustBulk is mustItem of a Bulk, or a Null.
func mustBulk(s string) (resp.Item, int, api.Errno) {
	if strings.HasPrefix(s, "$-1\r\n") {
		return null(), 5, api.OK
	}
	if beyond, told := isBeyond(s, -1, 512); beyond && told {
		return resp.Item{}, 0, api.ErrForm
	}
	m := wholeBulk.FindStringSubmatch(s)
	if m == nil {
		return mustBe(s, nil, someBulk, nil)
	}
	many, _ := strconv.Atoi(m[1])
	at := len(m[0])
	behind := s[at+min(many, len(s)-at):]
	switch {
	case strings.HasPrefix(behind, "\r\n"):
		return bulk(s[at : at+many]), at + many + 2, api.OK
	case behind == "" || behind == "\r":
		return resp.Item{}, 0, api.ErrShort
	}
	return resp.Item{}, 0, api.ErrForm
}

// mustDecode is the reply with which s begins, and how many bytes it has; or what it is in place of one.
func mustDecode(s string) ([]resp.Item, int, api.Errno) {
	x, at, e := mustItem(s)
	if e != api.OK {
		return nil, 0, e
	}
	l := one(x)
	if x.Kind != resp.Array {
		return l, at, api.OK
	}
	for range x.N {
		parts, many, e := mustDecode(s[at:])
		if e != api.OK {
			return nil, 0, e
		}
		l, at = append(l, parts...), at+many
	}
	return l, at, api.OK
}

// checkDecode holds what Decode tells against what it must.
func checkDecode(t *testing.T, s string, l []resp.Item, many int, e api.Errno) bool {
	t.Helper()
	got, n, err := resp.Decode(s)
	if !slices.Equal(got, l) || n != many || err != e || e != api.OK && got != nil {
		t.Errorf("Decode of %s: %s, %d, %d; want %s, %d, %d", short(s), say(got), n, err, say(l), many, e)
		return false
	}
	return true
}

// checkText is checkDecode by the chapter's words.
func checkText(t *testing.T, s string) bool {
	t.Helper()
	l, many, e := mustDecode(s)
	return checkDecode(t, s, l, many, e)
}

// checkForm holds that s is none, as it is and with other bytes behind.
func checkForm(t *testing.T, s string) {
	t.Helper()
	for _, behind := range []string{"", "\r", "\r\n", "\r\n\r\n", "x", "0", "\x00", "+a\r\n"} {
		checkDecode(t, s+behind, nil, 0, api.ErrForm)
		checkDecode(t, "*2\r\n:1\r\n"+s+behind, nil, 0, api.ErrForm)
	}
}

// checkShort holds that s can be the beginning of one, or that this is not told yet.
func checkShort(t *testing.T, s string) {
	t.Helper()
	checkDecode(t, s, nil, 0, api.ErrShort)
	checkDecode(t, "*2\r\n:1\r\n"+s, nil, 0, api.ErrShort)
	checkDecode(t, "*3\r\n"+s, nil, 0, api.ErrShort)
}

// checkWhole holds that s is one, with others behind, in Arrays, and cut off at every place.
func checkWhole(t *testing.T, s string, l []resp.Item) {
	t.Helper()
	for _, behind := range []string{"", "x", "\r\n", "\x00", "\xff", s, "*100001\r\n", "$513\r\n", "+"} {
		checkDecode(t, s+behind, l, len(s), api.OK)
	}
	checkDecode(t, "*2\r\n"+s+s+s, of(one(array(2)), l, l), 4+2*len(s), api.OK)
	checkDecode(t, "*1\r\n*1\r\n"+s, of(one(array(1), array(1)), l), 8+len(s), api.OK)
	for at := range len(s) {
		checkShort(t, s[:at])
	}
}

// P13.4

func TestDecodeOfEachKind(t *testing.T) {
	checkWhole(t, "+OK\r\n", one(simple("OK")))
	checkWhole(t, "+\r\n", one(simple("")))
	checkWhole(t, "-ERR NONE\r\n", one(fault("ERR NONE")))
	checkWhole(t, "-\r\n", one(fault("")))
	checkWhole(t, "-1\r\n", one(fault("1")))
	checkWhole(t, "+ +-:$*~\r\n", one(simple(" +-:$*~")))
	checkWhole(t, ":0\r\n", one(number(0)))
	checkWhole(t, ":-1\r\n", one(number(-1)))
	checkWhole(t, "$1\r\na\r\n", one(bulk("a")))
	checkWhole(t, "$0\r\n\r\n", one(bulk("")))
	checkWhole(t, "$3\r\n\x00\r\n\r\n", one(bulk("\x00\r\n")))
	checkWhole(t, "$4\r\n\r\n\r\n\r\n", one(bulk("\r\n\r\n")))
	checkWhole(t, "$-1\r\n", one(null()))
	checkWhole(t, "*0\r\n", one(array(0)))
	checkWhole(t, "*1\r\n$-1\r\n", one(array(1), null()))
	checkWhole(t, "*6\r\n+a\r\n-b\r\n:-3\r\n$3\r\nc\r\n\r\n$-1\r\n*0\r\n", one(array(6), simple("a"), fault("b"), number(-3), bulk("c\r\n"), null(), array(0)))
	checkWhole(t, "*2\r\n*2\r\n:1\r\n$1\r\n5\r\n*2\r\n:2\r\n$2\r\n-6\r\n", one(array(2), array(2), number(1), bulk("5"), array(2), number(2), bulk("-6")))
}

func TestDecodeOfNothing(t *testing.T) {
	checkDecode(t, "", nil, 0, api.ErrShort)
}

func TestDecodeOfEachSign(t *testing.T) {
	for b := range 256 {
		c := string([]byte{byte(b)})
		if strings.Contains("+-:$*", c) {
			checkShort(t, c)
		} else {
			checkForm(t, c)
		}
	}
}

func TestDecodeOfNumbers(t *testing.T) {
	for _, s := range []string{"0", "1", "9", "10", "-1", "-9", "-10", "99", "1234567890", "-1234567890", "1000000000000000000", "9223372036854775806", "9223372036854775807", "-9223372036854775807", "-9223372036854775808"} {
		n, _ := strconv.Atoi(s)
		checkWhole(t, ":"+s+"\r\n", one(number(n)))
	}
	for _, s := range []string{"00", "01", "09", "-00", "-01", "--", "+", "+1", " ", " 1", "1 ", "1x", "1_0", "0x", "-x", "--1", "1-", "x", "\r", "\n", "-\r", "-\n", "1\n", "1\r\r", "1\rx", "\xd9\xa1"} {
		checkForm(t, ":"+s)
	}
	for _, s := range []string{"9223372036854775808", "9223372036854775809", "9223372036854775810", "-9223372036854775809", "-9223372036854775810", "10000000000000000000", "-10000000000000000000", "18446744073709551615", "18446744073709551616", "18446744073709551617", "99999999999999999999", strings.Repeat("9", 300), "-1" + strings.Repeat("0", 300)} {
		checkForm(t, ":"+s) // whether a byte stands behind or not
	}
}

func TestDecodeOfLessThanNothing(t *testing.T) {
	for _, sign := range []string{":", "$"} {
		checkShort(t, sign+"-")
		checkShort(t, sign+"-0")
		for b := range 256 {
			checkForm(t, sign+"-0"+string([]byte{byte(b)}))
		}
	}
	checkForm(t, "*-")
	checkForm(t, "*-0")
	checkForm(t, "*-1")
}

func TestDecodeOfNull(t *testing.T) {
	checkShort(t, "$-1")
	checkShort(t, "$-1\r")
	for _, s := range []string{"$-2", "$-9", "$-10", "$-11", "$-1x", "$-1\n", "$-1\rx", "$--", "$--1", "$-x", "$-\r", "$-01", "$-00", "$-512", "$-9223372036854775808", "$-99999999999999999999"} {
		checkForm(t, s)
	}
}

func TestDecodeOfTooManyBytes(t *testing.T) {
	for _, s := range []string{"513", "514", "520", "599", "1000", "5120", "5121", "123456789", "1234567890", "9223372036854775807", "9223372036854775808", "18446744073709551617", "18446744073709552128", strings.Repeat("9", 300)} {
		checkShort(t, "$"+s)
		for b := range 256 {
			if b < '0' || b > '9' {
				checkForm(t, "$"+s+string([]byte{byte(b)}))
			}
		}
		checkForm(t, "$"+s+"\r\n"+strings.Repeat("a", 520))
	}
	for _, s := range []string{"00", "01", "0512", "+1", " 1", "x", "1x", "\r", "\n", "1\n", "1\rx"} {
		checkForm(t, "$"+s)
	}
}

func TestDecodeByABulksLength(t *testing.T) {
	for many := range 513 {
		s := letters(many)
		head := "$" + strconv.Itoa(many) + "\r\n"
		checkDecode(t, head+s+"\r\n", one(bulk(s)), len(head)+many+2, api.OK)
		checkDecode(t, head+s+"\r\n+", one(bulk(s)), len(head)+many+2, api.OK)
		checkDecode(t, head+s+"x\r\n", nil, 0, api.ErrForm)
		checkDecode(t, head+s+"\rx", nil, 0, api.ErrForm)
		checkDecode(t, head+s+"\r\r", nil, 0, api.ErrForm)
		checkDecode(t, head+s+"\n", nil, 0, api.ErrForm)
		checkDecode(t, head+s+"\r", nil, 0, api.ErrShort)
		checkDecode(t, head+s, nil, 0, api.ErrShort)
		checkDecode(t, head+s[:many/2], nil, 0, api.ErrShort)
		checkDecode(t, head[:len(head)-1], nil, 0, api.ErrShort)
	}
	checkWhole(t, "$512\r\n"+letters(512)+"\r\n", one(bulk(letters(512))))
	checkDecode(t, "$512\r\n"+letters(511)+"\r\n", nil, 0, api.ErrForm) // its 13 is the Bulk's last byte
	checkDecode(t, "$512\r\n"+letters(510)+"\r\n", nil, 0, api.ErrShort)
}

func TestDecodeOfTooManyParts(t *testing.T) {
	for _, s := range []string{"100001", "100002", "100010", "200000", "999999", "1000000", "123456789", "1234567890", "9223372036854775807", "9223372036854775808", "18446744073709551617", strings.Repeat("9", 300)} {
		checkShort(t, "*"+s)
		for b := range 256 {
			if b < '0' || b > '9' {
				checkForm(t, "*"+s+string([]byte{byte(b)}))
			}
		}
		checkForm(t, "*"+s+"\r\n$-1\r\n")
	}
	for _, s := range []string{"00", "01", "+1", " 1", "x", "1x", "\r", "\n", "1\n", "1\rx"} {
		checkForm(t, "*"+s)
	}
	for _, s := range []string{"99999", "100000"} {
		checkShort(t, "*"+s)
		checkShort(t, "*"+s+"\r")
		checkShort(t, "*"+s+"\r\n")
		many, _ := strconv.Atoi(s)
		whole := "*" + s + "\r\n" + strings.Repeat(":7\r\n", many)
		checkDecode(t, whole+":8\r\n", append(one(array(many)), slices.Repeat(one(number(7)), many)...), len(whole), api.OK)
		checkShort(t, whole[:len(whole)-1])
		checkShort(t, whole[:len(whole)-4])
		checkForm(t, whole[:len(whole)-2]+"x")
	}
}

func TestDecodeOfTexts(t *testing.T) {
	for _, sign := range []string{"+", "-"} {
		for many := range 129 {
			s := strings.Repeat("x", many)
			l := one(map[string]resp.Item{"+": simple(s), "-": fault(s)}[sign])
			checkDecode(t, sign+s+"\r\n", l, many+3, api.OK)
			checkDecode(t, sign+s+"\r\nx", l, many+3, api.OK)
			checkDecode(t, sign+s, nil, 0, api.ErrShort)
			checkDecode(t, sign+s+"\r", nil, 0, api.ErrShort)
			checkForm(t, sign+s+"\rx")
			checkForm(t, sign+s+"\n")
		}
		checkForm(t, sign+strings.Repeat("x", 129)) // cut off or not
		checkForm(t, sign+strings.Repeat(" ", 130))
		checkForm(t, sign+strings.Repeat("x", 1<<16))
		for b := range 256 {
			c := string([]byte{byte(b)})
			for _, ahead := range []string{"", "x", strings.Repeat("x", 60), strings.Repeat("x", 127)} {
				checkText(t, sign+ahead+c)
				checkText(t, sign+ahead+c+"\r\n")
				if b != 13 && (b < 32 || b > 126) {
					checkForm(t, sign+ahead+c)
				}
			}
		}
	}
}

func TestDecodeOfPartsThatAreOdd(t *testing.T) {
	for _, s := range []string{"x", ":x", "$513\r\n", "*-1\r\n", "+a\x7f", "\r\n", "$1\r\nab"} {
		checkDecode(t, "*1\r\n"+s, nil, 0, api.ErrForm)
		checkDecode(t, "*3\r\n:1\r\n:2\r\n"+s, nil, 0, api.ErrForm)
		checkDecode(t, "*2\r\n*2\r\n:1\r\n"+s, nil, 0, api.ErrForm)
		checkDecode(t, "*2\r\n*1\r\n:1\r\n"+s, nil, 0, api.ErrForm)
		checkDecode(t, "*1\r\n:1\r\n"+s, one(array(1), number(1)), 8, api.OK) // behind the whole of it
		checkDecode(t, "*0\r\n"+s, one(array(0)), 4, api.OK)
	}
	checkDecode(t, "*100000\r\n*100000\r\n*100000\r\nx", nil, 0, api.ErrForm)
	checkDecode(t, "*100000\r\n*100000\r\n*100000\r\n", nil, 0, api.ErrShort)
}

func TestDecodeOfWhatIsNested(t *testing.T) {
	for _, many := range []int{1, 2, 100, 1 << 16, 1 << 18} {
		s := strings.Repeat("*1\r\n", many)
		checkDecode(t, s, nil, 0, api.ErrShort)
		checkDecode(t, s+"x", nil, 0, api.ErrForm)
		checkDecode(t, s+"$-1\r\n$", append(slices.Repeat(one(array(1)), many), null()), len(s)+5, api.OK)
		s = strings.Repeat("*2\r\n", many) + strings.Repeat("*0\r\n", many+1)
		checkDecode(t, s+"*", of(slices.Repeat(one(array(2)), many), slices.Repeat(one(array(0)), many+1)), len(s), api.OK)
		checkDecode(t, s[:len(s)-4], nil, 0, api.ErrShort)
	}
}

func TestDecodeOfEachByteInEachPlace(t *testing.T) {
	for _, s := range []string{"+O K~\r\n", "-E\r\n", ":-120\r\n", ":9\r\n", "$-1\r\n", "$2\r\n\r\n\r\n", "$12\r\nabcdefghijkl\r\n", "*2\r\n:0\r\n$0\r\n\r\n", "*10\r\n" + strings.Repeat("$-1\r\n", 10), "*1\r\n*2\r\n*0\r\n-x\r\n"} {
		for at := range len(s) {
			for b := range 256 {
				c := string([]byte{byte(b)})
				ok := checkText(t, s[:at]+c+s[at+1:]) && checkText(t, s[:at]+c+s[at:]) && checkText(t, s[:at]+c)
				if !ok {
					return
				}
			}
			checkText(t, s[:at]+s[at+1:])
		}
	}
}

// TestDecodeOfAllShortTexts: behind some beginnings, each text of a few bytes that says something in a reply.
func TestDecodeOfAllShortTexts(t *testing.T) {
	for _, ahead := range []string{"", ":", ":-", "$", "$-", "*", "*1\r\n", "*2\r\n", "$1\r\n", "$2\r\na", "+", "*2\r\n*1\r\n", "$51", "*10000", ":922337203685477580", ":-922337203685477580", "$922337203685477580"} {
		for _, s := range texts("+-:$*0189\r\nx\x7f", 4) {
			if !checkText(t, ahead+s) {
				return
			}
		}
	}
}
