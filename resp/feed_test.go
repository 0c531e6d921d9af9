package resp_test

import (
	"regexp"
	"slices"
	"strconv"
	"strings"
	"testing"

	"tachograph/api"
	"tachograph/resp"
)

// What a line of a frame is, and what can become one.
var (
	wholeLine = regexp.MustCompile(`^[*$](0|[1-9][0-9]{0,8})\r\n`)
	someLine  = regexp.MustCompile(`^[*$]((0|[1-9][0-9]{0,8})\r?)?$`)
)

// told is what a parser that has read nothing must tell of bytes: the commands, how many bytes are left, and whether it is dead.
type told struct {
	l    []resp.Command
	left int
	dead bool
}

// mustTell is what the chapter's words say of bytes.
func mustTell(s string) told {
	var w told
	for s != "" {
		words, many, e := mustRead(s)
		switch {
		case e == api.ErrShort:
			w.left = len(s)
			return w
		case e != api.OK:
			w.l, w.dead = append(w.l, resp.Command{E: e}), true
			return w
		case len(words) > 0:
			w.l = append(w.l, resp.Command{Words: words})
		}
		s = s[many:]
	}
	return w
}

// mustRead is the words of the frame with which s begins, and how many bytes it has; or what it is in place of one.
func mustRead(s string) ([]string, int, api.Errno) {
	at, words, e := mustLine(s, '*', 64)
	if e != api.OK {
		return nil, 0, e
	}
	var l []string
	for range words {
		many, bytes, e := mustLine(s[at:], '$', 512)
		if e != api.OK {
			return nil, 0, e
		}
		at += many
		rest := s[at+min(bytes, len(s)-at):]
		if !strings.HasPrefix(rest, "\r\n") {
			if len(rest) > 0 && rest != "\r" {
				return nil, 0, api.ErrForm
			}
			return nil, 0, api.ErrShort
		}
		l = append(l, s[at:at+bytes])
		at += bytes + 2
	}
	return l, at, api.OK
}

// mustLine is how many bytes the line with which s begins has, and its number; or what it is in place of one.
func mustLine(s string, sign byte, most int) (int, int, api.Errno) {
	whole := wholeLine.FindStringSubmatch(s)
	switch {
	case s == "":
		return 0, 0, api.ErrShort
	case s[0] != sign || whole == nil && !someLine.MatchString(s):
		return 0, 0, api.ErrForm
	case whole == nil:
		return 0, 0, api.ErrShort
	}
	n, _ := strconv.Atoi(whole[1])
	if n > most {
		return 0, 0, api.ErrBig
	}
	return len(whole[0]), n, api.OK
}

// short is a text to be read: cut off, if it is long.
func short(s string) string {
	if len(s) > 120 {
		return strconv.QuoteToASCII(s[:60]) + ".." + strconv.QuoteToASCII(s[len(s)-40:]) + " of " + strconv.Itoa(len(s))
	}
	return strconv.QuoteToASCII(s)
}

// sayCommands is commands to be read.
func sayCommands(l []resp.Command) string {
	var told []string
	for _, c := range l[:min(len(l), 5)] {
		one := strconv.Itoa(int(c.E))
		for _, w := range c.Words[:min(len(c.Words), 5)] {
			one += " " + short(w)
		}
		told = append(told, one)
	}
	return strconv.Itoa(len(l)) + "{" + strings.Join(told, "; ") + "}"
}

// sameCommands tells whether commands are the same, word for word.
func sameCommands(a, b []resp.Command) bool {
	return slices.EqualFunc(a, b, func(x, y resp.Command) bool {
		return x.E == y.E && slices.Equal(x.Words, y.Words)
	})
}

// checkState holds what a parser tells behind parts against what it must behind all of them.
func checkState(t *testing.T, what string, p *resp.Parser, got []resp.Command, w told) bool {
	t.Helper()
	if !sameCommands(got, w.l) || p.Left() != w.left || p.Dead() != w.dead {
		t.Errorf("%s: %s, left %d, dead %v; want %s, left %d, dead %v", what, sayCommands(got), p.Left(), p.Dead(), sayCommands(w.l), w.left, w.dead)
		return false
	}
	return true
}

// checkParts feeds parts, and holds what is told behind each one.
func checkParts(t *testing.T, parts ...string) bool {
	t.Helper()
	var p resp.Parser
	var got []resp.Command
	all := ""
	for i, s := range parts {
		got = append(got, p.Feed(s)...)
		all += s
		if !checkState(t, short(all)+" behind part "+strconv.Itoa(i), &p, got, mustTell(all)) {
			return false
		}
	}
	return true
}

// checkBytes feeds bytes in one part, byte by byte, and cut at each place.
func checkBytes(t *testing.T, s string) bool {
	t.Helper()
	ok := checkParts(t, s) && checkParts(t, strings.Split(s, "")...)
	for at := 0; at <= len(s) && ok; at++ {
		ok = checkParts(t, s[:at], s[at:])
	}
	return ok
}

// checkFed feeds bytes as checkBytes does, and holds the words of the commands behind them against those wanted: blanks between words, | between commands.
func checkFed(t *testing.T, s string, want string, left int, e api.Errno) {
	t.Helper()
	checkBytes(t, s)
	var p resp.Parser
	got := ""
	last := api.OK
	for _, c := range p.Feed(s) {
		last = c.E
		if c.E == api.OK {
			got += strings.Join(c.Words, " ") + "|"
		} else if len(c.Words) > 0 {
			t.Errorf("%s: words beside an error: %q", short(s), c.Words)
		}
	}
	if got != want || p.Left() != left || last != e || p.Dead() != (e != api.OK) {
		t.Errorf("%s: %s left %d, dead %v, %d; want %s left %d, %d", short(s), short(got), p.Left(), p.Dead(), last, short(want), left, e)
	}
}

// letters is so many bytes of all kinds.
func letters(many int) string {
	b := make([]byte, many)
	for i := range b {
		b[i] = byte(i*7 + i/256 + many)
	}
	return string(b)
}

// P13.1

func TestFeedOfWholeFrames(t *testing.T) {
	checkFed(t, "", "", 0, api.OK)
	checkFed(t, "*1\r\n$4\r\nPING\r\n", "PING|", 0, api.OK)
	checkFed(t, "*2\r\n$3\r\nGET\r\n$1\r\na\r\n", "GET a|", 0, api.OK)
	checkFed(t, "*2\r\n$3\r\nGET\r\n$1\r\na\r\n*1\r\n$1\r\nb\r\n*1\r\n$1\r\nc\r\n", "GET a|b|c|", 0, api.OK)
	checkFed(t, "*1\r\n$4\r\nPING\r\n*", "PING|", 1, api.OK)
	checkFed(t, "*1\r\n$4\r\nPING\r\n*1\r\n$4\r\nPIN", "PING|", 11, api.OK)
	checkFed(t, "*1\r\n$4\r\nPING\r\n*1\r\n$4\r\nPING\r", "PING|", 13, api.OK)
	checkFed(t, "*12\r\n"+strings.Repeat("$10\r\n0123456789\r\n", 12), strings.TrimSuffix(strings.Repeat("0123456789 ", 12), " ")+"|", 0, api.OK)
}

func TestFeedOfNoWords(t *testing.T) {
	checkFed(t, "*0\r\n", "", 0, api.OK)
	checkFed(t, "*0\r\n*0\r\n*0\r\n", "", 0, api.OK)
	checkFed(t, "*0\r\n*1\r\n$1\r\na\r\n*0\r\n*0\r\n*1\r\n$1\r\nb\r\n*0\r\n", "a|b|", 0, api.OK)
	checkFed(t, "*0\r\n*0\r", "", 3, api.OK)
	checkFed(t, "*0\r\n*0", "", 2, api.OK)
	checkFed(t, "*0\r\n$0\r\n\r\n", "", 0, api.ErrForm)
	checkFed(t, "*0\r\n\r\n", "", 0, api.ErrForm)
	var p resp.Parser
	if l := p.Feed("*0\r\n"); len(l) != 0 || p.Left() != 0 || p.Dead() {
		t.Errorf("%s, left %d, dead %v", sayCommands(l), p.Left(), p.Dead())
	}
	if l := p.Feed(strings.Repeat("*0\r\n", 1<<18)); len(l) != 0 || p.Left() != 0 {
		t.Errorf("%s, left %d", sayCommands(l), p.Left())
	}
}

func TestFeedOfEmptyWords(t *testing.T) {
	checkFed(t, "*1\r\n$0\r\n\r\n", "|", 0, api.OK)
	checkFed(t, "*3\r\n$0\r\n\r\n$1\r\na\r\n$0\r\n\r\n", " a |", 0, api.OK)
	checkFed(t, "*1\r\n$0\r\n\r", "", 9, api.OK)
	checkFed(t, "*1\r\n$0\r\na\r\n", "", 0, api.ErrForm)
	checkFed(t, "*1\r\n$0\r\n\n\r", "", 0, api.ErrForm)
	checkFed(t, "*1\r\n$0\r\n*1\r\n", "", 0, api.ErrForm)
	checkFed(t, "*1\r\n$00\r\n\r\n", "", 0, api.ErrForm)
}

func TestFeedOfEachByteInAWord(t *testing.T) {
	for b := range 256 {
		c := string([]byte{byte(b)})
		checkFed(t, "*2\r\n$1\r\n"+c+"\r\n$3\r\nx"+c+"y\r\n", c+" x"+c+"y|", 0, api.OK)
	}
	for _, s := range []string{"\r\n", "\r\n\r\n", "\r", "\n", "\n\r", "*1\r\n", "$0\r\n\r\n", "\x00\xff\r\n\r\x00\n", "é", "\xe2\x82"} {
		checkFed(t, "*2\r\n$"+strconv.Itoa(len(s))+"\r\n"+s+"\r\n$1\r\na\r\n", s+" a|", 0, api.OK)
	}
}

func TestFeedOfSoManyWords(t *testing.T) {
	for _, many := range []int{1, 2, 9, 10, 11, 63, 64} {
		s := "*" + strconv.Itoa(many) + "\r\n" + strings.Repeat("$1\r\na\r\n", many)
		words := strings.Repeat("a ", many-1) + "a|"
		checkFed(t, s, words, 0, api.OK)
		checkFed(t, s+"*1\r\n", words, 4, api.OK)
		checkFed(t, s[:len(s)-1], "", len(s)-1, api.OK)
		checkFed(t, s+"$1\r\na\r\n", words, 0, api.ErrForm) // one word more than it says
		checkFed(t, s[:len(s)-7]+"*1\r\n", "", 0, api.ErrForm)
	}
	for _, many := range []int{65, 66, 99, 100, 128, 512, 640, 65536, 100000000, 999999999} {
		s := "*" + strconv.Itoa(many)
		checkFed(t, s, "", len(s), api.OK)
		checkFed(t, s+"\r", "", len(s)+1, api.OK)
		checkFed(t, s+"\r\n", "", 0, api.ErrBig)
		checkFed(t, s+"\r\nx", "", 0, api.ErrBig)
		checkFed(t, s+"\r\n$1\r\na\r\n", "", 0, api.ErrBig)
		checkFed(t, s+"\r\n*1\r\n$1\r\na\r\n", "", 0, api.ErrBig)
		checkFed(t, s+"\n", "", 0, api.ErrForm)
		checkFed(t, s+"x", "", 0, api.ErrForm)
		checkFed(t, s+"\rx", "", 0, api.ErrForm)
		checkFed(t, s+"\r\r\n", "", 0, api.ErrForm)
	}
}

func TestFeedOfSoManyBytes(t *testing.T) {
	for _, many := range []int{1, 2, 9, 10, 99, 100, 255, 256, 511, 512} {
		s := "*1\r\n$" + strconv.Itoa(many) + "\r\n" + letters(many) + "\r\n"
		checkFed(t, s, letters(many)+"|", 0, api.OK)
		checkFed(t, s[:len(s)-1]+"\r\n", "", 0, api.ErrForm)
		checkFed(t, s[:len(s)-2]+"x\r\n", "", 0, api.ErrForm) // a byte more than it says
		checkFed(t, s[:len(s)-3]+"\r\n", "", 0, api.ErrForm)  // one fewer: the 13 is the word's last one
	}
	for _, many := range []int{513, 514, 600, 1000, 5120, 65536, 100000000, 999999999} {
		for _, ahead := range []string{"*1\r\n", "*2\r\n", "*2\r\n$1\r\na\r\n", "*64\r\n" + strings.Repeat("$0\r\n\r\n", 63)} {
			s := ahead + "$" + strconv.Itoa(many)
			checkFed(t, s, "", len(s), api.OK)
			checkFed(t, s+"\r", "", len(s)+1, api.OK)
			checkFed(t, s+"\r\n", "", 0, api.ErrBig)
			checkFed(t, s+"\r\n"+letters(600), "", 0, api.ErrBig)
			checkFed(t, s+"\rx", "", 0, api.ErrForm)
			checkFed(t, s+"x", "", 0, api.ErrForm)
		}
	}
}

// TestFeedOfTheGreatestFrame: 64 words of 512 bytes.
func TestFeedOfTheGreatestFrame(t *testing.T) {
	words := slices.Repeat([]string{letters(512)}, 64)
	s := "*64\r\n" + strings.Repeat("$512\r\n"+letters(512)+"\r\n", 64)
	for at := 0; at <= len(s); at += 251 {
		checkParts(t, s[:at], s[at:])
	}
	checkParts(t, s+s+s)
	var p resp.Parser
	for i := range len(s) - 1 {
		if l := p.Feed(s[i : i+1]); len(l) != 0 || p.Left() != i+1 {
			t.Fatalf("behind %d: %s, left %d", i, sayCommands(l), p.Left())
		}
	}
	checkState(t, "behind the last byte", &p, p.Feed("\n"), told{l: []resp.Command{{Words: words}}})
}

// TestFeedOfNumbers: in both kinds of lines.
func TestFeedOfNumbers(t *testing.T) {
	for _, ahead := range []string{"*", "*1\r\n$", "*2\r\n$1\r\na\r\n$"} {
		for _, s := range []string{"", "-", "-1", "+1", " 1", "1 ", "1x", "x", "00", "01", "001", "0x1", "1.0", "1e1", "1_0", "\xd9\xa1", "\x00", "1\x00", "０", "-0", "1234567890", "0123456789", "000000001", "9999999999", "18446744073709551617", "99999999999999999999999999"} {
			checkFed(t, ahead+s+"\r\n", "", 0, api.ErrForm)
		}
		for _, s := range []string{"0", "1", "9", "10", "64", "65", "512", "513", "99999999", "100000000", "123456789", "999999999"} {
			checkFed(t, ahead+s, "", len(ahead+s), api.OK)
			checkFed(t, ahead+s+"\r", "", len(ahead+s)+1, api.OK)
		}
		for _, s := range []string{"00", "01", "09", "1234567890", "9999999990", "1000000000"} { // told as soon as it is to be seen
			checkFed(t, ahead+s, "", 0, api.ErrForm)
			checkFed(t, ahead+s[:len(s)-1], "", len(ahead+s)-1, api.OK)
		}
		checkFed(t, ahead+strings.Repeat("9", 300), "", 0, api.ErrForm)
		checkFed(t, ahead+strings.Repeat("0", 300), "", 0, api.ErrForm)
	}
}

func TestFeedOfEachByteInEachPlace(t *testing.T) {
	for _, s := range []string{"*1\r\n$1\r\na\r\n", "*2\r\n$0\r\n\r\n$2\r\n\r\n\r\n*0\r\n", "*10\r\n$10\r\n*1\r\n$1\r\na\r\n\r\n"} {
		for at := range len(s) {
			for b := range 256 {
				c := string([]byte{byte(b)})
				ok := checkParts(t, s[:at]+c+s[at+1:]) && checkParts(t, strings.Split(s[:at]+c+s[at:], "")...) && checkParts(t, s[:at]+c, s[at:])
				if !ok {
					return
				}
			}
		}
	}
}

// TestFeedOfAllShortTexts: behind some beginnings, each text of a few bytes that says something in a frame.
func TestFeedOfAllShortTexts(t *testing.T) {
	for _, ahead := range []string{"", "*", "*1", "*1\r\n", "*1\r\n$", "*1\r\n$2\r\n", "*1\r\n$2\r\nab", "*1\r\n$0\r\n", "*2\r\n$0\r\n\r\n", "*6", "*1\r\n$51"} {
		for _, s := range texts("*$0125\r\nx", 4) {
			if !checkParts(t, ahead, s) || !checkParts(t, ahead+s) {
				return
			}
		}
	}
}

// texts is each text of at most so many bytes out of some.
func texts(of string, most int) []string {
	l := []string{""}
	from := 0
	for range most {
		to := len(l)
		for _, s := range l[from:to] {
			for i := range len(of) {
				l = append(l, s+of[i:i+1])
			}
		}
		from = to
	}
	return l
}

// TestFeedOfWhatIsOddBehindWholeFrames: what is whole is told, in the same part.
func TestFeedOfWhatIsOddBehindWholeFrames(t *testing.T) {
	two := "*1\r\n$1\r\na\r\n*2\r\n$1\r\nb\r\n$1\r\nc\r\n"
	checkFed(t, two+"x", "a|b c|", 0, api.ErrForm)
	checkFed(t, two+"$", "a|b c|", 0, api.ErrForm)
	checkFed(t, two+"\r\n", "a|b c|", 0, api.ErrForm)
	checkFed(t, two+"*65\r\n", "a|b c|", 0, api.ErrBig)
	checkFed(t, two+"*1\r\n$513\r\n", "a|b c|", 0, api.ErrBig)
	checkFed(t, two+"*1\r\n$1\r\nab"+two, "a|b c|", 0, api.ErrForm)
	checkFed(t, two+"*2\r\n$1\r\nd\r\n*"+two, "a|b c|", 0, api.ErrForm) // of the odd one's words none is told
	checkFed(t, two+"x*65\r\n", "a|b c|", 0, api.ErrForm)
	checkFed(t, two+"*65\r\nx", "a|b c|", 0, api.ErrBig)
}

func TestFeedOfTheDead(t *testing.T) {
	for _, s := range []string{"x", "*65\r\n", "*1\r\n$513\r\n", "*1\r\n$1\r\na\r\nx", "*01"} {
		var p resp.Parser
		p.Feed(s)
		for _, b := range []string{"", "x", "*", "*1\r\n$1\r\na\r\n", "*65\r\n", "\r\n"} {
			if l := p.Feed(b); l != nil || p.Left() != 0 || !p.Dead() {
				t.Errorf("%q, then %q: %s, left %d, dead %v", s, b, sayCommands(l), p.Left(), p.Dead())
			}
		}
	}
}

func TestFeedOfNothing(t *testing.T) {
	for _, s := range []string{"", "*", "*1\r\n$3\r\na", "*1\r\n$1\r\na\r"} {
		var p resp.Parser
		p.Feed(s)
		for range 3 {
			if l := p.Feed(""); l != nil || p.Left() != len(s) || p.Dead() {
				t.Errorf("%q: %s, left %d, dead %v", s, sayCommands(l), p.Left(), p.Dead())
			}
		}
		checkParts(t, "", s, "", "\n", "")
	}
}

func TestParserOfNil(t *testing.T) {
	var p *resp.Parser
	for _, s := range []string{"", "*", "*1\r\n$1\r\na\r\n", "x", "*65\r\n"} {
		if l := p.Feed(s); l != nil || p.Left() != 0 || p.Dead() {
			t.Errorf("%q: %s, left %d, dead %v", s, sayCommands(l), p.Left(), p.Dead())
		}
	}
}

func TestParserOfZeros(t *testing.T) {
	for _, p := range []*resp.Parser{{}, new(resp.Parser)} {
		if p.Left() != 0 || p.Dead() {
			t.Errorf("left %d, dead %v", p.Left(), p.Dead())
		}
		checkState(t, "one frame", p, p.Feed("*1\r\n$1\r\na\r\n"), told{l: []resp.Command{{Words: []string{"a"}}}})
	}
}
