package resp_test

import (
	"slices"
	"strconv"
	"strings"
	"testing"

	"tachograph/resp"
)

// mustFrame is what the chapter's words say of words: their frame.
func mustFrame(words []string) string {
	s := "*" + strconv.Itoa(len(words)) + "\r\n"
	for _, w := range words {
		if len(w) > 512 {
			return ""
		}
		s += "$" + strconv.Itoa(len(w)) + "\r\n" + w + "\r\n"
	}
	if len(words) > 64 {
		return ""
	}
	return s
}

// checkFrame holds what Frame tells against what it must.
func checkFrame(t *testing.T, words []string, want string) {
	t.Helper()
	if got := resp.Frame(words); got != want {
		t.Errorf("Frame of %d words: %s, want %s", len(words), short(got), short(want))
	}
}

// P13.2

func TestFrame(t *testing.T) {
	checkFrame(t, nil, "*0\r\n")
	checkFrame(t, []string{}, "*0\r\n")
	checkFrame(t, []string{""}, "*1\r\n$0\r\n\r\n")
	checkFrame(t, []string{"GET", "a"}, "*2\r\n$3\r\nGET\r\n$1\r\na\r\n")
	checkFrame(t, []string{"a", "", "b c"}, "*3\r\n$1\r\na\r\n$0\r\n\r\n$3\r\nb c\r\n")
	checkFrame(t, []string{"\r\n", "\x00\xff", "*1\r\n"}, "*3\r\n$2\r\n\r\n\r\n$2\r\n\x00\xff\r\n$4\r\n*1\r\n\r\n")
	checkFrame(t, []string{"é"}, "*1\r\n$2\r\né\r\n") // bytes, not runes
	checkFrame(t, []string{"0123456789"}, "*1\r\n$10\r\n0123456789\r\n")
}

func TestFrameOfEachByte(t *testing.T) {
	for b := range 256 {
		c := string([]byte{byte(b)})
		checkFrame(t, []string{c, "x" + c + "y"}, "*2\r\n$1\r\n"+c+"\r\n$3\r\nx"+c+"y\r\n")
	}
}

func TestFrameByTheNumberOfWords(t *testing.T) {
	for many := range 140 {
		for _, w := range []string{"", "a", letters(512)} {
			words := slices.Repeat([]string{w}, many)
			checkFrame(t, words, mustFrame(words))
			if (resp.Frame(words) == "") != (many > 64) {
				t.Errorf("Frame of %d words: %s", many, short(resp.Frame(words)))
			}
		}
	}
	checkFrame(t, make([]string, 1<<16), "")
}

func TestFrameByTheLengthOfAWord(t *testing.T) {
	for many := range 1100 {
		w := letters(many)
		for _, words := range [][]string{{w}, {w, "a"}, {"a", w}, {"a", w, ""}} {
			checkFrame(t, words, mustFrame(words))
			if (resp.Frame(words) == "") != (many > 512) {
				t.Errorf("Frame of a word of %d bytes: %s", many, short(resp.Frame(words)))
			}
		}
	}
	checkFrame(t, []string{strings.Repeat("a", 1<<20)}, "")
	checkFrame(t, []string{strings.Repeat("é", 257)}, "")
	for at := range 64 { // the one that is too long in each place
		words := slices.Repeat([]string{"a"}, 64)
		words[at] = letters(513)
		checkFrame(t, words, "")
		words[at] = letters(512)
		checkFrame(t, words, mustFrame(words))
	}
}
