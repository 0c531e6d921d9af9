package resp

import (
	"strconv"
	"strings"

	"tachograph/api"
)

// What the text of a Simple or an Error, and an Array, can have at most.
const (
	mostText  = 128
	mostParts = 100000
)

// The kinds of items.
const (
	Simple = iota + 1
	Error
	Int
	Bulk
	Null
	Array
)

// Item is a part of a reply.
type Item struct {
	Kind, N int
	S       string
}

// parts is how many items, each with its own parts, must stand behind an item.
func parts(x Item) int {
	if x.Kind == Array {
		return x.N
	}
	return 0
}

// Right tells whether items are a reply.
func Right(l []Item) bool {
	wanted := 1
	for _, x := range l {
		if wanted == 0 || !isRight(x) {
			return false
		}
		wanted += parts(x) - 1
	}
	return wanted == 0
}

// isRight tells whether an item can be.
func isRight(x Item) bool {
	switch x.Kind {
	case Simple, Error:
		return x.N == 0 && isText(x.S)
	case Int:
		return x.S == ""
	case Bulk:
		return x.N == 0 && len(x.S) <= api.MaxBulk
	case Null:
		return x.N == 0 && x.S == ""
	case Array:
		return x.S == "" && 0 <= x.N && x.N <= mostParts
	}
	return false
}

// isText tells whether a Simple or an Error can have a text.
func isText(s string) bool {
	for i := range len(s) {
		if !isPlain(s[i]) {
			return false
		}
	}
	return len(s) <= mostText
}

// isPlain tells whether such a text can have a byte.
func isPlain(c byte) bool {
	return ' ' <= c && c <= '~'
}

// Encode is a reply's bytes.
func Encode(l []Item) string {
	if !Right(l) {
		return ""
	}
	var b strings.Builder
	for _, x := range l {
		b.WriteString(encode(x))
	}
	return b.String()
}

// encode is the bytes of an item that can be, without those of its parts.
func encode(x Item) string {
	switch x.Kind {
	case Simple:
		return "+" + x.S + end
	case Error:
		return "-" + x.S + end
	case Int:
		return line(":", x.N)
	case Bulk:
		return line("$", len(x.S)) + x.S + end
	case Null:
		return line("$", -1)
	}
	return line("*", x.N)
}

// line is a sign and a number, with what stands behind a line.
func line(sign string, n int) string {
	return sign + strconv.Itoa(n) + end
}

// Decode is bytes' reply.
func Decode(s string) ([]Item, int, api.Errno) {
	r := &reader{s: s}
	l, e := catch(r.reply)
	if e != api.OK {
		return nil, 0, e
	}
	return l, r.at, api.OK
}
