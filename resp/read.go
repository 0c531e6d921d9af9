package resp

import (
	"strconv"
	"strings"

	"tachograph/api"
)

// mostDigits is how many digits a number of a command's frame can have.
const mostDigits = 9

// reader goes over bytes from the left.
//
// Its methods panic by an error's number: by api.ErrShort where the bytes end too early, by another one at what is odd in them.
type reader struct {
	s  string
	at int // how many of them are read
}

// catch is what read makes, or the error by which it panics.
func catch[T any](read func() T) (made T, e api.Errno) {
	defer func() {
		if odd := recover(); odd != nil {
			e = odd.(api.Errno) // a panic by anything else is no fault of the bytes
		}
	}()
	return read(), api.OK
}

// must panics, unless what must be is.
func must(ok bool) {
	if !ok {
		panic(api.ErrForm)
	}
}

// peek is the next byte, which stays to be read.
func (r *reader) peek() byte {
	if r.at == len(r.s) {
		panic(api.ErrShort)
	}
	return r.s[r.at]
}

// late is must, but of what is told as soon as another byte is there.
func (r *reader) late(ok bool) {
	r.peek()
	must(ok)
}

// skip reads what must stand here.
func (r *reader) skip(s string) {
	for i := range len(s) {
		must(r.peek() == s[i])
		r.at++
	}
}

// take reads so many bytes, and the end behind them.
func (r *reader) take(many int) string {
	from := r.at
	if len(r.s)-from < many {
		panic(api.ErrShort)
	}
	r.at += many
	r.skip(end)
	return r.s[from : from+many]
}

// digits reads as many digits as stand here: at least one, and no 0 ahead of others.
func (r *reader) digits() string {
	must(isDigit(r.peek()))
	from := r.at
	for r.at < len(r.s) && isDigit(r.s[r.at]) {
		r.at++
	}
	text := r.s[from:r.at]
	must(len(text) == 1 || text[0] != '0')
	return text
}

// isDigit tells whether a byte is a decimal digit.
func isDigit(c byte) bool {
	return '0' <= c && c <= '9'
}

// word reads a word of a command's frame.
func (r *reader) word() string {
	return strings.Clone(r.take(r.many("$", api.MaxBulk)))
}

// many reads a line of a command's frame: how many words, or bytes, there are.
func (r *reader) many(sign string, most int) int {
	r.skip(sign)
	text := r.digits()
	must(len(text) <= mostDigits)
	r.skip(end)
	n, _ := strconv.Atoi(text)
	if n > most {
		panic(api.ErrBig)
	}
	return n
}

// reply reads an item, and its parts. (They are counted, not called for: a reply can be nested as deep as it is long.)
func (r *reader) reply() []Item {
	var l []Item
	for wanted := 1; wanted > 0; wanted-- {
		x := r.item()
		l = append(l, x)
		wanted += parts(x)
	}
	return l
}

// item reads an item, without its parts.
func (r *reader) item() Item {
	sign := r.peek()
	r.at++
	switch sign {
	case '+':
		return Item{Kind: Simple, S: r.text()}
	case '-':
		return Item{Kind: Error, S: r.text()}
	case ':':
		return Item{Kind: Int, N: r.number()}
	case '$':
		return r.bulk()
	case '*':
		return Item{Kind: Array, N: r.count(mostParts)}
	}
	panic(api.ErrForm)
}

// text reads that of a Simple or an Error, to the end of its line.
func (r *reader) text() string {
	from := r.at
	for isPlain(r.peek()) {
		must(r.at-from < mostText)
		r.at++
	}
	text := strings.Clone(r.s[from:r.at])
	r.skip(end)
	return text
}

// number reads that of an Int, to the end of its line.
func (r *reader) number() int {
	n, err := strconv.Atoi(r.signed())
	must(err == nil)
	r.skip(end)
	return n
}

// signed reads digits, or - and digits.
func (r *reader) signed() string {
	from := r.at
	if r.peek() == '-' {
		r.at++
	}
	r.digits()
	text := r.s[from:r.at]
	if text == "-0" {
		r.late(false)
	}
	return text
}

// bulk reads a Bulk, or a Null, behind its sign.
func (r *reader) bulk() Item {
	if r.peek() == '-' {
		must(r.signed() == "-1")
		r.skip(end)
		return Item{Kind: Null}
	}
	return Item{Kind: Bulk, S: strings.Clone(r.take(r.count(api.MaxBulk)))}
}

// count reads how many bytes a Bulk has, or how many parts an Array, to the end of the line.
func (r *reader) count(most int) int {
	n, _ := strconv.Atoi(r.digits()) // the greatest int, if they tell a greater number
	r.late(n <= most)
	r.skip(end)
	return n
}
