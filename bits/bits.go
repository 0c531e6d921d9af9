// Package bits is layer 1: see shared/doc/01-bits.md.
package bits

import (
	"strings"

	"tachograph/api"
)

// word is 64 bits that were written, and those ahead of them.
type word struct {
	bits   uint64
	before *word
}

// Writer writes bits.
//
// Words that are full are linked and never changed again, and those that are not are a number: so a Writer that is copied as a value has nothing in common with the first one that either could change.
type Writer struct {
	full *word
	open uint64 // the bits behind the last full word, as a number
	many int
}

// Reader reads bits.
type Reader struct {
	given    bool // a reader of no bits is one too, and is told from a zero value by this alone
	text     string
	many, at int
}

// Zig is a number as one that is not below 0.
func Zig(n int) uint64 {
	if n >= 0 {
		return 2 * uint64(n)
	}
	return 2*uint64(-(n+1)) + 1 // n + 1 ahead of the turn: the least int has no positive one
}

// Zag is the number that Zig made.
func Zag(u uint64) int {
	half := int(u / 2)
	if u%2 == 0 {
		return half
	}
	return -half - 1
}

// spread hands the last many bits of a number on, the highest first.
func spread(u uint64, many int, hand func(bit uint64)) {
	for i := many - 1; i >= 0; i-- {
		hand(u >> i & 1)
	}
}

// gather is the number of which next tells the bits, the highest first.
func gather(many int, next func() uint64) uint64 {
	var u uint64
	for range many {
		u = u<<1 | next()
	}
	return u
}

// rightMany tells whether a number can have that many bits.
func rightMany(many int) bool {
	return many >= 0 && many <= 64
}

// Put writes a number's bits.
func (w *Writer) Put(u uint64, many int) api.Errno {
	if w == nil {
		return api.ErrNil
	}
	if !rightMany(many) || u>>many != 0 {
		return api.ErrArg
	}
	spread(u, many, w.putBit)
	return api.OK
}

func (w *Writer) putBit(bit uint64) {
	w.open = w.open<<1 | bit
	w.many++
	if w.many%64 == 0 {
		w.full = &word{w.open, w.full}
		w.open = 0
	}
}

// Len is how many bits there are.
func (w *Writer) Len() int {
	if w == nil {
		return 0
	}
	return w.many
}

// Bytes is the bytes that have them.
func (w *Writer) Bytes() string {
	if w == nil {
		return ""
	}
	row := make([]byte, bytesOf(w.many))
	at := w.many / 64 * 8
	lay(row[at:], w.open<<(64-w.many%64))
	for x := w.full; x != nil; x = x.before {
		at -= 8
		lay(row[at:], x.bits)
	}
	return string(row)
}

// bytesOf is how many bytes that many bits need.
func bytesOf(many int) int {
	return (many + 7) / 8
}

// lay writes a word's bytes, as many as find room.
func lay(row []byte, u uint64) {
	for i := range min(8, len(row)) {
		row[i] = byte(u >> (56 - 8*i))
	}
}

// Read is a reader of bits.
func Read(s string, many int) (*Reader, api.Errno) {
	if many < 0 || many > 8*len(s) {
		return nil, api.ErrArg
	}
	own := strings.Clone(s[:bytesOf(many)]) // what is handed in is not kept
	return &Reader{given: true, text: own, many: many}, api.OK
}

// isNone tells of a reader that is nil, or that Read did not give.
func (r *Reader) isNone() bool {
	return r == nil || !r.given
}

// Get reads a number.
func (r *Reader) Get(many int) (uint64, api.Errno) {
	if r.isNone() {
		return 0, api.ErrNil
	}
	if !rightMany(many) {
		return 0, api.ErrArg
	}
	if r.Left() < many {
		return 0, api.ErrShort
	}
	return gather(many, r.getBit), api.OK
}

func (r *Reader) getBit() uint64 {
	bit := r.text[r.at/8] >> (7 - r.at%8) & 1
	r.at++
	return uint64(bit)
}

// Left is how many bits are left.
func (r *Reader) Left() int {
	if r.isNone() {
		return 0
	}
	return r.many - r.at
}

// Seek stands behind some bits.
func (r *Reader) Seek(at int) api.Errno {
	if r.isNone() {
		return api.ErrNil
	}
	if at < 0 || at > r.many {
		return api.ErrArg
	}
	r.at = at
	return api.OK
}
