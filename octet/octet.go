// Package octet is layer 2: fields of one to eight bytes, the highest one first (see shared/doc/02-octet.md).
package octet

import (
	"bytes"

	"clerestory/fit"
)

const (
	leastSize    = 1
	greatestSize = 8
	bitsOfByte   = 8
)

// fieldSize is what a field's size counts as. Writer and Reader both go by it, so that what is put is got by the same size.
func fieldSize(size int) int {
	return min(max(size, leastSize), greatestSize)
}

// Writer is fields that are written. The zero Writer has no bytes.
type Writer struct {
	done []byte
}

// Put writes the lowest size bytes of a number.
func (w *Writer) Put(n uint64, size int) {
	for place := fieldSize(size) - 1; place >= 0; place-- {
		w.done = append(w.done, byte(n>>(place*bitsOfByte)))
	}
}

// Int writes the lowest size bytes of a number of either kind, in two's complement.
func (w *Writer) Int(n int64, size int) {
	w.Put(uint64(n), size)
}

// Raw writes bytes as they are.
func (w *Writer) Raw(b []byte) {
	w.done = append(w.done, b...)
}

// Done is a copy of all that was written.
func (w *Writer) Done() []byte {
	return bytes.Clone(w.done)
}

// Reader is fields that are read.
type Reader struct {
	left []byte
	bad  bool
}

// Open is a reader of a copy of bytes.
func Open(b []byte) *Reader {
	return &Reader{left: bytes.Clone(b)}
}

// next is the next n bytes, or none from the first time on that there aren't as many.
func (r *Reader) next(n int) []byte {
	if r.bad || n > len(r.left) {
		r.bad = true
		return nil
	}
	// The piece has no room beyond its end: an append to it can't write over what isn't read yet.
	piece := r.left[:n:n]
	r.left = r.left[n:]
	return piece
}

// Get reads the next size bytes as a number.
func (r *Reader) Get(size int) uint64 {
	var n uint64
	for _, b := range r.next(fieldSize(size)) {
		n = n<<bitsOfByte | uint64(b)
	}
	return n
}

// Int reads the next size bytes as a number in two's complement.
func (r *Reader) Int(size int) int64 {
	return fit.Sign(r.Get(size), fieldSize(size)*bitsOfByte)
}

// Raw reads the next n bytes; fewer than none count as none.
func (r *Reader) Raw(n int) []byte {
	return bytes.Clone(r.next(max(n, 0)))
}

// Rest reads all that is left.
func (r *Reader) Rest() []byte {
	return r.Raw(len(r.left))
}

// Left is how many bytes are left.
func (r *Reader) Left() int {
	return len(r.left)
}

// Bad tells whether more was asked for than there was.
func (r *Reader) Bad() bool {
	return r.bad
}
