// Package pack: whole numbers as bytes, the lowest first, and back.
package pack

import (
	"lodge/api"
	"lodge/fault"
)

// How many bytes the numbers have.
const (
	Byte  = 1
	Two   = 2
	Four  = 4
	Eight = 8
)

// How a desc's first byte is made: how many dimensions, and this if it is wide.
const (
	wideFlag  = 8
	maxHeader = 15
)

// Append is b and, behind it, the lowest bytes of n, as many as size.
func Append(b []byte, size int, n int) []byte { return AppendBits(b, size, uint64(n)) }

// AppendBits is b and, behind it, the lowest bytes of n, as many as size.
func AppendBits(b []byte, size int, n uint64) []byte {
	for range size {
		b = append(b, byte(n))
		n >>= 8
	}
	return b
}

// AppendDesc is b and, behind it, what a tensor of 7 dimensions at most looks like.
func AppendDesc(b []byte, d api.Desc) []byte {
	header := len(d.Shape)
	if d.Wide {
		header += wideFlag
	}
	b = Append(b, Byte, header)
	for _, n := range d.Shape {
		b = Append(b, Two, n)
	}
	return b
}

// Reader reads bytes from their beginning on. Behind the first error it answers zeros.
type Reader struct {
	b   []byte
	at  int
	err error
}

// Read is a Reader of b.
func Read(b []byte) *Reader { return &Reader{b: b} }

// Err is the first error that there was.
func (r *Reader) Err() error { return r.err }

// At is the place of what is read next.
func (r *Reader) At() int { return r.at }

// Fail says that there was an error.
func (r *Reader) Fail(err error) {
	if r.err == nil {
		r.err = err
	}
}

// Rest is what was not read yet: a piece of the memory that is read.
func (r *Reader) Rest() []byte {
	if r.err != nil {
		return nil
	}
	return r.b[r.at:]
}

// Piece reads n bytes: a piece of the memory that is read.
func (r *Reader) Piece(n int) []byte {
	if n > len(r.b)-r.at {
		r.Fail(api.ErrEnd)
	}
	if r.err != nil {
		return nil
	}
	r.at += n
	return r.b[r.at-n : r.at]
}

// Bits reads a number of so many bytes.
func (r *Reader) Bits(size int) uint64 {
	var n uint64
	for i, x := range r.Piece(size) {
		n |= uint64(x) << (8 * i)
	}
	return n
}

// Number reads a number of four bytes or less.
func (r *Reader) Number(size int) int { return int(r.Bits(size)) }

// Signed reads a number of four bytes that may be below 0.
func (r *Reader) Signed() int { return int(int32(r.Bits(Four))) }

// Count reads a number of so many bytes; one above most is an error around its place.
func (r *Reader) Count(size, most int, err error) int {
	at := r.at
	n := r.Number(size)
	if n > most {
		r.Fail(fault.At(at, err))
		return 0
	}
	return n
}

// Desc reads what AppendDesc wrote; a first byte that is none is an ErrKind around its place.
func (r *Reader) Desc() api.Desc {
	header := r.Count(Byte, maxHeader, api.ErrKind)
	d := api.Desc{Wide: header >= wideFlag}
	for range header % wideFlag {
		d.Shape = append(d.Shape, r.Number(Two))
	}
	return d
}

// Took says that somebody read n bytes of Rest, and with which error: but for an early end it stands around the place.
func (r *Reader) Took(n int, err error, place int) {
	switch {
	case err == api.ErrEnd:
		r.Fail(err)
	case err != nil:
		r.Fail(fault.At(place, err))
	default:
		r.Piece(n)
	}
}

// End says that nothing may stand behind what was read.
func (r *Reader) End() {
	if len(r.Rest()) > 0 {
		r.Fail(fault.At(r.at, api.ErrMany))
	}
}
