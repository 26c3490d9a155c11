// Package bytes reads and writes fields: numbers in a fixed number of bytes, the most significant byte first. See doc/01-bytes.md.
package bytes

import (
	"slices"

	"wavelet/api"
)

const widest = 8 // bytes of a field

// Put returns b followed by the size least significant bytes of n; a size that no field has adds nothing.
func Put(b []byte, size, n int) []byte {
	l := slices.Clone(b)
	if !isSize(size) {
		return l
	}
	for i := size - 1; i >= 0; i-- {
		l = append(l, byte(n>>(8*i)))
	}
	return l
}

// Reader reads fields, and keeps the first error.
type Reader struct {
	rest  []byte
	fault api.Errno
}

// New returns a Reader of b.
func New(b []byte) *Reader {
	return &Reader{rest: slices.Clone(b)}
}

// Get reads a field. One of eight bytes is in two's complement.
func (r *Reader) Get(size int) int {
	if !r.may(isSize(size), size) {
		return 0
	}
	return int(fold(size, r.next, 0, join))
}

// Take reads the next n bytes.
func (r *Reader) Take(n int) []byte {
	if !r.may(n >= 0, n) {
		return nil
	}
	return fold(n, r.next, []byte(nil), add)
}

// Left returns how many bytes are left, none behind an error.
func (r *Reader) Left() int {
	if r.fault != api.OK {
		return 0
	}
	return len(r.rest)
}

// Fail sets the error, unless there is one.
func (r *Reader) Fail(e api.Errno) {
	if r.fault == api.OK {
		r.fault = e
	}
}

// End returns the error, and ErrMore if there is none but bytes are left.
func (r *Reader) End() api.Errno {
	if r.fault == api.OK && len(r.rest) > 0 {
		return api.ErrMore
	}
	return r.fault
}

// may tells whether n bytes can be read now, and keeps the error if they can't.
func (r *Reader) may(allowed bool, n int) bool {
	if !allowed {
		r.Fail(api.ErrArg)
	} else if n > len(r.rest) {
		r.Fail(api.ErrCut)
	}
	return r.fault == api.OK
}

// next takes one byte; may has told that it is there.
func (r *Reader) next() byte {
	x := r.rest[0]
	r.rest = r.rest[1:]
	return x
}

func isSize(size int) bool {
	return size >= 1 && size <= widest
}

// fold puts n bytes, one after the other, to what came of those before them.
func fold[T any](n int, next func() byte, start T, step func(T, byte) T) T {
	for range n {
		start = step(start, next())
	}
	return start
}

func join(n uint64, x byte) uint64 {
	return n<<8 | uint64(x)
}

func add(l []byte, x byte) []byte {
	return append(l, x)
}
