package tier

import (
	"wavelet/api"
	"wavelet/ctx"
)

const stripe = 4 // rows that are scanned together

// place is what is known of a place of the block.
type place struct {
	want, wantSign int  // to be written: a magnitude and a sign; 0 where a block is read
	mag, sign      int  // what has been coded of them
	on             int  // 1 if the place is significant
	visited        bool // in this plane
	refined        bool // in any plane
}

// field has the places of a block, with a border around them in which nothing is ever significant.
type field struct {
	w, h, band int
	causal     bool
	places     []place
}

func newField(w, h, band, style int) *field {
	return &field{w: w, h: h, band: band, causal: style&api.Causal != 0, places: make([]place, (w+2)*(h+2))}
}

// stride is how far a place is from the one below it.
func (f *field) stride() int {
	return f.w + 2
}

func (f *field) index(x, y int) int {
	return (y+1)*f.stride() + x + 1
}

func (f *field) at(x, y int) *place {
	return &f.places[f.index(x, y)]
}

// looksDown tells whether the places below a row are neighbours of its places.
func (f *field) looksDown(y int) bool {
	return !f.causal || y%stripe != stripe-1
}

// around counts the significant neighbours of a place: beside it, above and below it, at its corners.
func (f *field) around(x, y int) (h, v, d int) {
	i := f.index(x, y)
	up, down := i-f.stride(), i+f.stride()
	h = f.places[i-1].on + f.places[i+1].on
	v = f.places[up].on
	d = f.places[up-1].on + f.places[up+1].on
	if f.looksDown(y) {
		v += f.places[down].on
		d += f.places[down-1].on + f.places[down+1].on
	}
	return h, v, d
}

// zero is the zero context of a place.
func (f *field) zero(x, y int) int {
	h, v, d := f.around(x, y)
	return ctx.Zero(f.band, h, v, d)
}

// leaning is what the signs of the neighbours say, across and down.
func (f *field) leaning(x, y int) (h, v int) {
	i := f.index(x, y)
	h = f.lean(i-1) + f.lean(i+1)
	v = f.lean(i - f.stride())
	if f.looksDown(y) {
		v += f.lean(i + f.stride())
	}
	return limit(h), limit(v)
}

// lean is 1 for a significant place without a sign, -1 for one with a sign, and 0 for any other place.
func (f *field) lean(i int) int {
	p := &f.places[i]
	return p.on * (1 - 2*p.sign)
}

func limit(n int) int {
	return max(-1, min(1, n))
}

// fill gives the values that are to be written.
func (f *field) fill(v []int) {
	for i, n := range v {
		p := f.at(i%f.w, i/f.w)
		p.want = n
		if n < 0 {
			p.want, p.wantSign = -n, 1
		}
	}
}

// values returns what has been coded, row by row.
func (f *field) values() []int {
	v := make([]int, f.w*f.h)
	for i := range v {
		p := f.at(i%f.w, i/f.w)
		v[i] = p.mag * (1 - 2*p.sign)
	}
	return v
}
