package packet

import (
	"math"

	"wavelet/api"
	"wavelet/bits"
	"wavelet/layers"
	"wavelet/passrule"
	"wavelet/tier"
)

// reader is a packet on its way in.
type reader struct {
	*bits.Reader
	style, layer int
	news         []news
}

// news is what a header says of one block: how many passes its new pieces have, and how many bytes.
type news struct {
	*cell
	counts, sizes []int
}

// Decode reads a packet from the beginning of b, and returns how many bytes it has.
func Decode(l []*Band, style int, layer int, b []byte, eph bool) (n int, e api.Errno) {
	r := &reader{Reader: bits.NewReader(b[:min(len(b), longest(l, layer))]), style: style, layer: layer}
	if !r.head(l) {
		return 0, api.ErrBad
	}
	if n, e = r.End(); e != api.OK {
		return 0, e
	}
	if eph {
		if len(b)-n < 2 {
			return 0, api.ErrCut
		}
		if b[n] != 255 || b[n+1] != 0x92 {
			return 0, api.ErrMark
		}
		n += 2
	}
	body := 0
	for _, x := range r.news {
		for _, size := range x.sizes {
			body += size
		}
	}
	if body > len(b)-n {
		return 0, api.ErrCut
	}
	r.body(b[n : n+body])
	return n + body, api.OK
}

// longest returns a number of bytes that no header of these Bands exceeds, so that no more of what follows is handed on.
func longest(l []*Band, layer int) int {
	if layer < 0 || layer > maxLayers {
		return math.MaxInt
	}
	const perBlock = 1 + 16 + maxLblock + 3*blockPlanes*32 // whether it is there, number of passes, Lblock, lengths
	n := 1
	for _, b := range l {
		blocks := len(b.items)
		nodes := 2*blocks + 7 // of one of the trees
		n += blocks*perBlock + nodes*(layer+2+b.planes+2)
	}
	return n/7 + 3
}

// head reads the header.
func (r *reader) head(l []*Band) bool {
	if r.Bit() == 0 {
		return true
	}
	for b, k := range cells(l) {
		if !r.block(b, k) {
			return false
		}
	}
	return true
}

// block reads what the header says of a block.
func (r *reader) block(b *Band, k int) bool {
	c := &b.items[k]
	fresh := len(c.Passes) == 0
	if !r.included(b, k, fresh) {
		return true
	}
	if fresh {
		c.Planes = r.planes(b, k)
		if c.Planes < 1 || c.Planes > blockPlanes {
			return false
		}
	}
	from := len(c.Passes)
	to := from + r.number()
	if to > passrule.Total(c.Planes) {
		return false
	}
	for r.Bit() == 1 {
		c.lblock++
		if c.lblock > maxLblock {
			return false
		}
	}
	x := news{cell: c}
	x.counts, _ = layers.Segments(r.style, from, to, make([]int, to))
	for _, n := range x.counts {
		x.sizes = append(x.sizes, r.Bits(c.room(n)))
	}
	r.news = append(r.news, x)
	return true
}

// included reads whether a block has new passes.
func (r *reader) included(b *Band, k int, fresh bool) bool {
	if fresh {
		return b.inclusion.Decode(r.Reader, k, r.layer+1)
	}
	return r.Bit() == 1
}

// planes reads how many planes a block has; 0 if all of the Band's are missing.
func (r *reader) planes(b *Band, k int) int {
	for bound := range b.planes {
		if b.missing.Decode(r.Reader, k, bound+1) {
			return b.planes - b.missing.Known(k)
		}
	}
	return 0
}

// number reads the number of new passes.
func (r *reader) number() int {
	if r.Bit() == 0 {
		return 1
	}
	if r.Bit() == 0 {
		return 2
	}
	if n := r.Bits(2); n < 3 {
		return 3 + n
	}
	if n := r.Bits(5); n < 31 {
		return 6 + n
	}
	return 37 + r.Bits(7)
}

// body gives the blocks their new passes and bytes.
func (r *reader) body(b []byte) {
	for _, x := range r.news {
		for i, size := range x.sizes {
			x.Bytes = append(x.Bytes, b[:size]...)
			b = b[size:]
			for range x.counts[i] {
				x.Passes = append(x.Passes, tier.Pass{End: len(x.Bytes), Term: layers.Ends(r.style, len(x.Passes))})
			}
		}
	}
}
