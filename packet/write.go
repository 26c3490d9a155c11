package packet

import (
	mathbits "math/bits"

	"wavelet/bits"
	"wavelet/layers"
)

// writer is a packet on its way out.
type writer struct {
	*bits.Writer
	style, count, layer int // count is that of all layers
	body                []byte
}

// Encode returns the header and the body of the packet of one layer.
func Encode(l []*Band, style, layers, layer int) (head, body []byte) {
	if layers > maxLayers {
		return nil, nil
	}
	w := &writer{Writer: bits.NewWriter(), style: style, count: layers, layer: layer}
	if !w.anything(l) {
		w.Bit(0)
		return w.Bytes(), nil
	}
	w.Bit(1)
	for b, k := range cells(l) {
		b.number(layers)
		w.block(b, k)
	}
	return w.Bytes(), w.body
}

// anything tells whether a block has new passes.
func (w *writer) anything(l []*Band) bool {
	for b, k := range cells(l) {
		if from, to := b.items[k].span(w.count, w.layer); from < to {
			return true
		}
	}
	return false
}

// block writes what the header says of a block, and adds its bytes to the body.
func (w *writer) block(b *Band, k int) {
	c := &b.items[k]
	from, to := c.span(w.count, w.layer)
	if from == 0 {
		b.inclusion.Encode(w.Writer, k, w.layer+1)
	} else if from < to {
		w.Bit(1)
	} else {
		w.Bit(0)
	}
	if from >= to {
		return
	}
	if from == 0 {
		for bound := range b.lacks(c) + 1 {
			b.missing.Encode(w.Writer, k, bound+1)
		}
	}
	w.number(to - from)
	w.lengths(c, from, to)
	if begin, end := c.begin(from), c.begin(to); begin >= 0 && begin <= end && end <= len(c.Bytes) {
		w.body = append(w.body, c.Bytes[begin:end]...)
	}
}

// number writes the number of new passes.
func (w *writer) number(n int) {
	switch {
	case n == 1:
		w.Bits(0, 1)
	case n == 2:
		w.Bits(2, 2)
	case n <= 5:
		w.Bits(3, 2)
		w.Bits(n-3, 2)
	case n <= 36:
		w.Bits(15, 4)
		w.Bits(n-6, 5)
	default:
		w.Bits(511, 9)
		w.Bits(n-37, 7)
	}
}

// lengths writes how many bytes the pieces of the new passes have.
func (w *writer) lengths(c *cell, from, to int) {
	ends := make([]int, to)
	for k := range ends {
		ends[k] = c.Passes[k].End
	}
	passes, bytes := layers.Segments(w.style, from, to, ends)
	for i, n := range bytes {
		for mathbits.Len(uint(n)) > c.room(passes[i]) {
			w.Bit(1)
			c.lblock++
		}
	}
	w.Bit(0)
	for i, n := range bytes {
		w.Bits(n, c.room(passes[i]))
	}
}
