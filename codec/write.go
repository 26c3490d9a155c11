package codec

import (
	"wavelet/api"
	"wavelet/bytes"
	"wavelet/canvas"
	"wavelet/color"
	"wavelet/dwt"
	"wavelet/packet"
	"wavelet/tier"
)

// sot returns the segments that stand before the packets of a tile; size is the number of bytes of the whole tile.
func sot(number, size int) []byte {
	return fields([]field{{2, 0xFF90}, {2, 10}, {2, number}, {4, size}, {1, 0}, {1, 1}, {2, 0xFF93}})
}

// sop returns the segment that stands before a packet.
func sop(number int) []byte {
	return fields([]field{{2, 0xFF91}, {2, 4}, {2, number}})
}

func eph() []byte {
	return fields([]field{{2, 0xFF92}})
}

func eoc() []byte {
	return fields([]field{{2, 0xFFD9}})
}

// field is a number of so many bytes.
type field struct{ size, n int }

func fields(l []field) []byte {
	var b []byte
	for _, f := range l {
		b = append(b, bytes.Put(nil, f.size, f.n)...)
	}
	return b
}

// writer is a tile on its way out.
type writer struct {
	*tile
}

// fill transforms the samples of the tile and codes all blocks.
func (w *writer) fill() {
	samples := each(w.m.Comps, func(c api.Comp) []int {
		all := plane[int]{canvas.Part(whole(w.m), c.Dx, c.Dy), c.Data}
		return color.Shift(c.Depth, c.Signed, all.window(canvas.Part(w.rect, c.Dx, c.Dy)))
	})
	if w.p.Rct {
		samples[0], samples[1], samples[2] = color.Turn(samples[0], samples[1], samples[2])
	}
	for comp, l := range samples {
		for i, v := range dwt.Split(w.part(comp), w.p.Levels, l) {
			w.planes[comp][i].items = v
		}
	}
	for _, a := range w.areas {
		for k, r := range a.blocks {
			v := w.planes[a.comp][a.plane].window(r)
			// No block is refused: the samples of a valid picture become no number that is too great.
			x, _ := tier.Encode(r.X1-r.X0, r.Y1-r.Y0, a.kind, w.p.Style, v)
			a.Add(k, x)
		}
	}
}

// bytes returns the tile with this number.
func (w *writer) bytes(number int) []byte {
	var body []byte
	n := 0
	for key, l := range w.packets() {
		head, data := packet.Encode(bands(l), w.p.Style, w.p.Layers, key.Layer)
		if w.p.Sop {
			body = append(body, sop(n)...)
		}
		body = append(body, head...)
		if w.p.Eph {
			body = append(body, eph()...)
		}
		body = append(body, data...)
		n++
	}
	return append(sot(number, len(sot(0, 0))+len(body)), body...)
}
