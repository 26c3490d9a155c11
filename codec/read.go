package codec

import (
	"slices"

	"wavelet/api"
	"wavelet/bytes"
	"wavelet/canvas"
	"wavelet/color"
	"wavelet/dwt"
	"wavelet/packet"
	"wavelet/tier"
)

// reader is a tile on its way in.
type reader struct {
	*tile
	layers int // that are decoded
}

// take reads the packets of the tile with this number from the beginning of b, and returns how many bytes it has.
func (r *reader) take(number int, b []byte) (int, bool) {
	before := len(sot(0, 0))
	if len(b) < before {
		return 0, false
	}
	size := bytes.New(b[6:10]).Get(4)
	if size < before || size > len(b) || !slices.Equal(b[:before], sot(number, size)) {
		return 0, false
	}
	return size, r.body(b[before:size])
}

// body reads all packets of the tile, which have these bytes and no others.
func (r *reader) body(b []byte) bool {
	n := 0
	for key, l := range r.packets() {
		if r.p.Sop {
			mark := sop(n)
			if len(b) < len(mark) || !slices.Equal(b[:len(mark)], mark) {
				return false
			}
			b = b[len(mark):]
		}
		size, e := packet.Decode(bands(l), r.p.Style, key.Layer, b, r.p.Eph)
		if e != api.OK {
			return false
		}
		b = b[size:]
		if key.Layer == r.layers-1 {
			count(l)
		}
		n++
	}
	return len(b) == 0
}

// count keeps how many passes the blocks of a precinct have up to here.
func count(l []*area) {
	for _, a := range l {
		for k := range a.passes {
			a.passes[k] = len(a.Block(k).Passes)
		}
	}
}

// decode puts the samples of the tile into the picture.
func (r *reader) decode(out api.Image, less int) bool {
	if !r.values() {
		return false
	}
	samples := make([][]int, len(out.Comps))
	for comp, l := range r.planes {
		planes := each(l, func(p plane[int]) []int { return p.items })
		samples[comp] = dwt.Join(r.part(comp), r.p.Levels, planes, r.p.Levels+1-less)
	}
	if r.p.Rct {
		samples[0], samples[1], samples[2] = color.Back(samples[0], samples[1], samples[2])
	}
	for comp, c := range out.Comps {
		all := plane[int]{canvas.Part(whole(out), c.Dx, c.Dy), c.Data}
		all.put(canvas.Part(r.rect, c.Dx, c.Dy), color.Unshift(c.Depth, c.Signed, samples[comp]))
	}
	return true
}

// values decodes all blocks.
func (r *reader) values() bool {
	for _, a := range r.areas {
		for k, place := range a.blocks {
			v, e := tier.Decode(place.X1-place.X0, place.Y1-place.Y0, a.kind, r.p.Style, a.Block(k), a.passes[k])
			if e != api.OK {
				return false
			}
			r.planes[a.comp][a.plane].put(place, v)
		}
	}
	return true
}
