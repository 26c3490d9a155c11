package codec

import (
	"iter"

	"wavelet/api"
	"wavelet/canvas"
	"wavelet/order"
	"wavelet/packet"
)

// plane is a rectangle of elements, row by row.
type plane[T any] struct {
	api.Rect
	items []T
}

// row returns what a row of the plane has of a rectangle within it.
func (p plane[T]) row(r api.Rect, y int) []T {
	from := (y-p.Y0)*(p.X1-p.X0) - p.X0
	return p.items[from+r.X0 : from+r.X1]
}

// window returns a copy of a rectangle within the plane.
func (p plane[T]) window(r api.Rect) []T {
	var l []T
	for y := r.Y0; y < r.Y1; y++ {
		l = append(l, p.row(r, y)...)
	}
	return l
}

// put replaces a rectangle within the plane.
func (p plane[T]) put(r api.Rect, l []T) {
	for y := r.Y0; y < r.Y1; y++ {
		n := copy(p.row(r, y), l)
		l = l[n:]
	}
}

// area is a precinct's part of a band.
type area struct {
	*packet.Band
	comp, plane int        // the band's component, and its number among the bands of that
	kind        int        // of the band
	blocks      []api.Rect // within the band
	passes      []int      // of each block, that are to be decoded
}

// tile is a tile with the samples of its bands, by component, and with its precincts, by their Keys in layer 0.
type tile struct {
	rect      api.Rect
	m         api.Image
	p         api.Params
	planes    [][]plane[int]
	areas     []*area
	precincts map[order.Key][]*area
}

func newTile(rect api.Rect, m api.Image, p api.Params) *tile {
	t := &tile{rect: rect, m: m, p: p, planes: make([][]plane[int], len(m.Comps)), precincts: map[order.Key][]*area{}}
	for comp := range m.Comps {
		for res := range p.Levels + 1 {
			kinds, rects := canvas.Bands(t.part(comp), p.Levels, res)
			for i, r := range rects {
				t.cut(order.Key{Res: res, Comp: comp}, kinds[i], r)
				t.planes[comp] = append(t.planes[comp], plane[int]{r, make([]int, size(r))})
			}
		}
	}
	return t
}

// part is what a component has of the tile.
func (t *tile) part(comp int) api.Rect {
	return canvas.Part(t.rect, t.m.Comps[comp].Dx, t.m.Comps[comp].Dy)
}

// cut divides the next band of a component among the precincts of its resolution.
func (t *tile) cut(key order.Key, kind int, band api.Rect) {
	res := canvas.Resolution(t.part(key.Comp), t.p.Levels, key.Res)
	wide, high := canvas.Precincts(res, t.p.Prec)
	for k := range wide * high {
		key.Prec = k
		blocks, columns := canvas.Blocks(band, res, t.p, key.Res, k)
		rows := 0
		if columns > 0 {
			rows = len(blocks) / columns
		}
		a := &area{
			Band:   packet.NewBand(columns, rows, t.depth(kind)+2),
			comp:   key.Comp,
			plane:  len(t.planes[key.Comp]),
			kind:   kind,
			blocks: blocks,
			passes: make([]int, len(blocks)),
		}
		t.areas = append(t.areas, a)
		t.precincts[key] = append(t.precincts[key], a)
	}
}

// depth is how many bits the samples of a band take.
func (t *tile) depth(kind int) int {
	bits := 0
	for _, c := range t.m.Comps {
		bits = max(bits, c.Depth)
	}
	if t.p.Rct {
		bits++
	}
	switch kind {
	case api.HL, api.LH:
		return bits + 1
	case api.HH:
		return bits + 2
	}
	return bits
}

// packets yields the packets of the tile in order, and the areas of the precinct of each.
func (t *tile) packets() iter.Seq2[order.Key, []*area] {
	return func(yield func(order.Key, []*area) bool) {
		for key := range order.All(t.rect, t.m, t.p) {
			first := key
			first.Layer = 0
			if !yield(key, t.precincts[first]) {
				return
			}
		}
	}
}

// bands returns what the packets of a precinct are coded by.
func bands(l []*area) []*packet.Band {
	return each(l, func(a *area) *packet.Band { return a.Band })
}

// each returns what f makes of the elements of a list.
func each[T, U any](l []T, f func(T) U) []U {
	out := make([]U, len(l))
	for i, x := range l {
		out[i] = f(x)
	}
	return out
}

func size(r api.Rect) int {
	return (r.X1 - r.X0) * (r.Y1 - r.Y0)
}
