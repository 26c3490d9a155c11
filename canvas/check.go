package canvas

import (
	"cmp"

	"wavelet/api"
)

const (
	maxStep  = 4       // of a component's samples
	maxTile  = 1 << 16 // side of a tile
	maxStyle = api.Bypass | api.Reset | api.TermAll | api.Causal | api.Predict | api.Symbols
)

// Frame checks a picture and params, all but the samples.
func Frame(m api.Image, p api.Params) api.Errno {
	if e := checkGrid(m); e != api.OK {
		return e
	}
	if len(m.Comps) < 1 || len(m.Comps) > api.MaxComps {
		return api.ErrMany
	}
	for _, c := range m.Comps {
		if !within(c.Depth, 1, api.MaxDepth) || !within(c.Dx, 1, maxStep) || !within(c.Dy, 1, maxStep) {
			return api.ErrArg
		}
	}
	if e := checkTiles(m, p); e != api.OK {
		return e
	}
	if e := checkCoding(p); e != api.OK {
		return e
	}
	if p.Rct && !alike(m.Comps) {
		return api.ErrKind
	}
	return api.OK
}

// Check checks a picture and params.
func Check(m api.Image, p api.Params) api.Errno {
	if e := Frame(m, p); e != api.OK {
		return e
	}
	whole := api.Rect{X0: m.Ox, Y0: m.Oy, X1: m.X, Y1: m.Y}
	for _, c := range m.Comps {
		if e := checkSamples(c, Part(whole, c.Dx, c.Dy)); e != api.OK {
			return e
		}
	}
	return api.OK
}

func checkGrid(m api.Image) api.Errno {
	if m.Ox < 0 || m.Oy < 0 || m.X <= m.Ox || m.Y <= m.Oy {
		return api.ErrArg
	}
	if m.X > api.MaxSide || m.Y > api.MaxSide {
		return api.ErrLimit
	}
	return api.OK
}

func checkTiles(m api.Image, p api.Params) api.Errno {
	if p.Tx <= m.Ox || p.Tx > maxTile || p.Ty <= m.Oy || p.Ty > maxTile {
		return api.ErrArg
	}
	if ceil(m.X, p.Tx)*ceil(m.Y, p.Ty) > api.MaxTiles {
		return api.ErrLimit
	}
	return api.OK
}

// checkCoding checks the params that hold whatever the picture is.
func checkCoding(p api.Params) api.Errno {
	switch {
	case !within(p.Levels, 0, api.MaxLevels), !checkCuts(p):
		return api.ErrArg
	case !within(p.Style, 0, maxStyle), !within(p.Order, api.LRCP, api.CPRL), !within(p.Layers, 1, api.MaxLayers):
		return api.ErrArg
	}
	return api.OK
}

// checkCuts tells whether code-blocks and precincts have sides that are allowed.
func checkCuts(p api.Params) bool {
	return within(p.Cbw, 2, 6) && within(p.Cbh, 2, 6) && within(p.Prec, 1, 15)
}

// alike tells whether there are three components to be turned.
func alike(l []api.Comp) bool {
	if len(l) < 3 {
		return false
	}
	a := l[0]
	for _, b := range l[1:3] {
		if a.Depth != b.Depth || a.Signed != b.Signed || a.Dx != b.Dx || a.Dy != b.Dy {
			return false
		}
	}
	return true
}

// checkSamples checks the samples of a component whose part of the picture is r.
func checkSamples(c api.Comp, r api.Rect) api.Errno {
	if len(c.Data) != (r.X1-r.X0)*(r.Y1-r.Y0) {
		return api.ErrSize
	}
	least, most := 0, 1<<c.Depth-1
	if c.Signed {
		least, most = -1<<(c.Depth-1), 1<<(c.Depth-1)-1
	}
	for _, x := range c.Data {
		if !within(x, least, most) {
			return api.ErrOver
		}
	}
	return api.OK
}

func within[N cmp.Ordered](n, least, most N) bool {
	return least <= n && n <= most
}
