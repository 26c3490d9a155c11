package marks

import (
	"slices"

	"wavelet/api"
	"wavelet/bytes"
	"wavelet/canvas"
)

// parser reads the segments of a main header.
type parser struct {
	*bytes.Reader
	head     Head
	contents map[int][]byte // by marker, as far as they are needed again
}

// Parse reads a main header, and returns the offset of the first tile.
func Parse(b []byte) (h Head, n int, e api.Errno) {
	p := &parser{Reader: bytes.New(b), contents: map[int][]byte{}}
	if p.Get(2) != soc {
		return Head{}, 0, api.ErrBad
	}
	marker := p.Get(2)
	if marker != siz {
		return Head{}, 0, api.ErrBad
	}
	for marker != sot {
		if e := p.segment(marker); e != api.OK {
			return Head{}, 0, e
		}
		marker = p.Get(2)
	}
	n = len(b) - p.Left() - 2
	if e := p.finish(); e != api.OK {
		return Head{}, 0, e
	}
	return p.head, n, api.OK
}

// segment reads what stands behind a marker.
func (p *parser) segment(marker int) api.Errno {
	if marker>>8 != 255 || !p.allows(marker) {
		return api.ErrBad
	}
	if marker >= 0xFF30 && marker <= 0xFF3F {
		return api.OK
	}
	content := p.Take(p.Get(2) - 2)
	if e := p.End(); e != api.OK && e != api.ErrMore {
		return api.ErrBad
	}
	if otherWay(marker, content) {
		return api.ErrWay
	}
	if !p.keep(marker, content) {
		return api.ErrBad
	}
	return api.OK
}

// allows tells whether a marker may stand where it does.
func (p *parser) allows(marker int) bool {
	switch marker {
	case soc, 0xFF91, 0xFF92, 0xFF93, 0xFFD9:
		return false
	case siz, cod, qcd:
		_, again := p.contents[marker]
		return !again
	}
	return true
}

// otherWay tells whether a segment says a way of coding that is not known here.
func otherWay(marker int, content []byte) bool {
	switch marker {
	case 0xFF53, 0xFF5D, 0xFF5E, 0xFF5F, 0xFF60, 0xFF61:
		return true
	case cod:
		return len(content) >= 10 && content[9] == 0
	case qcd:
		return len(content) >= 1 && content[0]&31 != 0
	}
	return false
}

// keep takes over what a segment says, and tells whether it is right.
func (p *parser) keep(marker int, content []byte) bool {
	switch marker {
	case siz:
		p.contents[siz] = content
		return p.size(content)
	case cod:
		p.contents[cod] = content
		return p.coding(content)
	case qcd:
		p.contents[qcd] = content
	case com:
		if len(content) < 2 {
			return false
		}
		p.head.Comment = content[2:]
	}
	return true
}

// size reads the content of FF51.
func (p *parser) size(content []byte) bool {
	r := bytes.New(content)
	zeros := r.Get(2)
	m := api.Image{X: r.Get(4), Y: r.Get(4), Ox: r.Get(4), Oy: r.Get(4)}
	p.head.P.Tx, p.head.P.Ty = r.Get(4), r.Get(4)
	zeros += r.Get(4) + r.Get(4)
	for range r.Get(2) {
		d := r.Get(1)
		m.Comps = append(m.Comps, api.Comp{Depth: d&^signBit + 1, Signed: d >= signBit, Dx: r.Get(1), Dy: r.Get(1)})
	}
	p.head.M = m
	return zeros == 0 && r.End() == api.OK
}

// coding reads the content of FF52.
func (p *parser) coding(content []byte) bool {
	r := bytes.New(content)
	marked := r.Get(1)
	q := &p.head.P
	q.Sop, q.Eph = marked&sopBit != 0, marked&ephBit != 0
	q.Order = r.Get(1)
	q.Layers = r.Get(2)
	turned := r.Get(1)
	q.Rct = turned == 1
	q.Levels = r.Get(1)
	q.Cbw, q.Cbh = r.Get(1)+2, r.Get(1)+2
	q.Style = r.Get(1)
	way := r.Get(1)
	precincts := r.Take(q.Levels + 1)
	if r.End() != api.OK {
		return false
	}
	prec := int(precincts[0])
	q.Prec = prec / precUnit
	others := slices.ContainsFunc(precincts, func(x byte) bool { return int(x) != prec })
	if others || prec%precUnit != 0 || prec == 0 {
		return false
	}
	return marked&1 == 1 && marked <= 7 && q.Layers >= 1 && q.Layers <= api.MaxLayers && turned <= 1 && q.Style <= 63 && way == reversible
}

// finish checks what only the whole header says.
func (p *parser) finish() api.Errno {
	_, coded := p.contents[cod]
	said, quantized := p.contents[qcd]
	if !coded || !quantized {
		return api.ErrBad
	}
	if e := canvas.Frame(p.head.M, p.head.P); e != api.OK {
		return e
	}
	if !slices.Equal(said, bands(p.head)) {
		return api.ErrBad
	}
	return api.OK
}
