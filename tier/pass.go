package tier

import (
	"wavelet/api"
	"wavelet/ctx"
	"wavelet/mq"
	"wavelet/passrule"
	"wavelet/raw"
	"wavelet/scan"
)

const (
	runs  = 17 // the context of columns without a significant place
	evens = 18 // the context of bits that are 0 as often as 1
)

// symbols are what bits are coded by. A writer writes the bit that it is given, and returns it; a reader returns the bit that it reads.
type symbols interface {
	code(k, bit int) int
}

type mqWriter struct {
	*mq.Encoder
	cx *mq.Ctx
}

func (w mqWriter) code(k, bit int) int {
	w.Encode(w.cx, k, bit)
	return bit
}

type mqReader struct {
	*mq.Decoder
	cx *mq.Ctx
}

func (r mqReader) code(k, bit int) int {
	return r.Decode(r.cx, k)
}

type rawWriter struct {
	*raw.Writer
}

func (w rawWriter) code(k, bit int) int {
	w.Bit(bit)
	return bit
}

type rawReader struct {
	*raw.Reader
}

func (r rawReader) code(k, bit int) int {
	return r.Bit()
}

// course is a block on its way through its passes.
type course struct {
	*field
	style, planes int
	cx            mq.Ctx
}

func newCourse(w, h, band, style, planes int) *course {
	return &course{field: newField(w, h, band, style), style: style, planes: planes, cx: mq.Fresh()}
}

// pass is one pass over a block, written or read by S.
type pass[S symbols] struct {
	*course
	by    S
	plane int
	raw   bool
}

// code codes pass k of a block.
func code[S symbols](c *course, by S, k int) {
	if c.style&api.Reset != 0 {
		c.cx = mq.Fresh()
	}
	p := pass[S]{c, by, passrule.Plane(c.planes, k), passrule.Raw(c.style, k)}
	switch passrule.KindOf(k) {
	case passrule.Significance:
		p.significance()
	case passrule.Refinement:
		p.refinement()
	default:
		p.cleanup()
	}
}

func (p *pass[S]) significance() {
	for x, y := range scan.All(p.w, p.h) {
		c := p.at(x, y)
		if c.on == 1 {
			continue
		}
		if k := p.zero(x, y); k != 0 {
			p.bit(x, y, k)
			c.visited = true
		}
	}
}

func (p *pass[S]) refinement() {
	for x, y := range scan.All(p.w, p.h) {
		c := p.at(x, y)
		if c.on == 0 || c.visited {
			continue
		}
		h, v, d := p.around(x, y)
		k := ctx.Refine(!c.refined, h+v+d)
		c.mag |= p.by.code(k, p.wanted(c)) << p.plane
		c.refined = true
	}
}

func (p *pass[S]) cleanup() {
	done := 0 // places at the top of the column that are coded as a run
	for x, y := range scan.All(p.w, p.h) {
		if y%stripe == 0 {
			done = p.run(x, y)
		}
		if y%stripe < done {
			continue
		}
		c := p.at(x, y)
		if c.on == 0 && !c.visited {
			p.bit(x, y, p.zero(x, y))
		}
		c.visited = false
	}
	if p.style&api.Symbols != 0 {
		for _, bit := range []int{1, 0, 1, 0} {
			p.by.code(evens, bit)
		}
	}
}

// run codes the zeros at the top of a column at once, with the first place behind them, and returns how many places these are: none if the column is not one of those.
func (p *pass[S]) run(x, top int) int {
	if !p.quiet(x, top) {
		return 0
	}
	zeros := 0
	for zeros < stripe && p.wanted(p.at(x, top+zeros)) == 0 {
		zeros++
	}
	broken := 0
	if zeros < stripe {
		broken = 1
	}
	if p.by.code(runs, broken) == 0 {
		return stripe
	}
	first := p.by.code(evens, zeros>>1) << 1
	first |= p.by.code(evens, zeros&1)
	p.become(x, top+first)
	return first + 1
}

// quiet tells whether a column has four places, all of them insignificant, unvisited and with the zero context 0.
func (p *pass[S]) quiet(x, top int) bool {
	if top+stripe > p.h {
		return false
	}
	for y := top; y < top+stripe; y++ {
		c := p.at(x, y)
		if c.on == 1 || c.visited || p.zero(x, y) != 0 {
			return false
		}
	}
	return true
}

// bit codes the bit of a place that is not significant.
func (p *pass[S]) bit(x, y, k int) {
	if p.by.code(k, p.wanted(p.at(x, y))) == 1 {
		p.become(x, y)
	}
}

// become makes a place significant and codes its sign.
func (p *pass[S]) become(x, y int) {
	c := p.at(x, y)
	k, turn := ctx.Sign(p.leaning(x, y))
	if p.raw {
		turn = 0
	}
	c.sign = p.by.code(k, c.wantSign^turn) ^ turn
	c.mag |= 1 << p.plane
	c.on = 1
}

// wanted is the bit of the plane that is to be written.
func (p *pass[S]) wanted(c *place) int {
	return c.want >> p.plane & 1
}
