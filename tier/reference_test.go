package tier

import (
	"math/bits"

	"wavelet/api"
	"wavelet/ctx"
	"wavelet/mq"
	"wavelet/raw"
)

// What follows goes through the passes by the chapter's words alone, with all values at hand, and notes what each pass codes.

type xy struct{ x, y int }

// coded is a bit in its context; turn is what a raw sign is not turned by.
type coded struct{ k, bit, turn int }

type tracer struct {
	w, h, band, style int
	v                 map[xy]int
	sig, seen, again  map[xy]bool
	out               []coded
	got               map[xy]int // magnitudes up to here
}

func magnitude(n int) int { return max(n, -n) }

func signOf(n int) int {
	if n < 0 {
		return 1
	}
	return 0
}

// neighbours lists the neighbours of a place by what they are: h, v or d.
func (t *tracer) neighbours(p xy) map[byte][]xy {
	l := map[byte][]xy{}
	for dy := -1; dy <= 1; dy++ {
		for dx := -1; dx <= 1; dx++ {
			q := xy{p.x + dx, p.y + dy}
			if q == p || q.x < 0 || q.y < 0 || q.x >= t.w || q.y >= t.h {
				continue
			}
			if dy == 1 && t.style&api.Causal != 0 && p.y/4 != q.y/4 {
				continue
			}
			kind := byte('d')
			if dy == 0 {
				kind = 'h'
			} else if dx == 0 {
				kind = 'v'
			}
			l[kind] = append(l[kind], q)
		}
	}
	return l
}

func (t *tracer) count(l []xy) (n int) {
	for _, q := range l {
		if t.sig[q] {
			n++
		}
	}
	return n
}

func (t *tracer) lean(l []xy) (n int) {
	for _, q := range l {
		if t.sig[q] {
			n += 1 - 2*signOf(t.v[q])
		}
	}
	return max(-1, min(1, n))
}

func (t *tracer) zero(p xy) int {
	l := t.neighbours(p)
	return ctx.Zero(t.band, t.count(l['h']), t.count(l['v']), t.count(l['d']))
}

func (t *tracer) sign(p xy, plane int) {
	l := t.neighbours(p)
	k, turn := ctx.Sign(t.lean(l['h']), t.lean(l['v']))
	t.out = append(t.out, coded{k, signOf(t.v[p]) ^ turn, turn})
	t.sig[p] = true
	t.got[p] |= 1 << plane
}

func (t *tracer) zeroBit(p xy, plane int) {
	bit := magnitude(t.v[p]) >> plane & 1
	t.out = append(t.out, coded{t.zero(p), bit, 0})
	if bit == 1 {
		t.sign(p, plane)
	}
}

// order lists all places in scan order.
func (t *tracer) order() (l []xy) {
	for s := 0; s < t.h; s += 4 {
		for x := 0; x < t.w; x++ {
			for y := s; y < min(s+4, t.h); y++ {
				l = append(l, xy{x, y})
			}
		}
	}
	return l
}

func (t *tracer) pass(k, plane int) {
	switch k % 3 {
	case 1:
		for _, p := range t.order() {
			if !t.sig[p] && t.zero(p) != 0 {
				t.zeroBit(p, plane)
				t.seen[p] = true
			}
		}
	case 2:
		for _, p := range t.order() {
			if t.sig[p] && !t.seen[p] {
				l := t.neighbours(p)
				bit := magnitude(t.v[p]) >> plane & 1
				t.out = append(t.out, coded{ctx.Refine(!t.again[p], t.count(l['h'])+t.count(l['v'])+t.count(l['d'])), bit, 0})
				t.got[p] |= bit << plane
				t.again[p] = true
			}
		}
	case 0:
		t.cleanup(plane)
	}
}

func (t *tracer) cleanup(plane int) {
	for s := 0; s < t.h; s += 4 {
		for x := 0; x < t.w; x++ {
			run := s+4 <= t.h
			first := 4
			for i := 3; i >= 0 && run; i-- {
				p := xy{x, s + i}
				run = !t.sig[p] && !t.seen[p] && t.zero(p) == 0
				if magnitude(t.v[p])>>plane&1 == 1 {
					first = i
				}
			}
			from := s
			if run && first == 4 {
				t.out = append(t.out, coded{17, 0, 0})
				continue
			}
			if run {
				t.out = append(t.out, coded{17, 1, 0}, coded{18, first >> 1, 0}, coded{18, first & 1, 0})
				t.sign(xy{x, s + first}, plane)
				from = s + first + 1
			}
			for y := from; y < min(s+4, t.h); y++ {
				if p := (xy{x, y}); !t.sig[p] && !t.seen[p] {
					t.zeroBit(p, plane)
				}
			}
		}
	}
	clear(t.seen)
	if t.style&api.Symbols != 0 {
		t.out = append(t.out, coded{18, 1, 0}, coded{18, 0, 0}, coded{18, 1, 0}, coded{18, 0, 0})
	}
}

func (t *tracer) values() []int {
	v := make([]int, t.w*t.h)
	for p, m := range t.got {
		v[p.y*t.w+p.x] = m * (1 - 2*signOf(t.v[p]))
	}
	return v
}

// trace returns the block of the values, and what they are after each number of passes.
func trace(w, h, band, style int, v []int) (Block, [][]int) {
	t := &tracer{w: w, h: h, band: band, style: style, v: map[xy]int{}, sig: map[xy]bool{}, seen: map[xy]bool{}, again: map[xy]bool{}, got: map[xy]int{}}
	most := 0
	for i, n := range v {
		t.v[xy{i % w, i / w}] = n
		most = max(most, magnitude(n))
	}
	b := Block{Planes: bits.Len(uint(most))}
	after := [][]int{t.values()}
	var steps [][]coded
	plane := b.Planes - 1
	for k := 0; k < 3*b.Planes-2; k++ {
		if k%3 == 1 {
			plane--
		}
		t.out = nil
		t.pass(k, plane)
		steps = append(steps, t.out)
		after = append(after, t.values())
	}
	cx := mq.Fresh()
	for k := 0; k < len(steps); {
		k = segment(&b, &cx, style, steps, k)
	}
	return b, after
}

// segment codes the segment that begins with pass k, and returns the pass behind it.
func segment(b *Block, cx *mq.Ctx, style int, steps [][]coded, k int) int {
	isRaw := style&api.Bypass != 0 && k >= 10 && k%3 != 0
	begin, m, r := len(b.Bytes), mq.NewEncoder(), raw.NewWriter()
	var outs []int
	for ended := false; !ended; k++ {
		if style&api.Reset != 0 {
			*cx = mq.Fresh()
		}
		for _, s := range steps[k] {
			if isRaw {
				r.Bit(s.bit ^ s.turn)
			} else {
				m.Encode(cx, s.k, s.bit)
			}
		}
		if isRaw {
			outs = append(outs, r.Out())
		} else {
			outs = append(outs, m.Out()+5)
		}
		ended = style&api.TermAll != 0 || k == len(steps)-1 || style&api.Bypass != 0 && (k >= 9 && k%3 == 0 || k >= 10 && k%3 == 2)
	}
	var l []byte
	if isRaw {
		l = r.Flush()
	} else {
		l = m.Flush()
	}
	for i, out := range outs {
		n := min(out, len(l))
		if n > 0 && l[n-1] == 255 {
			n--
		}
		if i == len(outs)-1 {
			n = len(l)
		}
		b.Passes = append(b.Passes, Pass{begin + n, i == len(outs)-1})
	}
	b.Bytes = append(b.Bytes, l...)
	return k
}
