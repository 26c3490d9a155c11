package mq

import (
	"math"
	"slices"
	"testing"

	"wavelet/states"
)

// noise is a row of numbers that looks like chance and is the same in each run.
type noise uint32

func (n *noise) next(below int) int {
	*n = *n*1664525 + 1013904223
	return int(*n>>8) % below
}

// symbol is one bit in its context.
type symbol struct{ k, bit int }

// symbols returns so many of them: seldom ones, frequent ones, or even ones by their contexts.
func symbols(seed, count int) []symbol {
	n := noise(seed)
	l := make([]symbol, count)
	for i := range l {
		k := n.next(19)
		bit := 0
		if n.next(20) <= k {
			bit = 1
		}
		l[i] = symbol{k, bit}
	}
	return l
}

func encoded(l []symbol) []byte {
	e, cx := NewEncoder(), Fresh()
	for _, s := range l {
		e.Encode(&cx, s.k, s.bit)
	}
	return e.Flush()
}

func TestFresh(t *testing.T) { // P401
	cx := Fresh()
	for k, x := range cx {
		want := map[int]int{0: 4, 17: 3, 18: 46}[k]
		if x.I != want || x.Mps != 0 {
			t.Errorf("context %d: %v", k, x)
		}
	}
}

// The test sequence of the standard's own coder (T.88, H.2), all in one context that begins in state 0. Its last two bytes are a marker.
var (
	plain = []byte{0x00, 0x02, 0x00, 0x51, 0x00, 0x00, 0x00, 0xC0, 0x03, 0x52, 0x87, 0x2A, 0xAA, 0xAA, 0xAA, 0xAA, 0x82, 0xC0, 0x20, 0x00, 0xFC, 0xD7, 0x9E, 0xF6, 0xBF, 0x7F, 0xED, 0x90, 0x4F, 0x46, 0xA3, 0xBF}
	coded = []byte{0x84, 0xC7, 0x3B, 0xFC, 0xE1, 0xA1, 0x43, 0x04, 0x02, 0x20, 0x00, 0x00, 0x41, 0x0D, 0xBB, 0x86, 0xF4, 0x31, 0x7F, 0xFF, 0x88, 0xFF, 0x37, 0x47, 0x1A, 0xDB, 0x6A, 0xDF}
)

func TestEncodeKnownSequence(t *testing.T) { // P402
	e, cx := NewEncoder(), Fresh()
	for i := range 8 * len(plain) {
		e.Encode(&cx, 5, int(plain[i/8]>>(7-i%8)))
	}
	if got := e.Flush(); !slices.Equal(got, coded) {
		t.Errorf("%x\n%x", got, coded)
	}
}

func TestDecodeKnownSequence(t *testing.T) { // P403
	b := slices.Clone(coded)
	d, cx := NewDecoder(b), Fresh()
	clear(b)
	for i := range 8 * len(plain) {
		if got := d.Decode(&cx, 5); got != int(plain[i/8]>>(7-i%8))&1 {
			t.Fatalf("bit %d is %d", i, got)
		}
	}
}

func TestNoSuchContext(t *testing.T) { // P402, P403
	e, cx := NewEncoder(), Fresh()
	d := NewDecoder([]byte{0x12, 0x34, 0x56})
	for _, k := range []int{-1, 19, math.MinInt, math.MaxInt} {
		e.Encode(&cx, k, 1)
		if d.Decode(&cx, k) != 0 {
			t.Errorf("context %d has a bit", k)
		}
	}
	if cx != Fresh() || !slices.Equal(e.Flush(), NewEncoder().Flush()) {
		t.Error("a context that is none changed something")
	}
	other := NewDecoder([]byte{0x12, 0x34, 0x56})
	a, b := Fresh(), Fresh()
	for range 60 {
		if d.Decode(&a, 18) != other.Decode(&b, 18) {
			t.Fatal("a context that is none read something")
		}
	}
}

func TestUnsoundContextsEnd(t *testing.T) { // P1
	for _, i := range []int{-1, 47, math.MinInt, math.MaxInt} {
		cx := Fresh()
		cx[3].I = i
		e, d := NewEncoder(), NewDecoder(nil)
		for range 100 {
			e.Encode(&cx, 3, 0)
			e.Encode(&cx, 3, 1)
			d.Decode(&cx, 3)
		}
		e.Flush()
	}
}

func TestLowestBitIsCoded(t *testing.T) { // P402
	for _, x := range [][2]int{{0, 2}, {1, 3}, {1, -1}, {0, math.MinInt}} {
		a, b, ca, cb := NewEncoder(), NewEncoder(), Fresh(), Fresh()
		a.Encode(&ca, 0, x[0])
		b.Encode(&cb, 0, x[1])
		if ca != cb || !slices.Equal(a.Flush(), b.Flush()) {
			t.Errorf("%d is coded otherwise than %d", x[1], x[0])
		}
	}
}

func TestContextsGoOn(t *testing.T) { // P402, P403
	for _, bit := range []int{0, 1} {
		for i := range 47 {
			for mps := range 2 {
				s := states.At(i)
				e, cx := NewEncoder(), Fresh()
				cx[7].I, cx[7].Mps = i, mps
				e.Encode(&cx, 7, bit)
				was := cx
				decoded := Fresh()
				decoded[7].I, decoded[7].Mps = i, mps
				if NewDecoder(e.Flush()).Decode(&decoded, 7); decoded != was {
					t.Errorf("state %d: the decoder's contexts go another way", i)
				}
				want, wantMps := s.Lps, mps
				if s.Swap {
					wantMps = 1 - mps
				}
				if bit == mps {
					want, wantMps = s.Mps, mps
					if 0x8000-s.Qe >= 0x8000 {
						want = i
					}
				}
				if was[7].I != want || was[7].Mps != wantMps {
					t.Errorf("state %d, mps %d, bit %d: %v", i, mps, bit, was[7])
				}
			}
		}
	}
}

func TestDecodeReadsWhatWasEncoded(t *testing.T) { // P404
	for seed := range 200 {
		l := symbols(seed, seed*seed%3000)
		b := encoded(l)
		d, cx := NewDecoder(b), Fresh()
		for i, s := range l {
			if got := d.Decode(&cx, s.k); got != s.bit {
				t.Fatalf("seed %d: symbol %d is %d", seed, i, got)
			}
		}
		for i := 1; i < len(b); i++ {
			if b[i-1] == 255 && b[i] > 0x8F {
				t.Errorf("seed %d: marker %x", seed, b[i-1:i+1])
			}
		}
		if len(b) > 0 && b[len(b)-1] == 255 {
			t.Errorf("seed %d: ends with 255", seed)
		}
	}
}

func TestFirstBytesAreEnough(t *testing.T) { // P404
	for seed := range 60 {
		l := symbols(seed, 600)
		e, cx := NewEncoder(), Fresh()
		outs := make([]int, len(l))
		for i, s := range l {
			e.Encode(&cx, s.k, s.bit)
			outs[i] = e.Out()
		}
		b := e.Flush()
		for i := 0; i < len(l); i += 7 {
			d, cx := NewDecoder(b[:min(len(b), outs[i]+5)]), Fresh()
			for j := range i + 1 {
				if d.Decode(&cx, l[j].k) != l[j].bit {
					t.Fatalf("seed %d: symbol %d of %d", seed, j, i)
				}
			}
		}
	}
}

func TestOutCountsBytes(t *testing.T) { // P402
	e, cx := NewEncoder(), Fresh()
	if e.Out() != 0 {
		t.Error("bytes before any bit")
	}
	for i, want := range []int{0, 0, 0, 0, 0, 0, 0, 0, 0, 1, 1, 1, 1, 1, 1, 1, 1, 2, 2, 2} {
		e.Encode(&cx, 18, 1)
		if e.Out() != want {
			t.Errorf("behind bit %d: %d", i, e.Out())
		}
	}
}

func TestDecodeAnyBytes(t *testing.T) { // P1, P403
	for seed := range 100 {
		n := noise(seed)
		b := make([]byte, seed%9)
		for i := range b {
			b[i] = byte(255 - n.next(1+seed))
		}
		d, cx := NewDecoder(b), Fresh()
		for range 4000 {
			if bit := d.Decode(&cx, n.next(19)); bit != 0 && bit != 1 {
				t.Fatalf("bit %d", bit)
			}
		}
	}
}

func TestFlushIsItsOwn(t *testing.T) { // P2, P7
	e := NewEncoder()
	b := e.Flush()
	b[0] = 77
	if c := NewEncoder().Flush(); c[0] == 77 {
		t.Error("two Encoders share bytes")
	}
}

// wordsEncoder is the encoder by the chapter's words, over plain numbers.
type wordsEncoder struct {
	a, c, ct int
	out      []int
}

func (e *wordsEncoder) put() {
	last := len(e.out) - 1
	if e.out[last] != 255 && e.c >= 0x8000000 {
		e.out[last]++
		e.c -= 0x8000000
	}
	if e.out[last] == 255 {
		e.out = append(e.out, e.c/(1<<20)%256)
		e.c %= 1 << 20
		e.ct = 7
	} else {
		e.out = append(e.out, e.c/(1<<19)%256)
		e.c %= 1 << 19
		e.ct = 8
	}
}

func (e *wordsEncoder) encode(cx *Ctx, k, bit int) {
	s := states.At(cx[k].I)
	e.a -= s.Qe
	if bit == cx[k].Mps {
		if e.a >= 0x8000 {
			e.c += s.Qe
			return
		}
		if e.a < s.Qe {
			e.a = s.Qe
		} else {
			e.c += s.Qe
		}
		cx[k].I = s.Mps
	} else {
		if e.a < s.Qe {
			e.c += s.Qe
		} else {
			e.a = s.Qe
		}
		if s.Swap {
			cx[k].Mps = 1 - cx[k].Mps
		}
		cx[k].I = s.Lps
	}
	for again := true; again; again = e.a < 0x8000 {
		e.a, e.c, e.ct = 2*e.a, 2*e.c, e.ct-1
		if e.ct == 0 {
			e.put()
		}
	}
}

func (e *wordsEncoder) flush() []byte {
	t := e.c + e.a
	e.c |= 65535
	if e.c >= t {
		e.c -= 0x8000
	}
	for range 2 {
		e.c <<= e.ct
		e.put()
	}
	var b []byte
	for _, x := range e.out[1:] {
		b = append(b, byte(x))
	}
	if b[len(b)-1] == 255 {
		b = b[:len(b)-1]
	}
	return b
}

func TestEncodeByTheWords(t *testing.T) { // P402
	if got := NewEncoder().Flush(); !slices.Equal(got, []byte{0xFF, 0x7F}) {
		t.Errorf("no bits: %x", got)
	}
	for seed := range 400 {
		e, cx := NewEncoder(), Fresh()
		w, cy := &wordsEncoder{0x8000, 0, 12, []int{0}}, Fresh()
		for i, s := range symbols(seed, seed*13%2500) {
			e.Encode(&cx, s.k, s.bit)
			w.encode(&cy, s.k, s.bit)
			if cx != cy || e.Out() != len(w.out)-1 {
				t.Fatalf("seed %d: other ways behind symbol %d", seed, i)
			}
		}
		if got, want := e.Flush(), w.flush(); !slices.Equal(got, want) {
			t.Fatalf("seed %d: %x, want %x", seed, got, want)
		}
	}
}

// wordsDecoder is the decoder by the chapter's words.
type wordsDecoder struct {
	b     []byte
	at    int
	a, ct int
	c     int64
}

func (d *wordsDecoder) byteAt(i int) int64 {
	if i < len(d.b) {
		return int64(d.b[i])
	}
	return 255
}

func (d *wordsDecoder) take() {
	current, next := d.byteAt(d.at), d.byteAt(d.at+1)
	if current == 255 && next > 0x8F {
		d.c += 0xFF00
		d.ct = 8
		return
	}
	d.at++
	if current == 255 {
		d.c += next << 9
		d.ct = 7
	} else {
		d.c += next << 8
		d.ct = 8
	}
}

func newWordsDecoder(b []byte) *wordsDecoder {
	d := &wordsDecoder{b: b}
	d.c = d.byteAt(0) << 16
	d.take()
	d.c <<= 7
	d.ct -= 7
	d.a = 0x8000
	return d
}

func (d *wordsDecoder) decode(cx *Ctx, k int) int {
	s := states.At(cx[k].I)
	d.a -= s.Qe
	var likely bool
	if d.c>>16 < int64(s.Qe) {
		likely = d.a < s.Qe
		d.a = s.Qe
	} else {
		d.c -= int64(s.Qe) << 16
		if d.a >= 0x8000 {
			return cx[k].Mps
		}
		likely = d.a >= s.Qe
	}
	for again := true; again; again = d.a < 0x8000 {
		if d.ct == 0 {
			d.take()
		}
		d.a, d.c, d.ct = 2*d.a, 2*d.c, d.ct-1
	}
	bit := cx[k].Mps
	if likely {
		cx[k].I = s.Mps
		return bit
	}
	if s.Swap {
		cx[k].Mps = 1 - bit
	}
	cx[k].I = s.Lps
	return 1 - bit
}

func TestDecodeByTheWords(t *testing.T) { // P403
	for seed := range 1500 {
		n := noise(seed)
		b := make([]byte, seed%40)
		for i := range b {
			b[i] = []byte{255, 0x8F, 0x90, 0x7F, 0, byte(n.next(256)), byte(n.next(256))}[n.next(3+seed%5)]
		}
		d, cx := NewDecoder(b), Fresh()
		w, cy := newWordsDecoder(b), Fresh()
		for i := range 600 {
			k := n.next(19)
			if got, want := d.Decode(&cx, k), w.decode(&cy, k); got != want || cx != cy {
				t.Fatalf("%x: bit %d is %d", b, i, got)
			}
		}
	}
}
