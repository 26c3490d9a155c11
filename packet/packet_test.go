package packet

import (
	"math"
	"slices"
	"testing"

	"wavelet/api"
	"wavelet/bits"
	"wavelet/layers"
	"wavelet/tier"
)

// noise is a row of numbers that looks like chance and is the same in each run.
type noise uint32

func (n *noise) next(below int) int {
	*n = *n*1664525 + 1013904223
	return int(*n>>8) % below
}

// packed returns the bytes of bits that are given as a text of 0 and 1; blanks don't count.
func packed(text string) []byte {
	w := bits.NewWriter()
	for _, c := range text {
		if c != ' ' {
			w.Bit(int(c - '0'))
		}
	}
	return w.Bytes()
}

// plain is a block of so many planes with passes that end as told.
func plain(planes int, ends ...int) tier.Block {
	b := tier.Block{Planes: planes}
	for _, end := range ends {
		b.Passes = append(b.Passes, tier.Pass{End: end})
	}
	if len(ends) > 0 {
		b.Bytes = make([]byte, ends[len(ends)-1])
		for i := range b.Bytes {
			b.Bytes[i] = byte(i + 1)
		}
	}
	return b
}

func one(planes int, x tier.Block) []*Band {
	b := NewBand(1, 1, planes)
	b.Add(0, x)
	return []*Band{b}
}

func TestHeaders(t *testing.T) { // P1502
	for _, x := range []struct {
		name          string
		planes, style int
		block         tier.Block
		layers        int
		want          []string
	}{
		{"no passes", 5, 0, tier.Block{}, 2, []string{"0", "0"}},
		{"one pass", 1, 0, plain(1, 5), 1, []string{"1 1 1 0 0 101"}},
		{"planes missing", 4, 0, plain(1, 5), 1, []string{"1 1 0001 0 0 101"}},
		{"no bytes", 1, 0, plain(1, 0), 1, []string{"1 1 1 0 0 000"}},
		{"seven bytes", 1, 0, plain(1, 7), 1, []string{"1 1 1 0 0 111"}},
		{"Lblock grows", 1, 0, plain(1, 8), 1, []string{"1 1 1 0 10 1000"}},
		{"Lblock grows more", 1, 0, plain(1, 64), 1, []string{"1 1 1 0 11110 1000000"}},
		{"two passes", 2, 0, plain(2, 9, 15), 1, []string{"1 1 1 10 0 1111"}},
		{"three passes", 2, 0, plain(2, 9, 15, 15), 1, []string{"1 1 1 1100 0 1111"}},
		{"five passes", 3, 0, plain(3, 9, 15, 15, 16, 31), 1, []string{"1 1 1 1110 0 11111"}},
		{"six passes", 3, 0, plain(3, 9, 15, 15, 16, 31, 31), 1, []string{"1 1 1 1111 00000 0 11111"}},
		{"36 passes", 13, 0, plain(13, make([]int, 36)...), 1, []string{"1 1 1 1111 11110 0 00000000"}},
		{"37 passes", 13, 0, plain(13, make([]int, 37)...), 1, []string{"1 1 1 1111 11111 0000000 0 00000000"}},
		{"88 passes", 30, 0, plain(30, make([]int, 88)...), 1, []string{"1 1 1 1111 11111 0110011 0 000000000"}},
		{"pieces", 2, api.TermAll, plain(2, 1, 17, 20), 1, []string{"1 1 1 1100 110 00001 10000 00011"}},
		{"in two layers", 2, 0, plain(2, 3, 5, 14, 14), 2, []string{"1 1 1 10 0 0101", "1 1 10 0 1001"}},
		{"Lblock stays", 2, 0, plain(2, 40, 45), 2, []string{"1 1 1 0 1110 101000", "1 1 0 0 000101"}},
		{"late", 3, 0, plain(2, 4), 3, []string{"0", "0", "1 0001"[0:2] + "00" + "1 01 0 0 100"}},
		{"now and then", 2, 0, plain(2, 2, 3), 4, []string{"0", "1 01 1 0 0 010", "0", "1 1 0 0 001"}},
	} {
		l := one(x.planes, x.block)
		begin := 0
		for layer, want := range x.want {
			head, body := Encode(l, x.style, x.layers, layer)
			if !slices.Equal(head, packed(want)) {
				t.Errorf("%s, layer %d: %08b, want %08b", x.name, layer, head, packed(want))
			}
			n := layers.Passes(len(x.block.Passes), x.layers, layer+1)
			end := 0
			if n > 0 {
				end = x.block.Passes[n-1].End
			}
			if string(body) != string(x.block.Bytes[begin:end]) {
				t.Errorf("%s, layer %d: body %v", x.name, layer, body)
			}
			begin = end
		}
	}
}

func TestSeveralBlocks(t *testing.T) { // P1501, P1502
	a, b := NewBand(2, 1, 3), NewBand(0, 0, 4)
	c := NewBand(1, 1, 2)
	a.Add(0, plain(1, 2))
	a.Add(1, plain(3, 1, 1, 1))
	c.Add(0, plain(2, 3))
	head, body := Encode([]*Band{a, b, c}, 0, 2, 0)
	// Layer 0 has one pass of the second block, and none of the others. The top node's number is 0.
	if want := packed("1 10 1 1 1 0 0 001 0"); !slices.Equal(head, want) || string(body) != "\x01" {
		t.Errorf("%08b, want %08b, %v", head, want, body)
	}
	head, body = Encode([]*Band{a, b, c}, 0, 2, 1)
	if want := packed("1 1 001 0 0 010 1 10 0 0000 1 1 0 0 011"); !slices.Equal(head, want) || string(body) != "\x01\x02\x01\x02\x03" {
		t.Errorf("%08b, want %08b, %v", head, want, body)
	}
}

func TestBandsKeepBlocks(t *testing.T) { // P1501, P2
	b := NewBand(2, 2, 9)
	x := plain(3, 2, 4)
	b.Add(3, x)
	for _, k := range []int{-1, 4, math.MaxInt, math.MinInt} {
		b.Add(k, plain(1, 1))
		if !tier.Same(b.Block(k), tier.Block{}) {
			t.Errorf("block %d", k)
		}
	}
	want := plain(3, 2, 4)
	x.Passes[0].End, x.Bytes[0] = 77, 77
	got := b.Block(3)
	if !tier.Same(got, want) {
		t.Errorf("%v", got)
	}
	got.Passes[0].End, got.Bytes[0] = 77, 77
	if !tier.Same(b.Block(3), want) || !tier.Same(b.Block(0), tier.Block{}) {
		t.Error("a block changed outside")
	}
}

// blocks returns Bands with coded blocks, and the same Bands without any.
func blocks(seed, style int) (full, empty []*Band) {
	n := noise(seed)
	for range 1 + n.next(3) {
		wide, high, planes := n.next(4), n.next(4), 12+n.next(20)
		f, e := NewBand(wide, high, planes), NewBand(wide, high, planes)
		for k := range wide * high {
			w, h, size := 1+n.next(8), 1+n.next(8), n.next(13)
			v := make([]int, w*h)
			for i := range v {
				v[i] = n.next(1<<size) >> n.next(4)
			}
			x, _ := tier.Encode(w, h, 0, style, v)
			f.Add(k, x)
		}
		full, empty = append(full, f), append(empty, e)
	}
	return full, empty
}

// pieced returns what a block is once its first passes were read: all passes of a piece have its End.
func pieced(x tier.Block, style, count, upTo int) tier.Block {
	y := tier.Block{}
	for layer := range upTo {
		from, to := layers.Passes(len(x.Passes), count, layer), layers.Passes(len(x.Passes), count, layer+1)
		for k := from; k < to; k++ {
			last := k
			for last < to-1 && !layers.Ends(style, last) {
				last++
			}
			y.Planes = x.Planes
			y.Passes = append(y.Passes, tier.Pass{End: x.Passes[last].End, Term: layers.Ends(style, k)})
			y.Bytes = x.Bytes[:x.Passes[last].End]
		}
	}
	return y
}

func TestDecodeReadsWhatWasEncoded(t *testing.T) { // P1503, P1504
	for seed := range 500 {
		style, count := seed%64, 1+seed%8
		full, empty := blocks(seed, style)
		for layer := range count {
			head, body := Encode(full, style, count, layer)
			eph := seed%3 == 0
			b := slices.Clone(head)
			if eph {
				b = append(b, 0xFF, 0x92)
			}
			b = append(b, body...)
			size := len(b)
			b = append(b, 0xFF, 0x91, 0, 4)
			was := slices.Clone(b)
			n, e := Decode(empty, style, layer, b, eph)
			if n != size || e != api.OK {
				t.Fatalf("seed %d, layer %d: %d, %v, want %d", seed, layer, n, e, size)
			}
			if !slices.Equal(b, was) {
				t.Fatal("P2: the bytes were changed")
			}
			clear(b)
			for i := range full {
				for k := range 16 {
					got, want := empty[i].Block(k), pieced(full[i].Block(k), style, count, layer+1)
					if !tier.Same(got, want) {
						t.Fatalf("seed %d, layer %d, band %d, block %d:\n%v\n%v", seed, layer, i, k, got, want)
					}
				}
			}
		}
	}
}

func TestEmptyPackets(t *testing.T) { // P1502, P1503
	for _, l := range [][]*Band{nil, {NewBand(0, 0, 3)}, {NewBand(2, 2, 3), NewBand(1, 1, 9)}} {
		head, body := Encode(l, 0, 1, 0)
		if string(head) != "\x00" || len(body) != 0 {
			t.Errorf("%v, %v", head, body)
		}
		if n, e := Decode(l, 0, 0, []byte{0, 1, 2}, false); n != 1 || e != api.OK {
			t.Errorf("%d, %v", n, e)
		}
		if n, e := Decode(l, 0, 0, []byte{0x7F, 0xFF, 0x92}, true); n != 3 || e != api.OK {
			t.Errorf("%d, %v", n, e)
		}
	}
}

func TestDecodeErrors(t *testing.T) { // P1503, P6
	for _, x := range []struct {
		name   string
		planes int
		b      []byte
		eph    bool
		want   api.Errno
		n      int
	}{
		{"good", 1, append(packed("1 1 1 0 0 001"), 7), false, api.OK, 2},
		{"good with a mark", 1, append(packed("1 1 1 0 0 001"), 0xFF, 0x92, 7), true, api.OK, 4},
		{"no bytes", 1, nil, false, api.ErrCut, 0},
		{"no bytes but a mark", 1, nil, true, api.ErrCut, 0},
		{"header cut", 30, []byte{0xFF}, false, api.ErrCut, 0},
		{"all planes missing", 3, packed("1 1 000 000000000000"), false, api.ErrBad, 0},
		{"all planes missing, cut", 37, []byte{0xC0}, false, api.ErrBad, 0},
		{"no planes", 0, packed("1 1 1 0 0 000"), false, api.ErrBad, 0},
		{"31 planes", 31, packed("1 1 1 0 0 000"), false, api.ErrBad, 0},
		{"30 planes of 31", 31, packed("1 1 01 0 0 000"), false, api.OK, 2},
		{"two passes in one plane", 1, packed("1 1 1 10 0 0000"), false, api.ErrBad, 0},
		{"88 passes in 30 planes", 30, packed("1 1 1 1111 11111 0110011 0 000000000"), false, api.OK, 4},
		{"89 passes in 30 planes", 30, packed("1 1 1 1111 11111 0110100 0 000000000"), false, api.ErrBad, 0},
		{"164 passes", 30, packed("1 1 1 1111 11111 1111111 0 000000000"), false, api.ErrBad, 0},
		{"Lblock 24", 1, packed("1 1 1 0 1111 1111 1111 1111 1111 10" + "0000 0000 0000 0000 0000 0000"), false, api.OK, 7},
		{"Lblock 25", 1, packed("1 1 1 0 1111 1111 1111 1111 1111 110" + "0000 0000 0000 0000 0000 0000"), false, api.ErrBad, 0},
		{"Lblock 25, cut", 1, packed("1 1 1 0 1111 1111 1111 1111 1111 11"), false, api.ErrBad, 0},
		{"lengths cut", 1, packed("1 1 1 0 1111 10"), false, api.ErrCut, 0},
		{"a bit too high", 1, []byte{0xFF, 0x80}, false, api.ErrBad, 0},
		{"no mark", 1, append(packed("1 1 1 0 0 001"), 7), true, api.ErrCut, 0},
		{"mark cut", 1, append(packed("1 1 1 0 0 000"), 0xFF), true, api.ErrCut, 0},
		{"another mark", 1, append(packed("1 1 1 0 0 000"), 0xFF, 0x91), true, api.ErrMark, 0},
		{"another byte", 1, append(packed("1 1 1 0 0 001"), 0xFE, 0x92, 7), true, api.ErrMark, 0},
		{"mark before body", 1, append(packed("1 1 1 0 0 111"), 0xFE, 0x92), true, api.ErrMark, 0},
		{"body cut", 1, append(packed("1 1 1 0 0 010"), 7), false, api.ErrCut, 0},
		{"body cut behind a mark", 1, append(packed("1 1 1 0 0 001"), 0xFF, 0x92), true, api.ErrCut, 0},
	} {
		n, e := Decode([]*Band{NewBand(1, 1, x.planes)}, 0, 0, x.b, x.eph)
		if e != x.want || n != x.n {
			t.Errorf("%s: %d, %v, want %d, %v", x.name, n, e, x.n, x.want)
		}
	}
}

func TestLaterPasses(t *testing.T) { // P1503
	l := []*Band{NewBand(1, 1, 2)}
	if n, e := Decode(l, 0, 0, append(packed("1 1 1 1100 0 0010"), 5, 6), false); n != 4 || e != api.OK {
		t.Errorf("%d, %v", n, e)
	}
	if n, e := Decode(l, 0, 1, packed("0"), false); n != 1 || e != api.OK {
		t.Errorf("%d, %v", n, e)
	}
	if n, e := Decode(l, 0, 2, append(packed("1 1 0 0 001"), 9), false); n != 2 || e != api.OK {
		t.Errorf("%d, %v", n, e)
	}
	want := tier.Block{Planes: 2, Passes: []tier.Pass{{End: 2}, {End: 2}, {End: 2}, {End: 3}}, Bytes: []byte{5, 6, 9}}
	if got := l[0].Block(0); !tier.Same(got, want) {
		t.Errorf("%v", got)
	}
	if n, e := Decode(l, 0, 3, packed("1 1 0 0 000"), false); n != 0 || e != api.ErrBad {
		t.Errorf("a fifth pass in two planes: %d, %v", n, e)
	}
}

func TestAnyBytesDecode(t *testing.T) { // P1
	for seed := range 3000 {
		n := noise(seed)
		_, l := blocks(seed, seed%64)
		b := make([]byte, n.next(80))
		for i := range b {
			b[i] = byte(255 - n.next(1+seed%256))
		}
		for layer := range 4 {
			size, e := Decode(l, seed%64, layer, b, seed%2 == 0)
			if e != api.OK && size != 0 || size < 0 || size > len(b) {
				t.Fatalf("seed %d: %d, %v", seed, size, e)
			}
			if e != api.OK {
				break
			}
			b = b[size:]
		}
	}
}

func TestAnyArgumentsEnd(t *testing.T) { // P1
	far := []int{math.MinInt, -1, 0, 1, 38, 65, 1 << 16, math.MaxInt}
	odd := []tier.Block{
		{Planes: math.MinInt, Passes: make([]tier.Pass, 3)},
		{Planes: math.MaxInt, Passes: make([]tier.Pass, 300)},
		{Planes: 2, Passes: []tier.Pass{{End: 5}, {End: -5}, {End: math.MaxInt}, {End: math.MinInt}}, Bytes: []byte{1}},
		{Planes: 2, Passes: []tier.Pass{{End: -5}, {End: 1}}, Bytes: []byte{1}},
	}
	for _, a := range far {
		for _, b := range far {
			NewBand(a, b, 3)
			NewBand(1, 1, a)
			for _, x := range odd {
				for _, planes := range []int{0, 5, 37} {
					Encode(one(planes, x), a, 3, b)
					Encode(one(planes, x), a, b, 0)
					Encode(one(planes, x), a, b, a)
				}
			}
			Decode([]*Band{NewBand(2, 2, 37)}, a, b, []byte{0x80}, true)
			Decode([]*Band{NewBand(2, 2, 37)}, a, b, []byte{0xFE, 0xFF, 0x7F, 0x12}, false)
		}
	}
	wide := NewBand(64, 64, 37)
	wide.Add(4095, plain(1, 1))
	if head, _ := Encode([]*Band{wide}, 0, 1, 0); len(head) == 0 {
		t.Error("no header")
	}
}

func TestHeadersFitTheirLimit(t *testing.T) { // no header is longer than what is handed on of a packet
	for _, size := range [][2]int{{1, 1}, {3, 1}, {5, 1}, {64, 1}, {9, 9}} {
		b := NewBand(size[0], size[1], 37)
		for k := range size[0] * size[1] {
			ends := make([]int, 88)
			for i := range ends {
				ends[i] = 1 << 20
			}
			if k%2 == 0 {
				b.Add(k, plain(30, ends...))
			}
		}
		head, _ := Encode([]*Band{b}, api.TermAll, 1, 0)
		if most := longest([]*Band{b}, 0); len(head) > most {
			t.Errorf("%v: %d bytes, limit %d", size, len(head), most)
		}
	}
}
