package tier

import (
	"math"
	"slices"
	"testing"

	"wavelet/api"
)

// noise is a row of numbers that looks like chance and is the same in each run.
type noise uint32

func (n *noise) next(below int) int {
	*n = *n*1664525 + 1013904223
	return int(*n>>8) % below
}

// block returns w by h values of up to so many bits, more or less of them 0.
func block(seed, w, h, size int) []int {
	n := noise(seed)
	v := make([]int, w*h)
	for i := range v {
		if n.next(4) > seed%4 {
			continue
		}
		v[i] = n.next(1<<size) >> n.next(size+1)
		if n.next(2) == 0 {
			v[i] = -v[i]
		}
	}
	return v
}

func TestKnownBlock(t *testing.T) { // P801: a block of the standard's own example
	v := []int{1, 5, 1, 0}
	b := Block{Planes: 3, Passes: slices.Repeat([]Pass{{End: 3}}, 7), Bytes: []byte{0x0F, 0xB1, 0x76}}
	if got, e := Decode(1, 4, api.LH, 0, b, 7); e != api.OK || !slices.Equal(got, v) {
		t.Errorf("%v, %v", got, e)
	}
	own, e := Encode(1, 4, api.LH, 0, v)
	if e != api.OK || own.Planes != 3 || !slices.Equal(own.Bytes[:2], b.Bytes[:2]) {
		t.Errorf("%v, %v", own, e)
	}
}

func TestBlocksByTheWords(t *testing.T) { // P801 to P805
	sizes := [][2]int{{1, 1}, {1, 5}, {4, 4}, {5, 3}, {3, 9}, {8, 8}, {7, 11}, {2, 16}, {16, 6}}
	for style := range 64 {
		for i, s := range sizes {
			w, h := s[0], s[1]
			for band := range 4 {
				seed := style*100 + i*10 + band
				v := block(seed, w, h, 1+seed%14)
				want, after := trace(w, h, band, style, v)
				got, e := Encode(w, h, band, style, v)
				if e != api.OK || !Same(got, want) {
					t.Fatalf("style %d, %d by %d, band %d: %v, %v\nwant %v", style, w, h, band, got, e, want)
				}
				for n := -1; n <= len(got.Passes)+1; n++ {
					values, e := Decode(w, h, band, style, got, n)
					if e != api.OK || !slices.Equal(values, after[max(0, min(n, len(got.Passes)))]) {
						t.Fatalf("style %d, %d by %d, band %d, %d passes: %v, %v", style, w, h, band, n, values, e)
					}
				}
			}
		}
	}
}

func TestLargeBlocks(t *testing.T) { // P803, P805
	for style := 0; style < 64; style += 7 {
		for _, s := range [][3]int{{64, 64, 10}, {64, 1, 30}, {1, 64, 30}, {33, 17, 20}} {
			v := block(style, s[0], s[1], s[2])
			b, e := Encode(s[0], s[1], style%4, style, v)
			got, e2 := Decode(s[0], s[1], style%4, style, b, len(b.Passes))
			if e != api.OK || e2 != api.OK || !slices.Equal(got, v) {
				t.Errorf("style %d, %v: %v, %v", style, s, e, e2)
			}
		}
	}
}

func TestFirstBytesOfSegments(t *testing.T) { // P803, P804: a pass that doesn't end its segment is read from what its End says
	for style := range 64 {
		v := block(style, 12, 10, 12)
		b, _ := Encode(12, 10, api.HL, style, v)
		_, after := trace(12, 10, api.HL, style, v)
		for n := range len(b.Passes) + 1 {
			first := Block{Planes: b.Planes, Passes: b.Passes[:n]}
			if n > 0 {
				first.Bytes = b.Bytes[:b.Passes[n-1].End]
			}
			got, e := Decode(12, 10, api.HL, style, first, n)
			if e != api.OK || !slices.Equal(got, after[n]) {
				t.Fatalf("style %d, %d passes: %v", style, n, e)
			}
		}
		for i, p := range b.Passes {
			if !p.Term && p.End > 0 && b.Bytes[p.End-1] == 255 && (i == 0 || b.Passes[i-1].End < p.End) {
				t.Errorf("style %d, pass %d ends with 255", style, i)
			}
		}
	}
}

func TestZeros(t *testing.T) { // P803
	b, e := Encode(3, 3, 0, 0, make([]int, 9))
	if e != api.OK || b.Planes != 0 || len(b.Passes) != 0 || len(b.Bytes) != 0 {
		t.Errorf("%v, %v", b, e)
	}
	v, e := Decode(3, 3, 0, 0, b, 5)
	if e != api.OK || !slices.Equal(v, make([]int, 9)) {
		t.Errorf("%v, %v", v, e)
	}
}

func TestGreatestValues(t *testing.T) { // P803
	const most = 1<<30 - 1
	v := []int{most, -most, 0, 1}
	b, e := Encode(2, 2, 3, 0, v)
	if e != api.OK || b.Planes != 30 || len(b.Passes) != 88 {
		t.Errorf("%d planes, %d passes, %v", b.Planes, len(b.Passes), e)
	}
	if got, e := Decode(2, 2, 3, 0, b, 88); e != api.OK || !slices.Equal(got, v) {
		t.Errorf("%v, %v", got, e)
	}
	for _, n := range []int{most + 1, -most - 1, math.MaxInt, math.MinInt} {
		if b, e := Encode(2, 1, 0, 0, []int{0, n}); e != api.ErrOver || !Same(b, Block{}) {
			t.Errorf("%d: %v, %v", n, b, e)
		}
	}
}

func TestWrongArguments(t *testing.T) { // P803, P804, P6
	for _, x := range [][4]int{{0, 1, 0, 0}, {65, 1, 0, 0}, {1, 0, 0, 0}, {1, 65, 0, 0}, {-1, -1, 0, 0}, {1, 1, -1, 0}, {1, 1, 4, 0}, {1, 1, 0, -1}, {1, 1, 0, 64}, {math.MaxInt, math.MinInt, 0, 0}} {
		b, e := Encode(x[0], x[1], x[2], x[3], []int{1 << 40, 1})
		if e != api.ErrArg || !Same(b, Block{}) {
			t.Errorf("Encode %v: %v", x, e)
		}
		v, e := Decode(x[0], x[1], x[2], x[3], Block{Planes: 31}, 1)
		if e != api.ErrArg || len(v) != 0 {
			t.Errorf("Decode %v: %v", x, e)
		}
	}
	for _, n := range []int{0, 3, 5} {
		v := make([]int, n)
		for i := range v {
			v[i] = 1 << 31
		}
		if b, e := Encode(2, 2, 0, 0, v); e != api.ErrSize || !Same(b, Block{}) {
			t.Errorf("%d values: %v", n, e)
		}
	}
}

func TestUnsoundBlocks(t *testing.T) { // P804
	two := []byte{1, 2}
	for name, b := range map[string]Block{
		"planes below 0":   {Planes: -1},
		"planes above 30":  {Planes: 31},
		"passes, no plane": {Planes: 0, Passes: []Pass{{}}},
		"too many passes":  {Planes: 1, Passes: []Pass{{}, {}}},
		"End below 0":      {Planes: 2, Passes: []Pass{{End: -1}}, Bytes: two},
		"End goes back":    {Planes: 2, Passes: []Pass{{End: 2}, {End: 1}}, Bytes: two},
		"End too far":      {Planes: 2, Passes: []Pass{{End: 1}, {End: 3}}, Bytes: two},
		"planes far off":   {Planes: math.MaxInt},
		"planes far down":  {Planes: math.MinInt},
	} {
		for _, n := range []int{-1, 0, 1, 5} {
			if v, e := Decode(2, 2, 0, 0, b, n); e != api.ErrBad || len(v) != 0 {
				t.Errorf("%s: %v, %v", name, v, e)
			}
		}
	}
	if v, e := Decode(2, 1, 0, 0, Block{Planes: 30}, math.MaxInt); e != api.OK || !slices.Equal(v, []int{0, 0}) {
		t.Errorf("no passes: %v, %v", v, e)
	}
}

func TestTermIsNotLookedAt(t *testing.T) { // P804
	v := block(3, 6, 6, 12)
	b, _ := Encode(6, 6, 0, api.Bypass, v)
	for i := range b.Passes {
		b.Passes[i].Term = !b.Passes[i].Term
	}
	if got, e := Decode(6, 6, 0, api.Bypass, b, len(b.Passes)); e != api.OK || !slices.Equal(got, v) {
		t.Errorf("%v, %v", got, e)
	}
}

func TestAnyBytesDecode(t *testing.T) { // P1
	for seed := range 300 {
		n := noise(seed)
		b := Block{Planes: n.next(31), Bytes: make([]byte, n.next(60))}
		for i := range b.Bytes {
			b.Bytes[i] = byte(255 - n.next(1+seed%256))
		}
		for k := range max(0, 3*b.Planes-2) {
			b.Passes = append(b.Passes, Pass{End: len(b.Bytes) * k / 90})
		}
		v, e := Decode(9, 9, seed%4, seed%64, b, len(b.Passes))
		if e != api.OK || len(v) != 81 {
			t.Fatalf("seed %d: %v", seed, e)
		}
		for _, x := range v {
			if magnitude(x) >= 1<<b.Planes {
				t.Fatalf("seed %d: %d in %d planes", seed, x, b.Planes)
			}
		}
	}
}

func TestSame(t *testing.T) { // P804
	a := Block{2, []Pass{{1, false}, {2, true}}, []byte{5, 6}}
	if !Same(a, Block{2, slices.Clone(a.Passes), slices.Clone(a.Bytes)}) || !Same(Block{}, Block{0, []Pass{}, []byte{}}) {
		t.Error("equal blocks differ")
	}
	for _, b := range []Block{
		{3, a.Passes, a.Bytes},
		{2, a.Passes[:1], a.Bytes},
		{2, []Pass{{1, false}, {2, false}}, a.Bytes},
		{2, []Pass{{0, false}, {2, true}}, a.Bytes},
		{2, a.Passes, a.Bytes[:1]},
		{2, a.Passes, []byte{5, 7}},
	} {
		if Same(a, b) || Same(b, a) {
			t.Errorf("%v is the same as %v", a, b)
		}
	}
}

func TestArgumentsStay(t *testing.T) { // P2
	v := block(1, 5, 5, 9)
	was := slices.Clone(v)
	b, _ := Encode(5, 5, 1, 63, v)
	kept := Block{b.Planes, slices.Clone(b.Passes), slices.Clone(b.Bytes)}
	Decode(5, 5, 1, 63, b, 7)
	if !slices.Equal(v, was) || !Same(b, kept) {
		t.Error("an argument was changed")
	}
}

func TestCut(t *testing.T) { // P803
	for _, x := range []struct {
		segment []byte
		n, want int
	}{{nil, 0, 0}, {nil, 5, 0}, {[]byte{255}, 0, 0}, {[]byte{255, 1}, 1, 0}, {[]byte{255, 1}, 2, 2}, {[]byte{1, 255, 2}, 2, 1}, {[]byte{1, 2}, 9, 2}} {
		if got := cut(x.segment, x.n); got != x.want {
			t.Errorf("cut(%v, %d) = %d", x.segment, x.n, got)
		}
	}
}
