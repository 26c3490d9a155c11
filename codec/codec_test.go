package codec

import (
	"encoding/hex"
	"math"
	"slices"
	"strings"
	"testing"

	"wavelet/api"
	"wavelet/canvas"
	"wavelet/color"
	"wavelet/dwt"
	"wavelet/layers"
	"wavelet/marks"
	"wavelet/tier"
)

// noise is a row of numbers that looks like chance and is the same in each run.
type noise uint32

func (n *noise) next(below int) int {
	*n = *n*1664525 + 1013904223
	return int(*n>>8) % below
}

// filled gives the components of a picture their samples: chance, a slope, or a pattern of extremes.
func filled(m api.Image, seed int) api.Image {
	n := noise(seed)
	kind := n.next(3)
	for i := range m.Comps {
		c := &m.Comps[i]
		c.Data = nil
		for j := range size(canvas.Part(whole(m), c.Dx, c.Dy)) {
			x := []int{n.next(1 << c.Depth), j % (1 << c.Depth), j % 2 * (1<<c.Depth - 1)}[kind]
			if c.Signed {
				x -= 1 << (c.Depth - 1)
			}
			c.Data = append(c.Data, x)
		}
	}
	return m
}

// valid returns a valid picture and valid params.
func valid(seed int) (api.Image, api.Params) {
	n := noise(seed*977 + 5)
	for {
		m := api.Image{X: 1 + n.next(64), Y: 1 + n.next(64)}
		if n.next(2) == 0 {
			m.Ox, m.Oy = n.next(m.X), n.next(m.Y)
		}
		c := api.Comp{Depth: 1 + n.next(16), Signed: n.next(2) == 1, Dx: 1, Dy: 1}
		if n.next(3) == 0 {
			c.Dx, c.Dy = 1+n.next(4), 1+n.next(4)
		}
		m.Comps = slices.Repeat([]api.Comp{c}, 1+n.next(4))
		if len(m.Comps) == 4 {
			m.Comps[3] = api.Comp{Depth: 1 + n.next(16), Dx: 1 + n.next(3), Dy: 1 + n.next(3)}
		}
		p := api.Params{Tx: m.Ox + 1 + n.next(70), Ty: m.Oy + 1 + n.next(70), Levels: n.next(6), Cbw: 2 + n.next(5), Cbh: 2 + n.next(5), Prec: 1 + n.next(15), Style: n.next(64), Order: n.next(5), Layers: 1 + n.next(8), Rct: len(m.Comps) > 2 && n.next(2) == 1, Sop: n.next(2) == 1, Eph: n.next(2) == 1}
		if canvas.Frame(m, p) == api.OK {
			return filled(m, seed), p
		}
	}
}

func small() (api.Image, api.Params) {
	m := api.Image{X: 1, Y: 9, Comps: []api.Comp{{Depth: 8, Dx: 1, Dy: 1, Data: []int{101, 103, 104, 105, 96, 97, 96, 102, 109}}}}
	return m, api.Params{Tx: 64, Ty: 64, Levels: 1, Cbw: 3, Cbh: 3, Prec: 15, Layers: 1}
}

func unhex(t *testing.T, s string) []byte {
	b, err := hex.DecodeString(strings.ReplaceAll(s, " ", ""))
	if err != nil {
		t.Fatal(err)
	}
	return b
}

func TestKnownStreams(t *testing.T) { // P1801: streams that another decoder of the standard reads as the same picture
	m, p := small()
	marked := p
	marked.Sop, marked.Eph, marked.Layers, marked.Order = true, true, 2, api.RPCL
	const picture = "FF4F FF51 0029 0000 00000001 00000009 00000000 00000000 00000040 00000040 00000000 00000000 0001 070101 FF52 000E "
	const bands = "FF5C 0007 60 40 48 48 50 "
	for _, x := range []struct {
		p    api.Params
		want string
	}{
		{p, picture + "01 00 0001 00 01 01 01 00 01 FFFF " + bands + "FF90 000A 0000 0000001E 00 01 FF93 C3EA06 018F0DC8757F C03E10C0 0FB17F FFD9"},
		{marked, picture + "07 02 0002 00 01 01 01 00 01 FFFF " + bands + "FF90 000A 0000 00000042 00 01 FF93 FF91 0004 0000 C3E20C FF92 018F0DC8757F FF91 0004 0001 FC4000 FF92 FF91 0004 0002 C03830 FF92 0FB17F FF91 0004 0003 F400 FF92 FFD9"},
	} {
		got, e := Encode(m, x.p, nil)
		want := unhex(t, x.want)
		if e != api.OK || !slices.Equal(got, want) {
			t.Errorf("%X, %v\nwant %X", got, e, want)
		}
		if back, e := Decode(want, 9, 0); e != api.OK || !Same(back, m) {
			t.Errorf("%v, %v", back, e)
		}
	}
}

func TestLossless(t *testing.T) { // P1803 (T1)
	for seed := range 250 {
		m, p := valid(seed)
		comment := make([]byte, seed*seed%1001)
		b, e := Encode(m, p, comment)
		if e != api.OK {
			t.Fatalf("seed %d: %v", seed, e)
		}
		for _, n := range []int{p.Layers, p.Layers + 1, math.MaxInt} {
			if got, e := Decode(b, n, 0); e != api.OK || !Same(got, m) {
				t.Fatalf("seed %d, %d layers: %v, %+v", seed, n, e, p)
			}
		}
		h, _, e := marks.Parse(b)
		if e != api.OK || !marks.Same(h, marks.Head{M: m, P: p, Comment: comment}) {
			t.Fatalf("seed %d: %v, %v", seed, h, e)
		}
	}
}

func TestGreatestPictures(t *testing.T) { // P1803
	for seed := range 6 {
		c := api.Comp{Depth: 16, Dx: 1, Dy: 1, Signed: seed%2 == 1}
		m := filled(api.Image{X: 64, Y: 64, Comps: []api.Comp{c, c, c, c}}, seed)
		p := api.Params{Tx: 64, Ty: 64, Levels: 5, Cbw: 6, Cbh: 6, Prec: 1 + 14*(seed%2), Style: 63 * (seed % 2), Order: seed % 5, Layers: 8, Rct: true, Sop: true, Eph: true}
		b, e := Encode(m, p, nil)
		if e != api.OK {
			t.Fatal(e)
		}
		if got, e := Decode(b, 8, 0); e != api.OK || !Same(got, m) {
			t.Errorf("seed %d: %v", seed, e)
		}
	}
}

func TestLayersInAllOrders(t *testing.T) { // P1803 (T3)
	for seed := range 40 {
		m, p := valid(seed)
		p.Layers = 2 + seed%7
		for n := 1; n <= p.Layers; n++ {
			var first api.Image
			for order := range 5 {
				p.Order = order
				b, _ := Encode(m, p, nil)
				got, e := Decode(b, n, 0)
				if e != api.OK {
					t.Fatalf("seed %d: %v", seed, e)
				}
				if order == 0 {
					first = got
				} else if !Same(got, first) {
					t.Errorf("seed %d, %d of %d layers: order %d gives another picture", seed, n, p.Layers, order)
				}
			}
			if n == p.Layers && !Same(first, m) {
				t.Errorf("seed %d: all layers give another picture", seed)
			}
		}
	}
}

func TestLayersHaveTheirPasses(t *testing.T) { // P1802 (T3)
	for seed := range 64 {
		m := filled(api.Image{X: 16, Y: 13, Comps: []api.Comp{{Depth: 9, Dx: 1, Dy: 1}}}, seed)
		p := api.Params{Tx: 16, Ty: 16, Cbw: 4, Cbh: 4, Prec: 15, Layers: 5, Style: seed, Order: seed % 5}
		b, _ := Encode(m, p, nil)
		x, _ := tier.Encode(16, 13, api.LL, seed, color.Shift(9, false, m.Comps[0].Data))
		for n := 1; n <= 5; n++ {
			v, _ := tier.Decode(16, 13, api.LL, seed, x, layers.Passes(len(x.Passes), 5, n))
			got, e := Decode(b, n, 0)
			if e != api.OK || !slices.Equal(got.Comps[0].Data, color.Unshift(9, false, v)) {
				t.Errorf("style %d, %d layers: %v", seed, n, e)
			}
		}
	}
}

func TestFewerResolutions(t *testing.T) { // P1802, P1803 (T5)
	for seed := range 80 {
		m, p := valid(seed)
		p.Rct = false
		p.Tx, p.Ty = 1<<16, 64
		b, e := Encode(m, p, nil)
		if e != api.OK {
			t.Fatal(e)
		}
		for less := range p.Levels + 1 {
			want := api.Image{X: m.X, Y: m.Y, Ox: m.Ox, Oy: m.Oy}
			for _, c := range m.Comps {
				bands := dwt.Split(canvas.Part(whole(m), c.Dx, c.Dy), less, color.Shift(c.Depth, c.Signed, c.Data))
				want.Comps = append(want.Comps, api.Comp{Depth: c.Depth, Signed: c.Signed, Dx: c.Dx << less, Dy: c.Dy << less, Data: color.Unshift(c.Depth, c.Signed, bands[0])})
			}
			if got, e := Decode(b, p.Layers, less); e != api.OK || !Same(got, want) {
				t.Errorf("seed %d, %d less: %v", seed, less, e)
			}
		}
		if _, e := Decode(b, p.Layers, p.Levels+1); e != api.ErrArg {
			t.Errorf("seed %d: %v", seed, e)
		}
	}
}

func TestFewerResolutionsOfTilesAndTurned(t *testing.T) { // P1802
	for seed := range 80 {
		m, p := valid(seed)
		b, _ := Encode(m, p, nil)
		for less := range p.Levels + 1 {
			got, e := Decode(b, 1+seed%8, less)
			if e != api.OK || len(got.Comps) != len(m.Comps) {
				t.Fatalf("seed %d: %v", seed, e)
			}
			for i, c := range got.Comps {
				if c.Dx != m.Comps[i].Dx<<less || len(c.Data) != size(canvas.Part(whole(m), c.Dx, c.Dy)) {
					t.Errorf("seed %d, component %d: %d samples", seed, i, len(c.Data))
				}
				for _, x := range c.Data {
					if low := -1 << (c.Depth - 1); c.Signed && (x < low || x >= -low) || !c.Signed && (x < 0 || x >= 1<<c.Depth) {
						t.Errorf("seed %d: sample %d in depth %d", seed, x, c.Depth)
					}
				}
			}
		}
	}
}

func TestEncodeErrors(t *testing.T) { // P1801
	m, p := small()
	long := make([]byte, 1001)
	if b, e := Encode(m, p, long); e != api.ErrLong || len(b) != 0 {
		t.Errorf("%v", e)
	}
	if _, e := Encode(m, p, long[:1000]); e != api.OK {
		t.Errorf("%v", e)
	}
	m.Comps[0].Data[8] = 256
	if b, e := Encode(m, p, long); e != api.ErrOver || len(b) != 0 {
		t.Errorf("%v", e)
	}
	m.Comps[0].Data = m.Comps[0].Data[:8]
	if b, e := Encode(m, p, nil); e != api.ErrSize || len(b) != 0 {
		t.Errorf("%v", e)
	}
	p.Levels = 6
	if b, e := Encode(m, p, nil); e != api.ErrArg || len(b) != 0 {
		t.Errorf("%v", e)
	}
	if b, e := Encode(api.Image{}, api.Params{}, nil); e != api.ErrArg || len(b) != 0 {
		t.Errorf("%v", e)
	}
}

func TestDecodeErrorsInOrder(t *testing.T) { // P1802, P6
	m, p := small()
	b, _ := Encode(m, p, nil)
	big := append(slices.Clone(b), make([]byte, api.MaxStream)...)
	way := slices.Clone(b)
	way[3] = 0x53
	cut := b[:len(b)-1]
	for i, x := range []struct {
		b            []byte
		layers, less int
		want         api.Errno
	}{
		{big, 0, 0, api.ErrArg}, {nil, -1, 0, api.ErrArg}, {nil, 1, -1, api.ErrArg}, {b, math.MinInt, 0, api.ErrArg}, {b, 1, math.MinInt, api.ErrArg},
		{big, 1, 9, api.ErrLimit}, {big[:api.MaxStream+1], 1, 0, api.ErrLimit}, {big[:api.MaxStream], 1, 0, api.ErrBad},
		{nil, 1, 9, api.ErrBad}, {way, 1, 0, api.ErrBad},
		{cut, 1, 2, api.ErrArg}, {cut, 1, math.MaxInt, api.ErrArg}, {cut, 1, 1, api.ErrBad},
		{b, 1, 1, api.OK},
	} {
		got, e := Decode(x.b, x.layers, x.less)
		if e != x.want || e != api.OK && !Same(got, api.Image{}) {
			t.Errorf("%d: %v, want %v", i, e, x.want)
		}
	}
	main := marks.Main(marks.Head{M: m, P: p})
	other := append(slices.Clone(main), 0xFF, 0x53, 0, 2)
	if _, e := Decode(other, 1, 9); e != api.ErrWay {
		t.Errorf("%v", e)
	}
}

// tiles returns a stream of four tiles, the offset of each, and that of the end.
func tiles(t *testing.T, sop, eph bool) (m api.Image, b []byte, at []int) {
	m = filled(api.Image{X: 20, Y: 20, Comps: []api.Comp{{Depth: 5, Dx: 1, Dy: 1}}}, 1)
	p := api.Params{Tx: 12, Ty: 12, Levels: 1, Cbw: 2, Cbh: 2, Prec: 15, Layers: 2, Sop: sop, Eph: eph}
	b, e := Encode(m, p, nil)
	if e != api.OK {
		t.Fatal(e)
	}
	_, n, _ := marks.Parse(b)
	for range 4 {
		at = append(at, n)
		n += int(b[n+8])<<8 + int(b[n+9])
	}
	if n != len(b)-2 {
		t.Fatalf("the tiles end at %d of %d", n, len(b))
	}
	return m, b, append(at, n)
}

func TestDecodeChecksTheForm(t *testing.T) { // P1802
	for _, marked := range []bool{false, true} {
		m, b, at := tiles(t, marked, marked)
		if got, e := Decode(b, 2, 0); e != api.OK || !Same(got, m) {
			t.Fatal(e)
		}
		join := func(l ...[]byte) []byte { return slices.Concat(l...) }
		part := func(i int) []byte { return b[at[i]:at[i+1]] }
		set := func(i int, x ...byte) []byte { return join(b[:i], x, b[i+len(x):]) }
		longer := func(i, more int, tail ...byte) []byte {
			n := at[i+1] - at[i] + more
			return join(b[:at[i]+8], []byte{byte(n >> 8), byte(n)}, b[at[i]+10:at[i+1]], tail, b[at[i+1]:])
		}
		for name, x := range map[string][]byte{
			"no tiles":             join(b[:at[0]], b[at[4]:]),
			"a tile missing":       join(b[:at[3]], b[at[4]:]),
			"a tile twice":         join(b[:at[1]], part(0), b[at[1]:]),
			"tiles exchanged":      join(b[:at[1]], part(2), part(1), b[at[3]:]),
			"another number":       set(at[1]+5, 2),
			"another high number":  set(at[1]+4, 1),
			"SOT of other length":  set(at[1]+3, 11),
			"another part":         set(at[1]+10, 1),
			"of two parts":         set(at[1]+11, 2),
			"no part said":         set(at[1]+11, 0),
			"no FF93":              set(at[1]+13, 0x92),
			"no FF90":              set(at[1]+1, 0x91),
			"length 0":             set(at[3]+6, 0, 0, 0, 0),
			"length 13":            set(at[3]+6, 0, 0, 0, 13),
			"length too great":     set(at[3]+6, 0, 1, 0, 0),
			"length far too great": set(at[3]+6, 255, 255, 255, 255),
			"length short":         longer(3, -1),
			"length over FFD9":     longer(3, 2),
			"a byte behind":        longer(1, 1, 0),
			"a packet behind":      longer(3, 1, 0),
			"no FFD9":              b[:at[4]],
			"FFD9 cut":             b[:at[4]+1],
			"no end":               set(at[4]+1, 0xD8),
			"bytes behind":         join(b, []byte{0}),
			"FFD9 twice":           join(b, []byte{0xFF, 0xD9}),
		} {
			if got, e := Decode(x, 2, 0); e != api.ErrBad || !Same(got, api.Image{}) {
				t.Errorf("%s: %v", name, e)
			}
		}
		for i := range b {
			if _, e := Decode(b[:i], 2, 0); e != api.ErrBad {
				t.Errorf("%d of %d bytes: %v", i, len(b), e)
			}
		}
	}
}

func TestDecodeChecksMarksOfPackets(t *testing.T) { // P1802
	_, b, at := tiles(t, true, true)
	for tile := range 4 {
		n := 0
		for i := at[tile] + 14; i < at[tile+1]; i++ {
			if b[i] != 0xFF || b[i+1] != 0x91 && b[i+1] != 0x92 {
				continue
			}
			for j, x := range map[int]byte{0: 0xFE, 1: b[i+1] ^ 1, 2: 1, 3: 5, 4: 1, 5: byte(n + 1)} {
				if b[i+1] == 0x92 && j > 1 {
					continue
				}
				broken := slices.Clone(b)
				broken[i+j] = x
				if _, e := Decode(broken, 2, 0); e != api.ErrBad {
					t.Errorf("tile %d, mark %x, byte %d: %v", tile, b[i+1], j, e)
				}
			}
			if b[i+1] == 0x91 {
				if b[i+5] != byte(n) {
					t.Errorf("packet %d has number %d", n, b[i+5])
				}
				n++
			}
		}
		if n != 4 {
			t.Errorf("tile %d has %d packets", tile, n)
		}
	}
}

func TestAllPacketsAreRead(t *testing.T) { // P1802: whatever layers are asked for
	_, b, at := tiles(t, false, true)
	broken := slices.Clone(b)
	for i := at[4] - 2; ; i-- {
		if broken[i] == 0xFF && broken[i+1] == 0x92 {
			broken[i+1] = 0x93
			break
		}
	}
	for n := 1; n <= 2; n++ {
		if _, e := Decode(broken, n, 0); e != api.ErrBad {
			t.Errorf("%d layers: %v", n, e)
		}
		if _, e := Decode(b, n, 1); e != api.OK {
			t.Errorf("%d layers: %v", n, e)
		}
	}
}

func TestAnyBytesDecode(t *testing.T) { // P1, T2
	for seed := range 250 {
		m, p := valid(seed % 25)
		b, _ := Encode(m, p, nil)
		_, at, _ := marks.Parse(b)
		n := noise(seed)
		for range 1 + n.next(4) {
			i := n.next(len(b))
			if seed%3 > 0 {
				i = at + n.next(len(b)-at)
			}
			b[i] = byte(n.next(256))
		}
		for less := range 2 {
			if got, e := Decode(b, 1+n.next(8), less); e != api.OK && !Same(got, api.Image{}) {
				t.Fatalf("seed %d: a picture beside %v", seed, e)
			}
		}
	}
}

func TestNoMarkersInBodies(t *testing.T) { // T4
	for seed := range 60 {
		m, p := valid(seed)
		p.Sop, p.Eph = false, false
		b, _ := Encode(m, p, nil)
		_, n, _ := marks.Parse(b)
		for n < len(b)-2 {
			end := n + int(b[n+6])<<24 + int(b[n+7])<<16 + int(b[n+8])<<8 + int(b[n+9])
			for i := n + 14; i+1 < end; i++ {
				if b[i] == 255 && b[i+1] > 0x8F {
					t.Fatalf("seed %d: %x at %d", seed, b[i:i+2], i)
				}
			}
			n = end
		}
	}
}

func TestSame(t *testing.T) { // P1802
	picture := func() api.Image {
		return api.Image{X: 2, Y: 1, Comps: []api.Comp{{Depth: 3, Dx: 1, Dy: 1, Data: []int{1, 2}}, {Depth: 3, Dx: 2, Dy: 1, Data: []int{1}}}}
	}
	if !Same(picture(), picture()) || !Same(api.Image{Comps: []api.Comp{{}}}, api.Image{Comps: []api.Comp{{Data: []int{}}}}) {
		t.Error("equal pictures differ")
	}
	for i, f := range []func(m *api.Image){
		func(m *api.Image) { m.X++ }, func(m *api.Image) { m.Y++ }, func(m *api.Image) { m.Ox++ }, func(m *api.Image) { m.Oy++ },
		func(m *api.Image) { m.Comps = m.Comps[:1] }, func(m *api.Image) { m.Comps[1].Depth++ }, func(m *api.Image) { m.Comps[1].Signed = true },
		func(m *api.Image) { m.Comps[0].Dx++ }, func(m *api.Image) { m.Comps[0].Dy++ }, func(m *api.Image) { m.Comps[1].Data[0]++ }, func(m *api.Image) { m.Comps[0].Data = m.Comps[0].Data[:1] },
	} {
		m := picture()
		f(&m)
		if Same(m, picture()) || Same(picture(), m) {
			t.Errorf("change %d is not seen", i)
		}
	}
}

func TestArgumentsStay(t *testing.T) { // P2
	m, p := valid(3)
	var was [][]int
	for _, c := range m.Comps {
		was = append(was, slices.Clone(c.Data))
	}
	b, _ := Encode(m, p, []byte("x"))
	kept := slices.Clone(b)
	got, _ := Decode(b, 9, 0)
	for i := range got.Comps {
		for j := range got.Comps[i].Data {
			got.Comps[i].Data[j] = -1
		}
	}
	for i, c := range m.Comps {
		if !slices.Equal(c.Data, was[i]) {
			t.Error("the picture was changed")
		}
	}
	if !slices.Equal(b, kept) {
		t.Error("the stream was changed")
	}
}
