package marks

import (
	"encoding/hex"
	"math"
	"slices"
	"strings"
	"testing"

	"wavelet/api"
	"wavelet/canvas"
)

func unhex(t *testing.T, s string) []byte {
	b, err := hex.DecodeString(strings.ReplaceAll(s, " ", ""))
	if err != nil {
		t.Fatal(err)
	}
	return b
}

// gray is a Head with one component; color is one with four that says all it can.
func gray() Head {
	return Head{M: api.Image{X: 17, Y: 9, Ox: 1, Oy: 2, Comps: []api.Comp{{Depth: 8, Dx: 1, Dy: 1}}}, P: api.Params{Tx: 64, Ty: 300, Levels: 1, Cbw: 2, Cbh: 6, Prec: 15, Layers: 1}}
}

func color() Head {
	c := api.Comp{Depth: 12, Signed: true, Dx: 2, Dy: 1}
	return Head{
		M:       api.Image{X: 17, Y: 9, Comps: []api.Comp{c, c, c, {Depth: 16, Dx: 3, Dy: 4}}},
		P:       api.Params{Tx: 9, Ty: 9, Levels: 2, Cbw: 4, Cbh: 3, Prec: 7, Style: 63, Order: api.CPRL, Layers: 8, Rct: true, Sop: true, Eph: true},
		Comment: []byte("hi"),
	}
}

const (
	grayHex  = "FF4F FF51 0029 0000 00000011 00000009 00000001 00000002 00000040 0000012C 00000000 00000000 0001 07 01 01 FF52 000E 01 00 0001 00 01 00 04 00 01 FF FF FF5C 0007 60 40 48 48 50"
	colorHex = "FF4F FF51 0032 0000 00000011 00000009 00000000 00000000 00000009 00000009 00000000 00000000 0004 8B 02 01 8B 02 01 8B 02 01 0F 03 04 FF52 000F 07 04 0008 01 02 02 01 3F 01 77 77 77 FF5C 000A 60 88 90 90 98 90 90 98 FF64 0006 0001 6869"
)

func TestMain(t *testing.T) { // P1701
	for _, x := range []struct {
		h    Head
		want string
	}{{gray(), grayHex}, {color(), colorHex}} {
		if got := Main(x.h); !slices.Equal(got, unhex(t, x.want)) {
			t.Errorf("%X\nwant %s", got, x.want)
		}
	}
	h := gray()
	h.M.Comps[0].Data = []int{1, 2, 3}
	if got := Main(h); !slices.Equal(got, unhex(t, grayHex)) {
		t.Error("Data is looked at")
	}
	h.P.Sop = true
	if got := Main(h); got[49] != 3 {
		t.Errorf("Sop: %X", got[49])
	}
	h.P.Sop, h.P.Eph = false, true
	if got := Main(h); got[49] != 5 {
		t.Errorf("Eph: %X", got[49])
	}
}

func TestParseReadsMain(t *testing.T) { // P1702, P1703
	for _, h := range []Head{gray(), color()} {
		for _, comment := range []int{0, 1, 1000} {
			h.Comment = []byte(strings.Repeat("\xff", comment))
			b := Main(h)
			was := append(slices.Clone(b), 0xFF, 0x90)
			in := slices.Clone(was)
			in = append(in, 0xFF, 0x4F)
			got, n, e := Parse(in)
			clear(in)
			if e != api.OK || n != len(b) || !Same(got, h) {
				t.Errorf("%v, %d, %v", got, n, e)
			}
			for _, c := range got.M.Comps {
				if len(c.Data) != 0 {
					t.Error("a component with Data")
				}
			}
			for i := range len(was) {
				if g, n, e := Parse(was[:i]); e != api.ErrBad || n != 0 || !Same(g, Head{}) {
					t.Errorf("%d of %d bytes: %v", i, len(was), e)
				}
			}
		}
	}
}

func TestEachParamSurvives(t *testing.T) { // P1703
	for seed := range 500 {
		h := gray()
		n := seed*2654435761 + 12345
		next := func(below int) int {
			n = (n*1103515245 + 12345) & (1<<31 - 1)
			return n >> 8 % (1 << 20) % below
		}
		h.M = api.Image{X: 33 + next(32), Y: 33 + next(32), Ox: next(33), Oy: next(33)}
		c := api.Comp{Depth: 1 + next(16), Signed: next(2) == 1, Dx: 1 + next(4), Dy: 1 + next(4)}
		h.M.Comps = slices.Repeat([]api.Comp{c}, 1+next(4))
		h.P = api.Params{Tx: 33 + next(65504), Ty: 33 + next(65504), Levels: next(6), Cbw: 2 + next(5), Cbh: 2 + next(5), Prec: 1 + next(15), Style: next(64), Order: next(5), Layers: 1 + next(8), Rct: len(h.M.Comps) > 2 && next(2) == 1, Sop: next(2) == 1, Eph: next(2) == 1}
		if e := canvas.Frame(h.M, h.P); e != api.OK {
			t.Fatalf("seed %d: %v", seed, e)
		}
		b := Main(h)
		got, size, e := Parse(append(slices.Clone(b), 0xFF, 0x90))
		if e != api.OK || size != len(b) || !Same(got, h) {
			t.Fatalf("seed %d: %v, %d, %v\nwant %v", seed, got, size, e, h)
		}
	}
}

// The segments of gray, to be put together in other ways.
const (
	begin = "FF4F "
	sizH  = "FF51 0029 0000 00000011 00000009 00000001 00000002 00000040 0000012C 00000000 00000000 0001 07 01 01 "
	codH  = "FF52 000E 01 00 0001 00 01 00 04 00 01 FF FF "
	qcdH  = "FF5C 0007 60 40 48 48 50 "
	sotH  = "FF90 "
)

func TestParseOfOtherHeaders(t *testing.T) { // P1702
	for _, x := range []struct {
		name, hex string
		want      api.Errno
		comment   string
	}{
		{"as it is", begin + sizH + codH + qcdH + sotH, api.OK, ""},
		{"another order", begin + sizH + qcdH + codH + sotH, api.OK, ""},
		{"comments", begin + sizH + "FF64 0005 0000 41 " + qcdH + "FF64 0006 0001 4243 " + codH + sotH, api.OK, "BC"},
		{"last comment empty", begin + sizH + qcdH + "FF64 0006 0001 4243 " + codH + "FF64 0004 0001 " + sotH, api.OK, ""},
		{"comment of one byte", begin + sizH + codH + qcdH + "FF64 0003 00 " + sotH, api.ErrBad, ""},
		{"comment of no byte", begin + sizH + codH + qcdH + "FF64 0002 " + sotH, api.ErrBad, ""},
		{"skipped segments", begin + sizH + "FF55 0003 01 FF57 0002 FF00 0002 FFFF 0002 " + codH + "FFB7 0004 FF90 " + qcdH + sotH, api.OK, ""},
		{"markers alone", begin + sizH + "FF30 FF3F " + codH + qcdH + "FF31 " + sotH, api.OK, ""},
		{"FF2F has a length", begin + sizH + "FF2F 0002 FF40 0002 " + codH + qcdH + sotH, api.OK, ""},
		{"nothing", "", api.ErrBad, ""},
		{"no FF4F", sizH + codH + qcdH + sotH, api.ErrBad, ""},
		{"FFD9", "FFD9", api.ErrBad, ""},
		{"no FF51", begin + codH + qcdH + sotH, api.ErrBad, ""},
		{"FF51 late", begin + codH + sizH + qcdH + sotH, api.ErrBad, ""},
		{"FF51 again", begin + sizH + sizH + codH + qcdH + sotH, api.ErrBad, ""},
		{"FF52 again", begin + sizH + codH + codH + qcdH + sotH, api.ErrBad, ""},
		{"FF5C again", begin + sizH + codH + qcdH + qcdH + sotH, api.ErrBad, ""},
		{"no FF52", begin + sizH + qcdH + sotH, api.ErrBad, ""},
		{"no FF5C", begin + sizH + codH + sotH, api.ErrBad, ""},
		{"FF4F again", begin + sizH + "FF4F " + codH + qcdH + sotH, api.ErrBad, ""},
		{"FF91", begin + sizH + "FF91 0004 0000 " + codH + qcdH + sotH, api.ErrBad, ""},
		{"FF92", begin + sizH + "FF92 0002 " + codH + qcdH + sotH, api.ErrBad, ""},
		{"FF93", begin + sizH + "FF93 0002 " + codH + qcdH + sotH, api.ErrBad, ""},
		{"FFD9 early", begin + sizH + codH + qcdH + "FFD9 0002 " + sotH, api.ErrBad, ""},
		{"no marker", begin + sizH + "0064 0002 " + codH + qcdH + sotH, api.ErrBad, ""},
		{"length 1", begin + sizH + "FF55 0001 " + codH + qcdH + sotH, api.ErrBad, ""},
		{"length 0", begin + sizH + "FF55 0000 " + codH + qcdH + sotH, api.ErrBad, ""},
		{"length too long", begin + sizH + codH + qcdH + "FF55 0005 FF90 ", api.ErrBad, ""},
		{"ways", begin + sizH + "FF53 0002 ", api.ErrWay, ""},
		{"way FF5D", begin + sizH + "FF5D 0002 ", api.ErrWay, ""},
		{"way FF5E", begin + sizH + "FF5E 0002 ", api.ErrWay, ""},
		{"way FF5F", begin + sizH + codH + "FF5F 0002 ", api.ErrWay, ""},
		{"way FF60", begin + sizH + "FF60 0002 ", api.ErrWay, ""},
		{"way FF61", begin + sizH + "FF61 0003 00 ", api.ErrWay, ""},
		{"way cut", begin + sizH + "FF53 0003 ", api.ErrBad, ""},
		{"way, length 1", begin + sizH + "FF53 0001 00 ", api.ErrBad, ""},
		{"way behind a fault", begin + sizH + "FF55 0001 FF53 0002 ", api.ErrBad, ""},
		{"way before FF51", begin + "FF53 0002 " + sizH, api.ErrBad, ""},
		{"other transform", begin + sizH + "FF52 000E 00 09 0000 07 01 00 04 FF 00 FF FF ", api.ErrWay, ""},
		{"other transform, short", begin + sizH + "FF52 000C 01 00 0001 00 01 00 04 00 00 ", api.ErrWay, ""},
		{"other transform, shorter", begin + sizH + "FF52 000B 01 00 0001 00 01 00 04 00 ", api.ErrBad, ""},
		{"other transform, cut", begin + sizH + "FF52 000E 01 00 0001 00 01 00 04 00 00 FF ", api.ErrBad, ""},
		{"other transform again", begin + sizH + codH + "FF52 000E 01 00 0001 00 01 00 04 00 00 FF FF ", api.ErrBad, ""},
		{"quantized", begin + sizH + "FF5C 0003 61 ", api.ErrWay, ""},
		{"quantized much", begin + sizH + "FF5C 0003 90 ", api.ErrWay, ""},
		{"quantized again", begin + sizH + qcdH + "FF5C 0003 61 ", api.ErrBad, ""},
		{"FF5C empty", begin + sizH + "FF5C 0002 " + codH + sotH, api.ErrBad, ""},
		{"FF5C with other guards", begin + sizH + "FF5C 0007 40 40 48 48 50 " + codH + sotH, api.ErrBad, ""},
		{"FF5C with other bits", begin + sizH + "FF5C 0007 60 40 48 48 58 " + codH + sotH, api.ErrBad, ""},
		{"FF5C too short", begin + sizH + "FF5C 0006 60 40 48 48 " + codH + sotH, api.ErrBad, ""},
		{"FF5C too long", begin + sizH + "FF5C 0008 60 40 48 48 50 50 " + codH + sotH, api.ErrBad, ""},
		{"Frame before FF5C", begin + strings.Replace(sizH, "00000011", "00000041", 1) + "FF5C 0002 " + codH + sotH, api.ErrLimit, ""},
		{"FF5C missing before Frame", begin + strings.Replace(sizH, "00000011", "00000041", 1) + codH + sotH, api.ErrBad, ""},
		{"no picture", begin + strings.Replace(sizH, "00000011", "00000001", 1) + codH + qcdH + sotH, api.ErrArg, ""},
		{"no comps", begin + "FF51 0026 0000 00000011 00000009 00000001 00000002 00000040 0000012C 00000000 00000000 0000 " + codH + qcdH + sotH, api.ErrMany, ""},
		{"too few comps", begin + strings.Replace(sizH, "0001 07", "0002 07", 1) + codH + qcdH + sotH, api.ErrBad, ""},
		{"too many comps", begin + strings.Replace(sizH, "0001 07", "0000 07", 1) + codH + qcdH + sotH, api.ErrBad, ""},
		{"FF51 too short", begin + "FF51 0004 0000 " + codH + qcdH + sotH, api.ErrBad, ""},
		{"FF51 empty", begin + "FF51 0002 " + codH + qcdH + sotH, api.ErrBad, ""},
		{"FF51 cut", begin + "FF51 0029 0000 ", api.ErrBad, ""},
		{"FF51 of another profile", begin + strings.Replace(sizH, "0029 0000", "0029 0001", 1) + codH + qcdH + sotH, api.ErrBad, ""},
		{"tiles moved", begin + strings.Replace(sizH, "00000000 00000000", "00000001 00000000", 1) + codH + qcdH + sotH, api.ErrBad, ""},
		{"tiles moved down", begin + strings.Replace(sizH, "00000000 00000000", "00000000 00000001", 1) + codH + qcdH + sotH, api.ErrBad, ""},
		{"tiles moved both ways", begin + strings.Replace(sizH, "00000000 00000000", "00000001 00000001", 1) + codH + qcdH + sotH, api.ErrBad, ""},
		{"depth 17", begin + strings.Replace(sizH, "0001 07", "0001 10", 1) + codH + qcdH + sotH, api.ErrArg, ""},
		{"step 0", begin + strings.Replace(sizH, "07 01 01", "07 00 01", 1) + codH + qcdH + sotH, api.ErrArg, ""},
		{"no precincts said", begin + sizH + strings.Replace(codH, "000E 01", "000E 00", 1) + qcdH + sotH, api.ErrBad, ""},
		{"ways of marking", begin + sizH + strings.Replace(codH, "000E 01", "000E 09", 1) + qcdH + sotH, api.ErrBad, ""},
		{"order 5", begin + sizH + strings.Replace(codH, "01 00 0001", "01 05 0001", 1) + qcdH + sotH, api.ErrArg, ""},
		{"no layers", begin + sizH + strings.Replace(codH, "01 00 0001", "01 00 0000", 1) + qcdH + sotH, api.ErrBad, ""},
		{"nine layers", begin + sizH + strings.Replace(codH, "01 00 0001", "01 00 0009", 1) + qcdH + sotH, api.ErrBad, ""},
		{"256 layers", begin + sizH + strings.Replace(codH, "01 00 0001", "01 00 0100", 1) + qcdH + sotH, api.ErrBad, ""},
		{"turned", begin + sizH + strings.Replace(codH, "0001 00", "0001 01", 1) + qcdH + sotH, api.ErrKind, ""},
		{"turned twice", begin + sizH + strings.Replace(codH, "0001 00", "0001 02", 1) + qcdH + sotH, api.ErrBad, ""},
		{"levels 6", begin + sizH + "FF52 0013 01 00 0001 00 06 00 04 00 01 FF FF FF FF FF FF FF " + qcdH + sotH, api.ErrArg, ""},
		{"levels and length", begin + sizH + strings.Replace(codH, "00 01 00 04", "00 02 00 04", 1) + qcdH + sotH, api.ErrBad, ""},
		{"levels and a longer length", begin + sizH + strings.Replace(codH, "00 01 00 04", "00 00 00 04", 1) + qcdH + sotH, api.ErrBad, ""},
		{"Cbw 7", begin + sizH + strings.Replace(codH, "01 00 04", "01 05 04", 1) + qcdH + sotH, api.ErrArg, ""},
		{"Cbh 257", begin + sizH + strings.Replace(codH, "01 00 04", "01 00 FF", 1) + qcdH + sotH, api.ErrArg, ""},
		{"style 64", begin + sizH + strings.Replace(codH, "04 00 01", "04 40 01", 1) + qcdH + sotH, api.ErrBad, ""},
		{"transform 2", begin + sizH + strings.Replace(codH, "04 00 01", "04 00 02", 1) + qcdH + sotH, api.ErrBad, ""},
		{"precincts differ", begin + sizH + "FF52 000E 01 00 0001 00 01 00 04 00 01 FF EE " + qcdH + sotH, api.ErrBad, ""},
		{"precincts of 1", begin + sizH + "FF52 000E 01 00 0001 00 01 00 04 00 01 00 00 " + qcdH + sotH, api.ErrBad, ""},
		{"precincts not square", begin + sizH + "FF52 000E 01 00 0001 00 01 00 04 00 01 12 12 " + qcdH + sotH, api.ErrBad, ""},
		{"precincts of 2", begin + sizH + "FF52 000E 01 00 0001 00 01 00 04 00 01 11 11 " + qcdH + sotH, api.OK, ""},
		{"FF52 empty", begin + sizH + "FF52 0002 " + qcdH + sotH, api.ErrBad, ""},
	} {
		h, n, e := Parse(unhex(t, x.hex))
		if e != x.want || string(h.Comment) != x.comment {
			t.Errorf("%s: %v, %q, want %v", x.name, e, h.Comment, x.want)
		}
		if e == api.OK && n != len(unhex(t, x.hex))-2 || e != api.OK && (n != 0 || !Same(h, Head{})) {
			t.Errorf("%s: %v, %d", x.name, h, n)
		}
	}
}

func TestSame(t *testing.T) { // P1702
	if !Same(color(), color()) || !Same(Head{}, Head{Comment: []byte{}, M: api.Image{Comps: []api.Comp{}}}) {
		t.Error("equal Heads differ")
	}
	h := color()
	h.M.Comps[1].Data = []int{5}
	if !Same(h, color()) {
		t.Error("Data counts")
	}
	for i, f := range []func(h *Head){
		func(h *Head) { h.M.X++ }, func(h *Head) { h.M.Y++ }, func(h *Head) { h.M.Ox++ }, func(h *Head) { h.M.Oy++ },
		func(h *Head) { h.M.Comps = h.M.Comps[:3] }, func(h *Head) { h.M.Comps[3].Depth++ }, func(h *Head) { h.M.Comps[3].Signed = true },
		func(h *Head) { h.M.Comps[0].Dx++ }, func(h *Head) { h.M.Comps[0].Dy++ },
		func(h *Head) { h.P.Tx++ }, func(h *Head) { h.P.Ty++ }, func(h *Head) { h.P.Levels++ }, func(h *Head) { h.P.Cbw++ }, func(h *Head) { h.P.Cbh++ },
		func(h *Head) { h.P.Prec++ }, func(h *Head) { h.P.Style-- }, func(h *Head) { h.P.Order-- }, func(h *Head) { h.P.Layers-- },
		func(h *Head) { h.P.Rct = false }, func(h *Head) { h.P.Sop = false }, func(h *Head) { h.P.Eph = false },
		func(h *Head) { h.Comment = nil }, func(h *Head) { h.Comment = []byte("ho") },
	} {
		h := color()
		f(&h)
		if Same(h, color()) || Same(color(), h) {
			t.Errorf("change %d is not seen", i)
		}
	}
}

func TestArgumentsStay(t *testing.T) { // P2
	h := color()
	h.Comment = append(make([]byte, 0, 9), 'x')
	Main(h)
	if string(h.Comment[:2]) != "x\x00" {
		t.Error("the comment was changed")
	}
	b := append(Main(h), 0xFF, 0x90)
	got, _, _ := Parse(b)
	got.Comment[0] = 'y'
	if again, _, _ := Parse(b); string(again.Comment) != "x" {
		t.Error("the comment is part of the bytes")
	}
}

func TestAnyArgumentsEnd(t *testing.T) { // P1
	for _, n := range []int{math.MinInt, -1, 0, 6, 1 << 40, math.MaxInt} {
		h := gray()
		h.P.Levels, h.P.Prec, h.M.X = n, n, n
		Main(h)
		h.M.Comps[0].Depth = n
		Main(h)
	}
	Main(Head{Comment: make([]byte, 70000)})
	whole := append(Main(color()), 0xFF, 0x90)
	for i := range whole {
		for _, x := range []byte{0, 1, 0x52, 0x90, 0xFF} {
			b := slices.Clone(whole)
			b[i] = x
			if h, n, e := Parse(b); e != api.OK && (n != 0 || !Same(h, Head{})) {
				t.Errorf("byte %d is %d: %v, %d, %v", i, x, h, n, e)
			}
		}
	}
}
