package grammar

import (
	"encoding/hex"
	"slices"
	"strings"
	"testing"

	"wavelet/api"
	"wavelet/codec"
)

func unhex(t *testing.T, s string) []byte {
	b, err := hex.DecodeString(strings.ReplaceAll(s, " ", ""))
	if err != nil {
		t.Fatal(err)
	}
	return b
}

const (
	part = "FF90 000A 0000 0000000E 00 01 FF93 "
	end  = "FFD9"
)

func TestWalk(t *testing.T) { // P1901
	for _, x := range []struct {
		name, hex string
		marks, at []int // none where the form is wrong
	}{
		{"least", "FF4F " + part + end, []int{0xFF4F, 0xFF90, 0xFF93, 0xFFD9}, []int{0, 2, 14, 16}},
		{"segments", "FF4F FF51 0003 00 FF30 FF3F FF64 0002 " + part + end, []int{0xFF4F, 0xFF51, 0xFF30, 0xFF3F, 0xFF64, 0xFF90, 0xFF93, 0xFFD9}, []int{0, 2, 7, 9, 11, 15, 27, 29}},
		{"neighbours of FF30", "FF4F FF2F 0002 FF40 0002 " + part + end, []int{0xFF4F, 0xFF2F, 0xFF40, 0xFF90, 0xFF93, 0xFFD9}, []int{0, 2, 6, 10, 22, 24}},
		{"other markers", "FF4F FF91 0004 0000 FF92 0002 FF00 0002 FFFF 0002 FF52 0004 FFD9 " + part + end, []int{0xFF4F, 0xFF91, 0xFF92, 0xFF00, 0xFFFF, 0xFF52, 0xFF90, 0xFF93, 0xFFD9}, []int{0, 2, 8, 12, 16, 20, 26, 38, 40}},
		{"bytes of a tile part", "FF4F FF90 000A 0005 00000012 07 09 FF93 FFD9 FF90 " + end, []int{0xFF4F, 0xFF90, 0xFF93, 0xFFD9}, []int{0, 2, 14, 20}},
		{"two tile parts", "FF4F " + part + part + end, []int{0xFF4F, 0xFF90, 0xFF93, 0xFF90, 0xFF93, 0xFFD9}, []int{0, 2, 14, 16, 28, 30}},
		{"nothing", "", nil, nil},
		{"one byte", "FF", nil, nil},
		{"no FF4F", "FF51 0002 " + part + end, nil, nil},
		{"no tile part", "FF4F FFD9", nil, nil},
		{"no tile part behind a segment", "FF4F FF51 0002 FFD9", nil, nil},
		{"FF4F again", "FF4F FF4F 0002 " + part + end, nil, nil},
		{"FF93 in the header", "FF4F FF93 0002 " + part + end, nil, nil},
		{"FFD9 in the header", "FF4F FFD9 0002 " + part + end, nil, nil},
		{"no marker", "FF4F 0051 0002 " + part + end, nil, nil},
		{"length 1", "FF4F FF51 0001 " + part + end, nil, nil},
		{"length 0", "FF4F FF51 0000 " + part + end, nil, nil},
		{"length cut", "FF4F FF51 00", nil, nil},
		{"segment cut", "FF4F FF51 0004 00", nil, nil},
		{"header cut", "FF4F FF51 0002", nil, nil},
		{"segment over the end", "FF4F " + part + "FF51 00FF", nil, nil},
		{"FF90 of length 9", "FF4F FF90 0009 0000 0000000D 00 FF93 " + end, nil, nil},
		{"FF90 of length 11", "FF4F FF90 000B 0000 0000000F 00 01 00 FF93 " + end, nil, nil},
		{"FF90 cut", "FF4F FF90 000A 0000 0000000E 00", nil, nil},
		{"no FF93", "FF4F FF90 000A 0000 0000000E 00 01 FF92 " + end, nil, nil},
		{"FF93 late", "FF4F FF90 000A 0000 00000012 00 01 FF64 0002 FF93 " + end, nil, nil},
		{"FF93 cut", "FF4F FF90 000A 0000 0000000E 00 01 FF", nil, nil},
		{"part too short", "FF4F FF90 000A 0000 0000000D 00 01 FF93 " + end, nil, nil},
		{"part of no size", "FF4F FF90 000A 0000 00000000 00 01 FF93 " + end, nil, nil},
		{"part over FFD9", "FF4F FF90 000A 0000 00000010 00 01 FF93 " + end, nil, nil},
		{"part over the end", "FF4F FF90 000A 0000 00000011 00 01 FF93 " + end, nil, nil},
		{"part far over the end", "FF4F FF90 000A 0000 FFFFFFFF 00 01 FF93 " + end, nil, nil},
		{"no FFD9", "FF4F " + part, nil, nil},
		{"FFD9 cut", "FF4F " + part + "FF", nil, nil},
		{"a byte behind", "FF4F " + part + end + "00", nil, nil},
		{"FFD9 twice", "FF4F " + part + end + end, nil, nil},
		{"a segment behind a part", "FF4F " + part + "FF64 0002 " + end, nil, nil},
		{"a part behind FFD9", "FF4F " + part + end + part, nil, nil},
		{"the second part wrong", "FF4F " + part + "FF90 000A 0000 0000000E 00 01 FF92 " + end, nil, nil},
	} {
		b := unhex(t, x.hex)
		marks, at, e := Walk(b)
		want := api.OK
		if x.marks == nil {
			want = api.ErrBad
		}
		if e != want || !slices.Equal(marks, x.marks) || !slices.Equal(at, x.at) {
			t.Errorf("%s: %X, %v, %v", x.name, marks, at, e)
		}
	}
}

func TestClean(t *testing.T) { // P1901
	for s, want := range map[string]bool{
		"": true, "\xff": true, "\xff\x8f": true, "\xff\x90": false, "\xff\xff": false, "\xff\x00\xff": true,
		"\xfe\xff": true, "\xff\x8f\xff\x91": false, "\x01\x02\xff\xd9": false, "\xff\x00\x90": true,
	} {
		if got := Clean([]byte(s)); got != want {
			t.Errorf("%x: %v", s, got)
		}
	}
}

func TestWalkOfStreams(t *testing.T) { // P1902 (T4)
	m := api.Image{X: 40, Y: 30, Comps: []api.Comp{{Depth: 8, Dx: 1, Dy: 1}}}
	for i := range 1200 {
		m.Comps[0].Data = append(m.Comps[0].Data, i*i%256)
	}
	for tiles, side := range map[int][2]int{1: {64, 64}, 2: {20, 64}, 12: {10, 10}, 15: {8, 11}} {
		for order := range 5 {
			p := api.Params{Tx: side[0], Ty: side[1], Levels: order, Cbw: 3, Cbh: 3, Prec: 2 + order, Order: order, Layers: 1 + order, Sop: order%2 == 0, Eph: order%3 == 0}
			b, e := codec.Encode(m, p, []byte("\xff\x90"))
			if e != api.OK {
				t.Fatal(e)
			}
			marks, at, e := Walk(b)
			if e != api.OK {
				t.Fatalf("%d tiles: %v", tiles, e)
			}
			n := 0
			for i, x := range marks {
				if x == 0xFF90 {
					n++
				}
				if int(b[at[i]])<<8+int(b[at[i]+1]) != x {
					t.Errorf("%X is not at %d", x, at[i])
				}
			}
			if n != tiles {
				t.Errorf("%d tiles, want %d", n, tiles)
			}
		}
	}
}

func TestAnyBytesEnd(t *testing.T) { // P1
	b := unhex(t, "FF4F FF51 0003 00 FF30 "+part+part+end)
	for i := range b {
		for _, x := range []byte{0, 1, 0x30, 0x90, 0x93, 0xFF} {
			c := slices.Clone(b)
			c[i] = x
			for n := range len(c) + 1 {
				if marks, at, e := Walk(c[:n]); e != api.OK && len(marks)+len(at) > 0 {
					t.Fatal("markers beside an error")
				}
				Clean(c[:n])
			}
		}
	}
}
