package boxes

import (
	"encoding/hex"
	"slices"
	"strings"
	"testing"

	"wavelet/api"
	"wavelet/codec"
	"wavelet/marks"
)

func unhex(t *testing.T, s string) []byte {
	b, err := hex.DecodeString(strings.ReplaceAll(s, " ", ""))
	if err != nil {
		t.Fatal(err)
	}
	return b
}

func same(a, b []Box) bool {
	return slices.EqualFunc(a, b, func(x, y Box) bool { return x.Kind == y.Kind && slices.Equal(x.Data, y.Data) })
}

func TestWrite(t *testing.T) { // P2001
	got := Write([]Box{{"abcd", nil}, {"\x00\xff  ", []byte{1, 2, 3}}})
	if want := unhex(t, "00000008 61626364 0000000B 00FF2020 010203"); !slices.Equal(got, want) {
		t.Errorf("%X", got)
	}
	if got := Write(nil); len(got) != 0 {
		t.Errorf("%X", got)
	}
	Write([]Box{{"", []byte{1}}, {"more than four", nil}}) // P1
}

func TestRead(t *testing.T) { // P2001
	for _, x := range []struct {
		name, hex string
		want      []Box
		e         api.Errno
	}{
		{"nothing", "", nil, api.OK},
		{"two", "00000008 61626364 0000000B 65666768 010203", []Box{{"abcd", nil}, {"efgh", []byte{1, 2, 3}}}, api.OK},
		{"up to the end", "00000008 61626364 00000000 65666768 0102030405", []Box{{"abcd", nil}, {"efgh", []byte{1, 2, 3, 4, 5}}}, api.OK},
		{"nothing up to the end", "00000000 61626364", []Box{{"abcd", nil}}, api.OK},
		{"long length", "00000001 61626364 0000000000000012 0102 00000008 65666768", []Box{{"abcd", []byte{1, 2}}, {"efgh", nil}}, api.OK},
		{"long length of no Data", "00000001 61626364 0000000000000010", []Box{{"abcd", nil}}, api.OK},
		{"length cut", "000000", nil, api.ErrCut},
		{"length alone", "00000008", nil, api.ErrCut},
		{"short length alone", "00000002", nil, api.ErrCut},
		{"kind cut", "00000007 616263", nil, api.ErrCut},
		{"length 7", "00000007 61626364", nil, api.ErrBox},
		{"length 2", "00000002 61626364", nil, api.ErrBox},
		{"Data cut", "00000009 61626364", nil, api.ErrCut},
		{"length far too great", "FFFFFFFF 61626364 01", nil, api.ErrCut},
		{"long length cut", "00000001 61626364 00000000000000", nil, api.ErrCut},
		{"long length missing", "00000001 61626364", nil, api.ErrCut},
		{"long length 15", "00000001 61626364 000000000000000F", nil, api.ErrBox},
		{"long length 0", "00000001 61626364 0000000000000000 01", nil, api.ErrBox},
		{"long length, Data cut", "00000001 61626364 0000000000000011", nil, api.ErrCut},
		{"greatest long length", "00000001 61626364 7FFFFFFFFFFFFFFF 01", nil, api.ErrCut},
		{"most significant bit", "00000001 61626364 8000000000000000 01", nil, api.ErrCut},
		{"all bits", "00000001 61626364 FFFFFFFFFFFFFFFF 01", nil, api.ErrCut},
		{"one byte behind", "00000008 61626364 00", nil, api.ErrCut},
		{"second cut", "00000008 61626364 00000009 65666768", nil, api.ErrCut},
		{"second bad before third cut", "00000008 61626364 00000003 65666768 00", nil, api.ErrBox},
	} {
		b := unhex(t, x.hex)
		got, e := Read(b)
		clear(b)
		if e != x.e || !same(got, x.want) {
			t.Errorf("%s: %v, %v", x.name, got, e)
		}
	}
}

func TestReadOfManyBoxes(t *testing.T) { // P2001, P6
	l := slices.Repeat([]Box{{"abcd", []byte{1}}}, 100)
	b := Write(l)
	if got, e := Read(b); e != api.OK || !same(got, l) {
		t.Errorf("%d, %v", len(got), e)
	}
	for tail, want := range map[string]api.Errno{"00000008 61626364": api.ErrMany, "00000008 61626364 00": api.ErrMany, "00000008 616263": api.ErrCut, "00000006 61626364": api.ErrBox, "00000009 61626364": api.ErrCut} {
		if got, e := Read(append(slices.Clone(b), unhex(t, tail)...)); e != want || len(got) != 0 {
			t.Errorf("%s: %d, %v", tail, len(got), e)
		}
	}
}

func TestReadHandsOutItsOwn(t *testing.T) { // P2
	b := Write([]Box{{"abcd", []byte{1}}, {"efgh", []byte{2}}})
	l, _ := Read(b)
	_ = append(l[0].Data, 7, 7, 7, 7, 7, 7, 7, 7, 7)
	l[0].Data[0] = 9
	if again, _ := Read(b); again[0].Data[0] != 1 || l[1].Data[0] != 2 {
		t.Error("shared memory")
	}
}

// coded returns the stream of a picture with such components.
func coded(t *testing.T, l ...api.Comp) []byte {
	m := api.Image{X: 5, Y: 9, Ox: 2, Oy: 1}
	for _, c := range l {
		c.Dx, c.Dy, c.Data = 1, 1, make([]int, 24)
		m.Comps = append(m.Comps, c)
	}
	b, e := codec.Encode(m, api.Params{Tx: 64, Ty: 64, Cbw: 3, Cbh: 3, Prec: 15, Layers: 1}, nil)
	if e != api.OK {
		t.Fatal(e)
	}
	return b
}

const (
	startHex = "0000000C 6A502020 0D0A870A 00000014 66747970 6A703220 00000000 6A703220 "
	rightHex = "0000002D 6A703268 00000016 69686472 00000008 00000003 0001 07 07 00 00 0000000F 636F6C72 01 00 00 00000011"
)

func TestWrap(t *testing.T) { // P2002
	c := api.Comp{Depth: 8}
	s := api.Comp{Depth: 8, Signed: true}
	d := api.Comp{Depth: 12}
	for name, x := range map[string]struct {
		l    []api.Comp
		want string
	}{
		"one":             {[]api.Comp{c}, rightHex},
		"one with a sign": {[]api.Comp{s}, "0000002D 6A703268 00000016 69686472 00000008 00000003 0001 87 07 00 00 0000000F 636F6C72 01 00 00 00000011"},
		"three":           {[]api.Comp{d, d, d}, "0000002D 6A703268 00000016 69686472 00000008 00000003 0003 0B 07 00 00 0000000F 636F6C72 01 00 00 00000010"},
		"various":         {[]api.Comp{c, c, c, d}, "00000039 6A703268 00000016 69686472 00000008 00000003 0004 FF 07 00 00 0000000C 62706363 07 07 07 0B 0000000F 636F6C72 01 00 00 00000010"},
		"two signs":       {[]api.Comp{c, s}, "00000037 6A703268 00000016 69686472 00000008 00000003 0002 FF 07 00 00 0000000A 62706363 07 87 0000000F 636F6C72 01 00 00 00000011"},
	} {
		b := coded(t, x.l...)
		want := append(unhex(t, startHex+x.want), Write([]Box{{"jp2c", b}})...)
		got, e := Wrap(b)
		if e != api.OK || !slices.Equal(got, want) {
			t.Errorf("%s: %X, %v\nwant %X", name, got, e, want)
		}
		if back, e := Open(got); e != api.OK || !slices.Equal(back, b) { // P2003
			t.Errorf("%s: %v", name, e)
		}
	}
	if got, e := Wrap(nil); e != api.ErrBad || len(got) != 0 {
		t.Errorf("%v", e)
	}
	b := coded(t, c)
	b = append(b[:45], 0xFF, 0x53, 0, 2)
	if got, e := Wrap(b); e != api.ErrWay || len(got) != 0 {
		t.Errorf("%v", e)
	}
}

func TestWrapLooksAtTheHeaderOnly(t *testing.T) { // P2002
	b := coded(t, api.Comp{Depth: 8})
	_, n, _ := marks.Parse(b)
	short := b[:n+2]
	f, e := Wrap(short)
	if e != api.OK {
		t.Fatal(e)
	}
	if back, e := Open(f); e != api.OK || !slices.Equal(back, short) {
		t.Errorf("%v", e)
	}
}

func TestOpenErrors(t *testing.T) { // P2002, P6
	s := coded(t, api.Comp{Depth: 8})
	way := append(slices.Clone(s[:45]), 0xFF, 0x53, 0, 2)
	jp, ftyp := Box{"jP  ", []byte{13, 10, 135, 10}}, Box{"ftyp", []byte("anything")}
	ihdr := Box{"ihdr", unhex(t, "00000008 00000003 0001 07 07 00 00")}
	right := Box{"jp2h", Write([]Box{ihdr})}
	c := Box{"jp2c", s}
	in := func(l ...Box) Box { return Box{"jp2h", Write(l)} }
	changed := func(i int) Box {
		d := slices.Clone(ihdr.Data)
		d[i] ^= 1
		return in(Box{"ihdr", d})
	}
	for name, x := range map[string]struct {
		l    []Box
		want api.Errno
	}{
		"least":               {[]Box{jp, ftyp, right, c}, api.OK},
		"others":              {[]Box{jp, ftyp, {"uuid", nil}, right, {"jp2h", nil}, {"xml ", []byte{1}}, c, {"jp2c", nil}, {"uuid", nil}}, api.OK},
		"others in jp2h":      {[]Box{jp, ftyp, in(ihdr, Box{"ihdr", nil}), c}, api.OK},
		"other rest of ihdr":  {[]Box{jp, ftyp, changed(10), c}, api.OK},
		"no boxes":            {nil, api.ErrBox},
		"one box":             {[]Box{jp}, api.ErrBox},
		"no jP":               {[]Box{ftyp, right, c}, api.ErrBox},
		"jP second":           {[]Box{ftyp, jp, right, c}, api.ErrBox},
		"jP with others":      {[]Box{{"jP  ", []byte{13, 10, 135, 11}}, ftyp, right, c}, api.ErrBox},
		"jP with more":        {[]Box{{"jP  ", []byte{13, 10, 135, 10, 0}}, ftyp, right, c}, api.ErrBox},
		"ftyp third":          {[]Box{jp, {"uuid", nil}, ftyp, right, c}, api.ErrBox},
		"no jp2c":             {[]Box{jp, ftyp, right}, api.ErrBox},
		"no jp2h":             {[]Box{jp, ftyp, c}, api.ErrBox},
		"jp2h late":           {[]Box{jp, ftyp, c, right, c}, api.ErrBox},
		"jp2h cut":            {[]Box{jp, ftyp, {"jp2h", right.Data[:21]}, c}, api.ErrBox},
		"jp2h empty":          {[]Box{jp, ftyp, in(), c}, api.ErrBox},
		"ihdr second":         {[]Box{jp, ftyp, in(Box{"colr", nil}, ihdr), c}, api.ErrBox},
		"ihdr short":          {[]Box{jp, ftyp, in(Box{"ihdr", ihdr.Data[:13]}), c}, api.ErrBox},
		"ihdr long":           {[]Box{jp, ftyp, in(Box{"ihdr", append(slices.Clone(ihdr.Data), 0)}), c}, api.ErrBox},
		"another height":      {[]Box{jp, ftyp, changed(3), c}, api.ErrBox},
		"another width":       {[]Box{jp, ftyp, changed(7), c}, api.ErrBox},
		"other components":    {[]Box{jp, ftyp, changed(9), c}, api.ErrBox},
		"first jp2h counts":   {[]Box{jp, ftyp, in(), right, c}, api.ErrBox},
		"first jp2c counts":   {[]Box{jp, ftyp, right, {"jp2c", nil}, c}, api.ErrBad},
		"a way":               {[]Box{jp, ftyp, right, {"jp2c", way}}, api.ErrWay},
		"a way, other height": {[]Box{jp, ftyp, changed(0), {"jp2c", way}}, api.ErrWay},
		"a way, ihdr short":   {[]Box{jp, ftyp, in(Box{"ihdr", nil}), {"jp2c", way}}, api.ErrBox},
	} {
		b := Write(x.l)
		got, e := Open(b)
		if e != x.want || e == api.OK && !slices.Equal(got, s) || e != api.OK && len(got) != 0 {
			t.Errorf("%s: %v, want %v", name, e, x.want)
		}
	}
	b := Write([]Box{ftyp, right, c})
	if _, e := Open(b[:len(b)-1]); e != api.ErrCut {
		t.Errorf("%v", e)
	}
	if _, e := Open(append(b, 0, 0, 0, 5, 1, 1, 1, 1)); e != api.ErrBox {
		t.Errorf("%v", e)
	}
	whole, _ := Wrap(s)
	for i := range whole {
		if got, e := Open(whole[:i]); e == api.OK || len(got) != 0 {
			t.Errorf("%d bytes: %v", i, e)
		}
	}
	if got, e := Open(whole[:4]); e != api.ErrCut || len(got) != 0 {
		t.Errorf("%v", e)
	}
}

func TestArgumentsStay(t *testing.T) { // P2
	s := coded(t, api.Comp{Depth: 8})
	was := slices.Clone(s)
	f, _ := Wrap(s)
	back, _ := Open(f)
	kept := slices.Clone(f)
	clear(back)
	if !slices.Equal(s, was) || !slices.Equal(f, kept) {
		t.Error("an argument was changed")
	}
}
