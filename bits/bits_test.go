package bits

import (
	"math"
	"testing"

	"wavelet/api"
)

// written returns the bytes of bits that are given as a text of 0 and 1.
func written(bits string) []byte {
	w := NewWriter()
	for _, c := range bits {
		w.Bit(int(c - '0'))
	}
	return w.Bytes()
}

func TestWriterFillsBytes(t *testing.T) { // P201
	for bits, want := range map[string]string{
		"":                 "",
		"1":                "\x80",
		"0":                "\x00",
		"10100101":         "\xa5",
		"101001011":        "\xa5\x80",
		"11111111":         "\xff\x00",
		"111111111":        "\xff\x40",
		"111111110":        "\xff\x00",
		"111111111111111":  "\xff\x7f",
		"1111111111111111": "\xff\x7f\x80",
		"0000000011111111": "\x00\xff\x00",
		"1111111":          "\xfe",
		"11111111" + "1111111" + "11111111" + "1": "\xff\x7f\xff\x40",
	} {
		if got := written(bits); string(got) != want {
			t.Errorf("%s: %x, want %x", bits, got, want)
		}
	}
}

func TestBitTakesLowestBit(t *testing.T) { // P201
	w := NewWriter()
	for _, b := range []int{2, 3, -1, -2, math.MinInt, math.MaxInt} {
		w.Bit(b)
	}
	if got := w.Bytes(); string(got) != "\x64" {
		t.Errorf("%x", got)
	}
}

func TestBitsWritesNumbers(t *testing.T) { // P201
	w := NewWriter()
	w.Bits(5, 3)
	w.Bits(-1, 0)
	w.Bits(-1, 33)
	w.Bits(-1, -1)
	w.Bits(-1, math.MinInt)
	w.Bits(1<<40+1, 5)
	if got := w.Bytes(); string(got) != "\xa1" {
		t.Errorf("%x", got)
	}
	w.Bits(-2, 32)
	if got := w.Bytes(); string(got) != "\xa1\xff\x7f\xff\x7f\x80" {
		t.Errorf("%x", got)
	}
}

func TestBytesChangesNothing(t *testing.T) { // P201, P2
	w := NewWriter()
	w.Bits(255, 8)
	first := w.Bytes()
	first[0] = 0
	_ = append(first[:1], 77)
	if got := w.Bytes(); string(got) != "\xff\x00" {
		t.Errorf("%x", got)
	}
	w.Bit(1)
	if got := w.Bytes(); string(got) != "\xff\x40" {
		t.Errorf("%x", got)
	}
}

func TestReaderReadsBits(t *testing.T) { // P202
	b := []byte{0xa5, 0xff, 0x7f, 0x80}
	r := NewReader(b)
	b[0] = 0
	for i, want := range []int{1, 0, 1, 0, 0, 1, 0, 1} {
		if got := r.Bit(); got != want {
			t.Errorf("bit %d is %d", i, got)
		}
	}
	if n := r.Bits(15); n != 1<<15-1 {
		t.Errorf("Bits(15) = %x", n)
	}
	if n, e := r.End(); n != 3 || e != api.OK {
		t.Errorf("End = %d, %v", n, e)
	}
	for _, size := range []int{0, -1, 33, math.MaxInt, math.MinInt} {
		if n := r.Bits(size); n != 0 {
			t.Errorf("Bits(%d) = %d", size, n)
		}
	}
	if n := r.Bits(32); n != 1<<31 {
		t.Errorf("behind the end: %x", n)
	}
	if n, e := r.End(); n != 0 || e != api.ErrCut {
		t.Errorf("End = %d, %v", n, e)
	}
}

func TestEndCountsBegunBytes(t *testing.T) { // P202
	for _, x := range []struct {
		b    string
		bits int
		n    int
		e    api.Errno
	}{
		{"", 0, 0, api.OK},
		{"", 1, 0, api.ErrCut},
		{"\x00\xff", 0, 0, api.OK},
		{"\x00\xff", 1, 1, api.OK},
		{"\x00\x00", 8, 1, api.OK},
		{"\x00\x00", 9, 2, api.OK},
		{"\xff\x00", 1, 2, api.OK},
		{"\xff\x00", 8, 2, api.OK},
		{"\xff\x00", 15, 2, api.OK},
		{"\xff\x00", 16, 0, api.ErrCut},
		{"\xff\x00\x01", 16, 3, api.OK},
		{"\xff", 1, 0, api.ErrCut},
		{"\xff", 9, 0, api.ErrCut},
		{"\x00\xff", 9, 0, api.ErrCut},
		{"\xff\x80", 1, 0, api.ErrBad},
		{"\xff\x80", 9, 0, api.ErrBad},
		{"\xff\x7f\xff\x80", 16, 0, api.ErrBad},
		{"\xff\x7f\xff\x80", 15, 2, api.OK},
		{"\xff\x80\x00", 20, 0, api.ErrBad},
		{"\xff\x80\x00", 30, 0, api.ErrCut},
		{"\xff\xff", 9, 0, api.ErrCut},
		{"\xff\xff\x00", 9, 0, api.ErrBad},
		{"\x00\xff\xff", 8, 1, api.OK},
	} {
		r := NewReader([]byte(x.b))
		for range x.bits {
			r.Bit()
		}
		for range 2 {
			if n, e := r.End(); n != x.n || e != x.e {
				t.Errorf("%x, %d bits: %d, %v", x.b, x.bits, n, e)
			}
		}
	}
}

func TestEndLeavesReader(t *testing.T) { // P202
	r := NewReader([]byte{255, 0x55, 3})
	r.Bits(8)
	r.End()
	if n := r.Bits(7); n != 0x55 {
		t.Errorf("%x", n)
	}
	if n := r.Bits(8); n != 3 {
		t.Errorf("%x", n)
	}
}

func TestReadAsWritten(t *testing.T) { // P203
	for seed := range 300 {
		w, sizes, seen := NewWriter(), []int{}, []int{}
		x := uint32(seed*7919 + 1)
		for range seed % 40 {
			x = x*1664525 + 1013904223
			size := int(x>>20)%32 + 1
			n := int(x) >> (x >> 27)
			if x>>10&1 == 1 {
				n = -1
			}
			w.Bits(n, size)
			sizes, seen = append(sizes, size), append(seen, n&(1<<size-1))
		}
		b := w.Bytes()
		r := NewReader(b)
		for i, size := range sizes {
			if n := r.Bits(size); n != seen[i] {
				t.Fatalf("seed %d: number %d is %d, not %d", seed, i, n, seen[i])
			}
		}
		if n, e := r.End(); n != len(b) || e != api.OK {
			t.Errorf("seed %d: End = %d, %v of %d", seed, n, e, len(b))
		}
	}
}

func TestObjectsStandAlone(t *testing.T) { // P7
	v, w := NewWriter(), NewWriter()
	v.Bit(1)
	if len(w.Bytes()) != 0 {
		t.Error("a bit of one Writer is in another")
	}
}
