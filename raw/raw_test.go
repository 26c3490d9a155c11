package raw

import (
	"math"
	"testing"
)

func write(w *Writer, bits string) {
	for _, c := range bits {
		w.Bit(int(c - '0'))
	}
}

func read(r *Reader, n int) string {
	s := ""
	for range n {
		s += string(rune('0' + r.Bit()))
	}
	return s
}

func TestWriterFillsBytes(t *testing.T) { // P501
	for _, x := range []struct {
		bits, want string
		out        int
	}{
		{"", "", 0},
		{"0", "\x00", 1},
		{"1", "\x80", 1},
		{"10100101", "\xa5", 1},
		{"101001011", "\xa5\x80", 2},
		{"1111111", "\xfe", 1},
		{"11111111", "", 1},
		{"111111110", "\xff\x00", 2},
		{"111111111", "\xff\x40", 2},
		{"111111111111111", "\xff\x7f", 2},
		{"1111111111111111", "\xff\x7f\x80", 3},
		{"11111111111111111111111", "\xff\x7f", 3},
		{"0000000011111111", "\x00", 2},
	} {
		w := NewWriter()
		write(w, x.bits)
		if w.Out() != x.out {
			t.Errorf("%s: %d bytes begun", x.bits, w.Out())
		}
		if got := w.Flush(); string(got) != x.want {
			t.Errorf("%s: %x, want %x", x.bits, got, x.want)
		}
	}
}

func TestBitTakesLowestBit(t *testing.T) { // P501
	w := NewWriter()
	for _, b := range []int{2, 3, -1, -2, math.MinInt, math.MaxInt} {
		w.Bit(b)
	}
	if got := w.Flush(); string(got) != "\x64" {
		t.Errorf("%x", got)
	}
}

func TestReaderReadsBits(t *testing.T) { // P502
	for b, want := range map[string]string{
		"":                 "111111111111111111",
		"\x00":             "00000000111111111111",
		"\xa5\x0f":         "1010010100001111111111",
		"\xff\x00":         "1111111100000001111111111",
		"\xff\x80\x00":     "11111111000000000000000111",
		"\xff\xff\x00\x01": "11111111111111100000000000000111",
		"\x00\xff":         "00000000111111111111111111",
	} {
		if got := read(NewReader([]byte(b)), len(want)); got != want {
			t.Errorf("%x: %s, want %s", b, got, want)
		}
	}
}

func TestReaderKeepsItsBytes(t *testing.T) { // P2
	b := []byte{0, 0}
	r := NewReader(b)
	b[0], b[1] = 255, 255
	if got := read(r, 16); got != "0000000000000000" {
		t.Error(got)
	}
}

func TestOnesGoOnForEver(t *testing.T) { // P502
	r := NewReader([]byte{255, 127})
	for i := range 1000 {
		if r.Bit() != 1 {
			t.Fatalf("bit %d is 0", i)
		}
	}
}

func TestReadAsWritten(t *testing.T) { // P503
	for seed := range 400 {
		x := uint32(seed)
		w, bits := NewWriter(), ""
		for range seed * 3 {
			x = x*1664525 + 1013904223
			if x>>28 < uint32(seed%17) {
				bits += "1"
			} else {
				bits += "0"
			}
		}
		write(w, bits)
		b := w.Flush()
		if got := read(NewReader(b), len(bits)); got != bits {
			t.Errorf("seed %d: %s was read as %s", seed, bits, got)
		}
		for i := 1; i < len(b); i++ {
			if b[i-1] == 255 && b[i] > 0x7F {
				t.Errorf("seed %d: %x", seed, b[i-1:i+1])
			}
		}
		if len(b) > 0 && b[len(b)-1] == 255 {
			t.Errorf("seed %d: ends with 255", seed)
		}
	}
}
