package tagtree

import (
	"math"
	"testing"

	"wavelet/api"
	"wavelet/bits"
)

// noise is a row of numbers that looks like chance and is the same in each run.
type noise uint32

func (n *noise) next(below int) int {
	*n = *n*1664525 + 1013904223
	return int(*n>>8) % below
}

// text returns the bits that f writes, as 0 and 1.
func text(f func(w *bits.Writer)) string {
	w := bits.NewWriter()
	f(w)
	// A bit 1 behind them tells where they end.
	w.Bit(1)
	b := w.Bytes()
	r := bits.NewReader(b)
	s := ""
	for n, _ := r.End(); n < len(b); n, _ = r.End() {
		s += string(rune('0' + r.Bit()))
	}
	for range 7 {
		s += string(rune('0' + r.Bit()))
	}
	for s[len(s)-1] == '0' {
		s = s[:len(s)-1]
	}
	return s[:len(s)-1]
}

func TestOneLeaf(t *testing.T) { // P1301, P1302
	for _, x := range []struct {
		number, bound int
		want          string
	}{{0, 1, "1"}, {0, 0, ""}, {0, -1, ""}, {0, 5, "1"}, {3, 3, "000"}, {3, 4, "0001"}, {3, 9, "0001"}, {3, 1, "0"}} {
		tree := New(1, 1)
		tree.Set(0, x.number)
		if got := text(func(w *bits.Writer) { tree.Encode(w, 0, x.bound) }); got != x.want {
			t.Errorf("%d below %d: %s", x.number, x.bound, got)
		}
	}
}

func TestStandardExample(t *testing.T) { // P1301, P1302: the tree of the standard's own example (B.10.2)
	tree := New(6, 3)
	for k, n := range []int{1, 3, 2, 3, 2, 3, 2, 2, 1, 4, 3, 2, 2, 2, 2, 2, 1, 2} {
		tree.Set(k, n)
	}
	for _, x := range []struct {
		k    int
		want string
	}{{0, "01111"}, {1, "001"}, {2, "101"}} {
		got := text(func(w *bits.Writer) {
			for bound := 1; tree.Known(x.k) < 0; bound++ {
				tree.Encode(w, x.k, bound)
			}
		})
		if got != x.want {
			t.Errorf("leaf %d: %s, want %s", x.k, got, x.want)
		}
	}
}

func TestUnsetLeavesAreZero(t *testing.T) { // P1301
	tree := New(2, 2)
	tree.Set(3, 5)
	got := text(func(w *bits.Writer) { tree.Encode(w, 3, 9) })
	if got != "1000001" {
		t.Errorf("%s", got)
	}
	if got := text(func(w *bits.Writer) { tree.Encode(w, 0, 1) }); got != "1" {
		t.Errorf("%s", got)
	}
}

func TestSetAgain(t *testing.T) { // P1301
	tree := New(3, 1)
	for k := range 3 {
		tree.Set(k, 1)
	}
	tree.Set(0, 7)
	tree.Set(1, 6)
	tree.Set(2, 6)
	if got := text(func(w *bits.Writer) { tree.Encode(w, 2, 7) }); got != "000000111" {
		t.Errorf("%s", got)
	}
}

func TestNoSuchLeaf(t *testing.T) { // P1301, P1302
	for _, size := range [][2]int{{0, 0}, {0, 5}, {5, 0}, {2, 3}} {
		tree := New(size[0], size[1])
		for _, k := range []int{-1, size[0] * size[1], math.MaxInt, math.MinInt} {
			tree.Set(k, 3)
			if got := text(func(w *bits.Writer) { tree.Encode(w, k, 9) }); got != "" {
				t.Errorf("%v, leaf %d: %s", size, k, got)
			}
			r := bits.NewReader([]byte{255, 127})
			if tree.Decode(r, k, 9) || tree.Known(k) != -1 {
				t.Errorf("%v, leaf %d", size, k)
			}
			if n, e := r.End(); n != 0 || e != api.OK {
				t.Errorf("%v, leaf %d: bits were read", size, k)
			}
		}
	}
}

func TestDecodeFollowsEncode(t *testing.T) { // P1302, P1303
	for seed := range 400 {
		n := noise(seed)
		wide, high := 1+n.next(9), 1+n.next(9)
		if seed%50 == 0 {
			wide, high = 64, 64
		}
		to, from := New(wide, high), New(wide, high)
		numbers := make([]int, wide*high)
		for k := range numbers {
			numbers[k] = n.next(1 + seed%12)
			to.Set(k, numbers[k])
		}
		type call struct{ k, bound int }
		var calls []call
		w := bits.NewWriter()
		for range 3 * wide * high {
			c := call{n.next(wide * high), n.next(15) - 1}
			calls = append(calls, c)
			to.Encode(w, c.k, c.bound)
			if x := to.Known(c.k); x >= 0 && x != numbers[c.k] {
				t.Fatalf("seed %d: %d is known as %d", seed, numbers[c.k], x)
			}
		}
		r := bits.NewReader(w.Bytes())
		for _, c := range calls {
			if got := from.Decode(r, c.k, c.bound); got != (numbers[c.k] < c.bound) {
				t.Fatalf("seed %d: %d below %d: %v", seed, numbers[c.k], c.bound, got)
			}
			if x := from.Known(c.k); x >= 0 && x != numbers[c.k] {
				t.Fatalf("seed %d: %d is known as %d", seed, numbers[c.k], x)
			}
		}
		for k := range numbers {
			if to.Known(k) != from.Known(k) {
				t.Fatalf("seed %d: leaf %d is %d and %d", seed, k, to.Known(k), from.Known(k))
			}
		}
		if n, e := r.End(); n != len(w.Bytes()) || e != api.OK {
			t.Fatalf("seed %d: End is %d, %v", seed, n, e)
		}
	}
}

func TestKnown(t *testing.T) { // P1302
	tree := New(2, 1)
	tree.Set(0, 2)
	tree.Set(1, 4)
	w := bits.NewWriter()
	tree.Encode(w, 1, 3)
	if tree.Known(0) != -1 || tree.Known(1) != -1 {
		t.Error("a leaf is known before it is said")
	}
	tree.Encode(w, 1, 5)
	if tree.Known(0) != -1 || tree.Known(1) != 4 {
		t.Errorf("%d, %d", tree.Known(0), tree.Known(1))
	}
}

func TestGreatBoundsEnd(t *testing.T) { // P1
	tree := New(3, 3)
	r := bits.NewReader([]byte{0})
	if tree.Decode(r, 4, math.MaxInt) || tree.Known(4) != -1 {
		t.Error("a number without a bit 1")
	}
	if _, e := r.End(); e != api.ErrCut {
		t.Errorf("%v", e)
	}
	other := New(3, 3)
	other.Set(0, -5)
	other.Encode(bits.NewWriter(), 0, math.MaxInt)
	other.Set(0, 1)
	for _, side := range []int{-1, 65, math.MaxInt, math.MinInt} {
		for _, x := range []*Tree{New(side, side), New(1, side), New(side, 1)} {
			x.Set(0, 1)
			x.Encode(bits.NewWriter(), 0, 5)
			x.Decode(bits.NewReader(nil), 0, 5)
		}
	}
}

func TestZerosBehindTheEnd(t *testing.T) { // P1302: as many zeros as the bound asks for, whether there are bytes or not
	short, long := New(1, 1), New(1, 1)
	a, b := bits.NewReader([]byte{0}), bits.NewReader([]byte{0, 0, 0, 0, 0, 0, 0, 255})
	for _, bound := range []int{3, 20, 21, 40} {
		if short.Decode(a, 0, bound) || long.Decode(b, 0, bound) {
			t.Errorf("below %d", bound)
		}
	}
	if n, _ := b.End(); n != 5 {
		t.Errorf("%d bytes", n)
	}
	if !long.Decode(b, 0, 99) || long.Known(0) != 56 {
		t.Errorf("%d", long.Known(0))
	}
}

func TestTwoLeaves(t *testing.T) { // P1301, P1302: a node stands above them, whichever way they lie
	for _, tree := range []*Tree{New(2, 1), New(1, 2)} {
		tree.Set(0, 1)
		tree.Set(1, 2)
		if got := text(func(w *bits.Writer) { tree.Encode(w, 1, 9) }); got != "0101" {
			t.Errorf("%s", got)
		}
		if got := text(func(w *bits.Writer) { tree.Encode(w, 0, 9) }); got != "1" {
			t.Errorf("%s", got)
		}
	}
}
