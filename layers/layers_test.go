package layers

import (
	"math"
	"slices"
	"testing"

	"wavelet/api"
)

func TestPasses(t *testing.T) { // P1401
	for _, x := range [][4]int{
		{10, 3, 1, 3}, {10, 3, 2, 6}, {10, 3, 3, 10}, {10, 3, 4, 10}, {10, 3, 0, 0}, {10, 3, -1, 0},
		{0, 5, 3, 0}, {100, 100, 57, 57}, {100, 1, 1, 100}, {1, 8, 7, 0}, {1, 8, 8, 1}, {7, 8, 1, 0}, {7, 8, 2, 1},
		{88, 8, math.MaxInt, 88}, {88, 8, math.MinInt, 0},
	} {
		if got := Passes(x[0], x[1], x[2]); got != x[3] {
			t.Errorf("Passes(%d, %d, %d) = %d", x[0], x[1], x[2], got)
		}
	}
}

func TestEnds(t *testing.T) { // P1401
	for style := range 64 {
		for k := -3; k < 120; k++ {
			want := false
			switch {
			case k < 0:
			case style&api.TermAll != 0:
				want = true
			case style&api.Bypass != 0:
				want = k >= 9 && (k%3 == 0 || k%3 == 2 && k != 8)
			}
			if got := Ends(style, k); got != want {
				t.Errorf("Ends(%d, %d) = %v", style, k, got)
			}
		}
	}
	if Ends(-1, math.MinInt) {
		t.Error("a pass far below 0")
	}
}

func TestSegments(t *testing.T) { // P1401
	ends := []int{3, 3, 5, 9, 9, 10, 12, 20, 21, 25, 26, 30, 31, 40, 41, 42}
	for _, x := range []struct {
		style, from, to int
		passes, bytes   []int
	}{
		{0, 0, 16, []int{16}, []int{42}},
		{0, 0, 0, nil, nil},
		{0, 16, 16, nil, nil},
		{0, 5, 5, nil, nil},
		{0, 4, 6, []int{2}, []int{1}},
		{api.TermAll, 0, 4, []int{1, 1, 1, 1}, []int{3, 0, 2, 4}},
		{api.TermAll, 3, 5, []int{1, 1}, []int{4, 0}},
		{api.Bypass, 0, 16, []int{10, 2, 1, 2, 1}, []int{25, 5, 1, 10, 1}},
		{api.Bypass, 8, 11, []int{2, 1}, []int{5, 1}},
		{api.Bypass, 11, 14, []int{1, 1, 1}, []int{4, 1, 9}},
		{api.Bypass | api.TermAll, 9, 11, []int{1, 1}, []int{4, 1}},
		{api.Reset | api.Causal | api.Predict | api.Symbols, 1, 15, []int{14}, []int{38}},
	} {
		passes, bytes := Segments(x.style, x.from, x.to, ends)
		if !slices.Equal(passes, x.passes) || !slices.Equal(bytes, x.bytes) {
			t.Errorf("Segments(%d, %d, %d) = %v, %v", x.style, x.from, x.to, passes, bytes)
		}
	}
}

func TestPiecesHaveAll(t *testing.T) { // P1402
	ends := make([]int, 90)
	for k := range ends {
		ends[k] = k * k / 3
	}
	for style := range 64 {
		for from := range 91 {
			for to := from; to <= 90; to++ {
				passes, bytes := Segments(style, from, to, ends)
				n, b, want := 0, 0, 0
				for i := range passes {
					n, b = n+passes[i], b+bytes[i]
				}
				if from < to {
					want = ends[to-1]
				}
				if from < to && from > 0 {
					want -= ends[from-1]
				}
				if n != to-from || b != want || len(passes) != len(bytes) {
					t.Fatalf("style %d, %d to %d: %d passes, %d bytes, want %d", style, from, to, n, b, want)
				}
			}
		}
	}
}

func TestAnyArgumentsEnd(t *testing.T) { // P1
	far := []int{math.MinInt, -1, 0, 1, 3, math.MaxInt}
	for _, a := range far {
		for _, b := range far {
			Segments(a, b, a, []int{5, 1})
			Segments(1, a, b, nil)
			Ends(a, b)
			for _, c := range far {
				Passes(a, b, c)
			}
		}
	}
}
