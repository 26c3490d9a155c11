package scan

import (
	"math"
	"testing"
)

type place struct{ x, y int }

// places are those of a block by the chapter's words: by stripe, then by column, then by row.
func places(w, h int) []place {
	var l []place
	for stripe := 0; stripe*4 < h; stripe++ {
		for x := 0; x < w; x++ {
			for y := stripe * 4; y < stripe*4+4 && y < h; y++ {
				l = append(l, place{x, y})
			}
		}
	}
	return l
}

func TestAllAndAtHaveTheOrder(t *testing.T) { // P601
	for w := -1; w <= 9; w++ {
		for h := -1; h <= 13; h++ {
			want := places(w, h)
			k := 0
			for x, y := range All(w, h) {
				if k >= len(want) || want[k] != (place{x, y}) {
					t.Fatalf("%d by %d: place %d is %d, %d", w, h, k, x, y)
				}
				if ax, ay := At(w, h, k); ax != x || ay != y {
					t.Fatalf("%d by %d: At(%d) is %d, %d", w, h, k, ax, ay)
				}
				k++
			}
			if k != len(want) {
				t.Errorf("%d by %d: %d places", w, h, k)
			}
			for _, k := range []int{-1, len(want), len(want) + 1, math.MinInt, math.MaxInt} {
				if x, y := At(w, h, k); x != -1 || y != -1 {
					t.Errorf("%d by %d: At(%d) is %d, %d", w, h, k, x, y)
				}
			}
		}
	}
}

func TestExamples(t *testing.T) { // P601
	if x, y := At(3, 5, 4); x != 1 || y != 0 {
		t.Error(x, y)
	}
	if x, y := At(3, 5, 12); x != 0 || y != 4 {
		t.Error(x, y)
	}
}

func TestAllStopsAndBeginsAnew(t *testing.T) { // P601, P3
	all := All(3, 5)
	for range 2 {
		n := 0
		for x, y := range all {
			if n == 0 && (x != 0 || y != 0) {
				t.Errorf("begins at %d, %d", x, y)
			}
			n++
			if n == 5 {
				break
			}
		}
		if n != 5 {
			t.Errorf("%d places", n)
		}
	}
	for range All(math.MaxInt, math.MaxInt) {
		break
	}
	for range All(math.MinInt, 4) {
		t.Error("a place of no block")
	}
	for range All(4, math.MinInt) {
		t.Error("a place of no block")
	}
}

func TestAtOfVastBlocks(t *testing.T) { // P601
	const big = math.MaxInt
	for _, c := range []struct{ w, h, k, x, y int }{
		{big, big, 0, 0, 0},
		{big, big, big, big / 4, 3},
		{big, 1, big - 1, big - 1, 0},
		{big, 1, big, -1, -1},
		{1, big, big - 1, 0, big - 1},
		{1, big, big, -1, -1},
		{big, 2, big, big / 2, 1},
		{1 << 40, 5, 1<<42 + 3, 3, 4},
		{1 << 40, 5, 1<<42 + 1<<40, -1, -1},
	} {
		if x, y := At(c.w, c.h, c.k); x != c.x || y != c.y {
			t.Errorf("At(%d, %d, %d) is %d, %d", c.w, c.h, c.k, x, y)
		}
	}
}

func TestEachPlaceOnce(t *testing.T) { // P602
	seen := map[place]int{}
	for x, y := range All(64, 63) {
		if x < 0 || x >= 64 || y < 0 || y >= 63 {
			t.Errorf("%d, %d is outside", x, y)
		}
		seen[place{x, y}]++
	}
	if len(seen) != 64*63 {
		t.Errorf("%d places", len(seen))
	}
	for p, n := range seen {
		if n != 1 {
			t.Errorf("%v occurs %d times", p, n)
		}
	}
}
