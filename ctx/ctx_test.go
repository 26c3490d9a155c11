package ctx

import (
	"math"
	"testing"

	"wavelet/api"
)

// sides, corners are the chapter's two tables, row by row: contexts by h, v and d, and by n and d.
func sides(h, v, d int) int {
	switch {
	case h == 2:
		return 8
	case h == 1 && v >= 1:
		return 7
	case h == 1 && v == 0 && d >= 1:
		return 6
	case h == 1 && v == 0 && d == 0:
		return 5
	case h == 0 && v == 2:
		return 4
	case h == 0 && v == 1:
		return 3
	}
	return min(d, 2)
}

func corners(n, d int) int {
	switch {
	case d >= 3:
		return 8
	case d == 2 && n >= 1:
		return 7
	case d == 2:
		return 6
	case d == 1 && n >= 2:
		return 5
	case d == 1:
		return 3 + n
	}
	return min(n, 2)
}

func TestZero(t *testing.T) { // P701, P704
	for h := range 3 {
		for v := range 3 {
			for d := range 5 {
				for band, want := range map[int]int{api.LL: sides(h, v, d), api.LH: sides(h, v, d), api.HL: sides(v, h, d), api.HH: corners(h+v, d)} {
					got := Zero(band, h, v, d)
					if got != want {
						t.Errorf("Zero(%d, %d, %d, %d) = %d, want %d", band, h, v, d, got, want)
					}
					if got < 0 || got > 8 {
						t.Errorf("Zero(%d, %d, %d, %d) = %d", band, h, v, d, got)
					}
				}
			}
		}
	}
}

func TestZeroByHand(t *testing.T) { // P701
	for _, x := range [][5]int{
		{api.LL, 2, 0, 0, 8}, {api.LL, 1, 2, 0, 7}, {api.LL, 1, 0, 4, 6}, {api.LL, 1, 0, 0, 5}, {api.LL, 0, 2, 3, 4}, {api.LL, 0, 1, 0, 3}, {api.LL, 0, 0, 4, 2}, {api.LL, 0, 0, 1, 1}, {api.LL, 0, 0, 0, 0},
		{api.LH, 0, 2, 0, 4}, {api.HL, 0, 2, 0, 8}, {api.HL, 2, 0, 0, 4}, {api.HL, 2, 1, 0, 7},
		{api.HH, 0, 0, 3, 8}, {api.HH, 2, 2, 4, 8}, {api.HH, 1, 0, 2, 7}, {api.HH, 0, 0, 2, 6}, {api.HH, 1, 1, 1, 5}, {api.HH, 2, 2, 1, 5}, {api.HH, 0, 1, 1, 4}, {api.HH, 0, 0, 1, 3}, {api.HH, 2, 1, 0, 2}, {api.HH, 1, 0, 0, 1}, {api.HH, 0, 0, 0, 0},
	} {
		if got := Zero(x[0], x[1], x[2], x[3]); got != x[4] {
			t.Errorf("Zero%v = %d", x, got)
		}
	}
}

func TestSign(t *testing.T) { // P702, P704
	for _, x := range [][4]int{
		{1, 1, 13, 0}, {1, 0, 12, 0}, {1, -1, 11, 0},
		{0, 1, 10, 0}, {0, 0, 9, 0}, {0, -1, 10, 1},
		{-1, 1, 11, 1}, {-1, 0, 12, 1}, {-1, -1, 13, 1},
	} {
		if cx, turn := Sign(x[0], x[1]); cx != x[2] || turn != x[3] {
			t.Errorf("Sign(%d, %d) = %d, %d", x[0], x[1], cx, turn)
		}
	}
}

func TestRefine(t *testing.T) { // P703, P704
	for around := range 9 {
		want := 15
		if around == 0 {
			want = 14
		}
		if got := Refine(true, around); got != want {
			t.Errorf("Refine(true, %d) = %d", around, got)
		}
		if got := Refine(false, around); got != 16 {
			t.Errorf("Refine(false, %d) = %d", around, got)
		}
	}
}

func TestAnyNumbersEnd(t *testing.T) { // P1
	far := []int{math.MinInt, -1, 0, 5, math.MaxInt}
	for _, a := range far {
		for _, b := range far {
			Zero(a, b, a, b)
			Zero(api.HH, a, b, b)
			Sign(a, b)
			Refine(true, a)
		}
	}
}
