package color

import (
	"math"
	"slices"
	"testing"
)

func TestShift(t *testing.T) { // P1101
	for _, x := range []struct {
		depth   int
		signed  bool
		v, want []int
	}{
		{8, false, []int{0, 128, 255}, []int{-128, 0, 127}},
		{1, false, []int{0, 1}, []int{-1, 0}},
		{16, false, []int{0, 65535, 1 << 28, -1 << 28}, []int{-32768, 32767, 1<<28 - 32768, -1<<28 - 32768}},
		{8, true, []int{-128, 0, 127, 1 << 28}, []int{-128, 0, 127, 1 << 28}},
		{5, false, nil, nil},
	} {
		was := slices.Clone(x.v)
		got := Shift(x.depth, x.signed, x.v)
		if !slices.Equal(got, x.want) || !slices.Equal(x.v, was) {
			t.Errorf("Shift(%d, %v, %v) = %v", x.depth, x.signed, was, got)
		}
	}
}

func TestUnshift(t *testing.T) { // P1101
	for _, x := range []struct {
		depth   int
		signed  bool
		v, want []int
	}{
		{8, false, []int{-129, -128, 0, 127, 128, 1 << 28, -1 << 28}, []int{0, 0, 128, 255, 255, 255, 0}},
		{8, true, []int{-129, -128, 0, 127, 128, 1 << 28, -1 << 28}, []int{-128, -128, 0, 127, 127, 127, -128}},
		{1, false, []int{-2, -1, 0, 1}, []int{0, 0, 1, 1}},
		{1, true, []int{-2, -1, 0, 1}, []int{-1, -1, 0, 0}},
		{16, false, []int{-32769, 32768, 32767}, []int{0, 65535, 65535}},
		{16, true, nil, nil},
	} {
		was := slices.Clone(x.v)
		got := Unshift(x.depth, x.signed, x.v)
		if !slices.Equal(got, x.want) || !slices.Equal(x.v, was) {
			t.Errorf("Unshift(%d, %v, %v) = %v", x.depth, x.signed, was, got)
		}
	}
}

func TestTurnAndBack(t *testing.T) { // P1102
	y, u, v := Turn([]int{1, -1, 0, -1 << 28}, []int{2, 0, -1, -1 << 28}, []int{3, 0, 0, -1 << 28})
	if !slices.Equal(y, []int{2, -1, -1, -1 << 28}) || !slices.Equal(u, []int{1, 0, 1, 0}) || !slices.Equal(v, []int{-1, -1, 1, 0}) {
		t.Errorf("%v, %v, %v", y, u, v)
	}
	a, b, c := Back([]int{5, 5, -3}, []int{0, -1, 7}, []int{0, 0, -9})
	if !slices.Equal(b, []int{5, 6, -2}) || !slices.Equal(a, []int{5, 6, -11}) || !slices.Equal(c, []int{5, 5, 5}) {
		t.Errorf("%v, %v, %v", a, b, c)
	}
	a, b, c = Back(nil, nil, nil)
	if len(a)+len(b)+len(c) != 0 {
		t.Errorf("%v, %v, %v", a, b, c)
	}
}

func TestRoundTrips(t *testing.T) { // P1103
	var a, b, c []int
	for i := -6; i <= 6; i++ {
		for j := -6; j <= 6; j++ {
			for k := -6; k <= 6; k++ {
				a, b, c = append(a, i), append(b, j), append(c, k)
			}
		}
	}
	a, b, c = append(a, 65535), append(b, -32768), append(c, 1<<28)
	was := [][]int{slices.Clone(a), slices.Clone(b), slices.Clone(c)}
	x, y, z := Back(Turn(a, b, c))
	if !slices.Equal(x, a) || !slices.Equal(y, b) || !slices.Equal(z, c) {
		t.Error("Back of Turn differs")
	}
	if !slices.Equal(a, was[0]) || !slices.Equal(b, was[1]) || !slices.Equal(c, was[2]) {
		t.Error("P2: an argument was changed")
	}
	for depth := 1; depth <= 16; depth++ {
		for _, signed := range []bool{false, true} {
			low, high := 0, 1<<depth-1
			if signed {
				low, high = -1<<(depth-1), 1<<(depth-1)-1
			}
			v := []int{low, high, (low + high) / 2}
			if got := Unshift(depth, signed, Shift(depth, signed, v)); !slices.Equal(got, v) {
				t.Errorf("%d, %v: %v", depth, signed, got)
			}
		}
	}
}

func TestResultsAreNew(t *testing.T) { // P2
	v := []int{1}
	Shift(8, true, v)[0] = 9
	Unshift(8, true, v)[0] = 9
	x, y, z := Back(v, v, v)
	x[0], y[0], z[0] = 7, 8, 9
	if v[0] != 1 || x[0] != 7 || y[0] != 8 {
		t.Error("shared memory")
	}
}

func TestAnyArgumentsEnd(t *testing.T) { // P1
	for _, depth := range []int{math.MinInt, -1, 0, 17, 64, 65, math.MaxInt} {
		Shift(depth, false, []int{1, math.MinInt})
		Unshift(depth, false, []int{1, math.MaxInt})
		Shift(depth, true, []int{1})
	}
	Turn([]int{1, 2}, []int{1}, nil)
	Back([]int{math.MinInt, 2}, []int{math.MinInt}, []int{math.MinInt})
}
