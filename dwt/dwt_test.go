package dwt

import (
	"math"
	"slices"
	"testing"

	"wavelet/api"
	"wavelet/lift"
)

// noise is a row of numbers that looks like chance and is the same in each run.
type noise uint32

func (n *noise) next(below int) int {
	*n = *n*1664525 + 1013904223
	return int(*n>>4) % below
}

func plane(seed int, r api.Rect, most int) []int {
	n := noise(seed)
	v := make([]int, (r.X1-r.X0)*(r.Y1-r.Y0))
	for i := range v {
		v[i] = n.next(2*most+1) - most
	}
	return v
}

// step is one step by the chapter's words, over a map of places of the grid.
func step(r api.Rect, v []int) (bands [4][]int) {
	type xy struct{ x, y int }
	s := map[xy]int{}
	for i, n := range v {
		s[xy{r.X0 + i%(r.X1-r.X0), r.Y0 + i/(r.X1-r.X0)}] = n
	}
	// lifted says which place of a line the i-th sample of a lifted line is of.
	lifted := func(from, to int) (l []int) {
		for _, odd := range []int{0, 1} {
			for p := from; p < to; p++ {
				if p%2 == odd {
					l = append(l, p)
				}
			}
		}
		return l
	}
	for x := r.X0; x < r.X1; x++ {
		var l []int
		for y := r.Y0; y < r.Y1; y++ {
			l = append(l, s[xy{x, y}])
		}
		l = lift.Split(r.Y0, l)
		for i, y := range lifted(r.Y0, r.Y1) {
			s[xy{x, y}] = l[i]
		}
	}
	for y := r.Y0; y < r.Y1; y++ {
		var l []int
		for x := r.X0; x < r.X1; x++ {
			l = append(l, s[xy{x, y}])
		}
		l = lift.Split(r.X0, l)
		for i, x := range lifted(r.X0, r.X1) {
			s[xy{x, y}] = l[i]
		}
	}
	for y := r.Y0; y < r.Y1; y++ {
		for x := r.X0; x < r.X1; x++ {
			kind := x%2*api.HL + y%2*api.LH
			bands[kind] = append(bands[kind], s[xy{x, y}])
		}
	}
	return bands
}

func halved(r api.Rect) api.Rect {
	return api.Rect{X0: (r.X0 + 1) / 2, Y0: (r.Y0 + 1) / 2, X1: (r.X1 + 1) / 2, Y1: (r.Y1 + 1) / 2}
}

func same(a, b [][]int) bool {
	return slices.EqualFunc(a, b, func(x, y []int) bool { return slices.Equal(x, y) })
}

var rects = []api.Rect{
	{}, {X0: 3, Y0: 3, X1: 3, Y1: 9}, {X0: 3, Y0: 3, X1: 9, Y1: 3},
	{X1: 1, Y1: 1}, {X0: 1, Y0: 1, X1: 2, Y1: 2}, {X0: 0, Y0: 1, X1: 1, Y1: 2}, {X0: 5, Y0: 4, X1: 6, Y1: 9},
	{X1: 8, Y1: 8}, {X0: 1, Y0: 2, X1: 10, Y1: 7}, {X0: 3, Y0: 7, X1: 20, Y1: 8}, {X0: 13, Y0: 0, X1: 14, Y1: 33}, {X0: 5, Y0: 9, X1: 38, Y1: 40},
}

func TestSplitAndJoin(t *testing.T) { // P1001 to P1003
	for i, r := range rects {
		for levels := range 6 {
			v := plane(i*7+levels, r, 1000)
			was := slices.Clone(v)
			var want [][]int
			lls := [][]int{v}
			for k, q := 0, r; k < levels; k++ {
				four := step(q, lls[k])
				want = append([][]int{four[1], four[2], four[3]}, want...)
				lls = append(lls, four[0])
				q = halved(q)
			}
			want = append([][]int{lls[levels]}, want...)
			bands := Split(r, levels, v)
			if !same(bands, want) {
				t.Fatalf("Split(%v, %d) = %v, want %v", r, levels, bands, want)
			}
			for n := 1; n <= levels+1; n++ {
				if got := Join(r, levels, bands, n); !slices.Equal(got, lls[levels+1-n]) {
					t.Errorf("Join(%v, %d) to %d resolutions = %v", r, levels, n, got)
				}
			}
			for _, n := range []int{0, -1, levels + 2, math.MaxInt, math.MinInt} {
				if got := Join(r, levels, bands, n); len(got) != 0 {
					t.Errorf("Join(%v, %d) to %d resolutions = %v", r, levels, n, got)
				}
			}
			if !slices.Equal(v, was) || !same(bands, want) {
				t.Fatal("P2: an argument was changed")
			}
		}
	}
}

func TestJoinOfAnyBands(t *testing.T) { // P1002
	r := api.Rect{X0: 3, Y0: 2, X1: 12, Y1: 13}
	bands := Split(r, 3, plane(1, r, 100))
	for i := range bands {
		for j := range bands[i] {
			bands[i][j] = (i*31+j*17)%200 - 100
		}
	}
	got := Join(r, 3, bands, 4)
	if len(got) != 99 {
		t.Fatalf("%d samples", len(got))
	}
	// Nothing is lost on the way: where no side has a lone sample, Split finds the same bands again.
	wide := api.Rect{X1: 16, Y1: 16}
	bands = Split(wide, 2, plane(2, wide, 50))
	for i := range bands {
		for j := range bands[i] {
			bands[i][j] = (i*37+j*11)%300 - 150
		}
	}
	if again := Split(wide, 2, Join(wide, 2, bands, 3)); !same(again, bands) {
		t.Errorf("%v, want %v", again, bands)
	}
}

func TestLargePlane(t *testing.T) { // P1003
	r := api.Rect{X0: 1 << 20, Y0: 7, X1: 1<<20 + 4096, Y1: 10}
	v := plane(3, r, 1<<16)
	if got := Join(r, 5, Split(r, 5, v), 6); !slices.Equal(got, v) {
		t.Error("another plane")
	}
}

func TestResultsShareNothing(t *testing.T) { // P2
	r := api.Rect{X1: 4, Y1: 4}
	v := plane(1, r, 9)
	for levels := range 3 {
		bands := Split(r, levels, v)
		want := Split(r, levels, v)
		for i := range bands {
			_ = append(bands[i], 77, 77, 77)
		}
		if !same(bands, want) {
			t.Error("bands share memory")
		}
		bands[0][0]++
		if got := Join(r, 0, [][]int{v}, 1); !slices.Equal(got, v) {
			t.Error("another plane")
		} else if got[0]++; got[0] == v[0] {
			t.Error("Join hands out its argument")
		}
	}
}

func TestWrongArgumentsEnd(t *testing.T) { // P1
	const big = math.MaxInt
	for _, r := range []api.Rect{{X0: -big, Y0: -big, X1: big, Y1: big}, {X1: big, Y1: big}, {X1: 2, Y1: 2}, {X0: 4, Y0: 4}, {X0: -3, X1: 3, Y1: 3}, {X0: big - 1, Y0: big - 1, X1: big, Y1: big}} {
		for _, levels := range []int{-1, 0, 1, 5, 6, big, -big} {
			for _, v := range [][]int{nil, {1}, {1, 2, 3, 4}} {
				bands := Split(r, levels, v)
				Join(r, levels, bands, levels+1)
				Join(r, levels, [][]int{v}, 1)
				Join(r, levels, [][]int{v, v, v, v}, 2)
			}
		}
	}
	Join(api.Rect{X1: 2, Y1: 2}, 1, [][]int{{1}, {1}, {1}, {}}, 2)
	Join(api.Rect{X1: 2, Y1: 2}, 1, [][]int{{1}, {1}, {1}, {1, 2}}, 2)
}
