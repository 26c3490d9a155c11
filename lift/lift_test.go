package lift

import (
	"math"
	"slices"
	"testing"
)

// noise is a row of numbers that looks like chance and is the same in each run.
type noise uint32

func (n *noise) next(below int) int {
	*n = *n*1664525 + 1013904223
	return int(*n>>4) % below
}

func floor(a, b int) int {
	q := a / b
	if a%b != 0 && (a < 0) != (b < 0) {
		q--
	}
	return q
}

// split is the transform by the chapter's words, over a map of places.
func split(at int, v []int) []int {
	if len(v) == 1 {
		if at%2 != 0 {
			return []int{2 * v[0]}
		}
		return []int{v[0]}
	}
	s := map[int]int{}
	for i, x := range v {
		s[at+i] = x
	}
	first, last := at, at+len(v)-1
	get := func(p int) int {
		if p < first {
			p = 2*first - p
		}
		if p > last {
			p = 2*last - p
		}
		return s[p]
	}
	var even, odd []int
	for p := first; p <= last; p++ {
		if p%2 != 0 {
			s[p] -= floor(get(p-1)+get(p+1), 2)
			odd = append(odd, s[p])
		}
	}
	for p := first; p <= last; p++ {
		if p%2 == 0 {
			s[p] += floor(get(p-1)+get(p+1)+2, 4)
			even = append(even, s[p])
		}
	}
	return append(even, odd...)
}

func TestSplit(t *testing.T) { // P901
	for _, x := range []struct {
		at      int
		v, want []int
	}{
		{0, []int{5, 5, 5}, []int{5, 5, 0}},
		{0, nil, nil},
		{1, nil, nil},
		{0, []int{-7}, []int{-7}},
		{1, []int{-7}, []int{-14}},
		{2, []int{9}, []int{9}},
		{1 << 20, []int{9}, []int{9}},
		{0, []int{1, 4}, []int{3, 3}},
		{1, []int{4, 1}, []int{3, 3}},
		{0, []int{0, -1, -1}, []int{0, -1, 0}},
		{0, []int{-27, -25, -24, -23, -32, -31, -32, -26, -19}, []int{-26, -22, -30, -32, -19, 1, 5, 1, 0}},
	} {
		if got := Split(x.at, x.v); !slices.Equal(got, x.want) {
			t.Errorf("Split(%d, %v) = %v, want %v", x.at, x.v, got, x.want)
		}
	}
}

func TestSplitByTheWords(t *testing.T) { // P901, P902
	for seed := range 600 {
		n := noise(seed)
		v := make([]int, seed%23)
		for i := range v {
			v[i] = n.next(1<<(1+seed%28)) - 1<<(seed%28)
		}
		for _, at := range []int{0, 1, 2, 7, 1<<20 - 1, 1 << 20} {
			was := slices.Clone(v)
			got := Split(at, v)
			if want := split(at, v); !slices.Equal(got, want) {
				t.Fatalf("Split(%d, %v) = %v, want %v", at, v, got, want)
			}
			if back := Join(at, got); !slices.Equal(back, v) {
				t.Fatalf("Join(%d, %v) = %v, want %v", at, got, back, v)
			}
			if !slices.Equal(v, was) {
				t.Fatal("P2: Split changed its argument")
			}
		}
	}
}

func TestExtremes(t *testing.T) { // P902
	const most = 1 << 28
	for _, v := range [][]int{{most, -most, most, -most, most}, {-most, most}, {most}, {-most, -most, -most}} {
		for at := range 2 {
			if got := Join(at, Split(at, v)); !slices.Equal(got, v) {
				t.Errorf("%d, %v: %v", at, v, got)
			}
		}
	}
}

func TestJoinOfAnyRow(t *testing.T) { // P901: the steps of Split are undone, whatever the row is
	for seed := range 300 {
		n := noise(seed)
		v := make([]int, 2+seed%17)
		for i := range v {
			v[i] = n.next(2001) - 1000
		}
		for at := range 2 {
			was := slices.Clone(v)
			row := Join(at, v)
			if got := Split(at, row); !slices.Equal(got, v) {
				t.Fatalf("Split(%d, %v) = %v, want %v", at, row, got, v)
			}
			if !slices.Equal(v, was) {
				t.Fatal("P2: Join changed its argument")
			}
		}
	}
	for _, x := range [][3]int{{0, 5, 5}, {1, 5, 2}, {1, -5, -3}, {3, 6, 3}, {4, -5, -5}} {
		if got := Join(x[0], []int{x[1]}); !slices.Equal(got, []int{x[2]}) {
			t.Errorf("Join(%d, %d) = %v", x[0], x[1], got)
		}
	}
	if got := Join(1, nil); len(got) != 0 {
		t.Errorf("Join of no row is %v", got)
	}
}

func TestResultIsNew(t *testing.T) { // P2
	for _, v := range [][]int{{3}, {3, 4}} {
		was := slices.Clone(v)
		for at := range 2 {
			Split(at, v)[0] = 99
			Join(at, v)[0] = 99
		}
		if !slices.Equal(v, was) {
			t.Errorf("%v", v)
		}
	}
}

func TestAnyPlaceEnds(t *testing.T) { // P1
	for _, at := range []int{math.MinInt, -1, -2, math.MaxInt} {
		for n := range 4 {
			v := make([]int, n)
			for i := range v {
				v[i] = math.MaxInt
			}
			Join(at, Split(at, v))
		}
	}
}
