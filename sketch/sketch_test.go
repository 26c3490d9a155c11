package sketch

import (
	"math"
	"math/big"
	"slices"
	"testing"

	"wavelet/api"
	"wavelet/canvas"
)

func TestExample(t *testing.T) { // P2101
	m, e := Draw(1, 1, 0, 0, 1, 8, 0)
	if e != api.OK || len(m.Comps) != 1 || !slices.Equal(m.Comps[0].Data, []int{7}) {
		t.Errorf("%v, %v", m, e)
	}
}

func TestSamples(t *testing.T) { // P2101
	for _, x := range []struct {
		depth, kind, c, i, j, want int
	}{
		{8, 0, 0, 3, 4, 7}, {8, 0, 3, 0, 0, 10}, {3, 0, 1, 0, 0, 0}, {1, 0, 0, 0, 0, 1},
		{8, 1, 0, 0, 0, 0}, {8, 1, 2, 5, 6, 23}, {4, 1, 2, 5, 6, 7}, {8, 1, 3, 63, 63, 198},
		{8, 2, 0, 0, 0, 0}, {8, 2, 0, 1, 0, 255}, {16, 2, 1, 3, 5, 65535}, {1, 2, 0, 2, 3, 1},
		{16, 3, 0, 0, 0, 0}, {16, 3, 0, 1, 0, 16838}, {8, 3, 0, 1, 0, 198}, {16, 4, 0, 1, 0, 16838},
	} {
		m, e := Draw(64, 64, 0, 0, 4, x.depth, x.kind)
		if got := m.Comps[x.c].Data[64*x.j+x.i]; e != api.OK || got != x.want {
			t.Errorf("%+v: %d, %v", x, got, e)
		}
	}
}

// number is a sample by the chapter's words.
func number(depth, kind, c, i, j int) int {
	n := 0
	switch kind {
	case 0:
		n = 7 + c
	case 1:
		n = i + 2*j + 3*c
	case 2:
		n = (1<<depth - 1) * ((i + j + c) % 2)
	default:
		b := big.NewInt(int64(i + 64*j + 4096*c))
		b.Mul(b, big.NewInt(1103515245)).Add(b, big.NewInt(12345)).Rsh(b, 16).And(b, big.NewInt(1<<16-1))
		n = int(b.Int64())
	}
	return n % (1 << depth)
}

func TestDrawByTheWords(t *testing.T) { // P2101, P2102
	for kind := range 5 {
		for depth := 1; depth <= 16; depth++ {
			for seed := range 6 {
				x, y, ox, oy, comps := 9+seed*11, 64-seed*3, seed*9, seed*seed, 1+seed%4
				m, e := Draw(x, y, ox, oy, comps, depth, kind)
				if e != api.OK || m.X != x || m.Y != y || m.Ox != ox || m.Oy != oy || len(m.Comps) != comps {
					t.Fatalf("%v, %v", m, e)
				}
				if e := canvas.Check(m, api.Params{Tx: 64, Ty: 64, Cbw: 2, Cbh: 2, Prec: 1, Layers: 1}); e != api.OK {
					t.Errorf("kind %d, depth %d, seed %d: %v", kind, depth, seed, e)
				}
				for ci, c := range m.Comps {
					step := 1
					if kind == 4 && ci%2 == 1 {
						step = 2
					}
					if c.Depth != depth || c.Signed || c.Dx != step || c.Dy != step {
						t.Errorf("%v", c)
					}
					r := canvas.Part(api.Rect{X0: ox, Y0: oy, X1: x, Y1: y}, step, step)
					for k, n := range c.Data {
						if want := number(depth, kind, ci, k%(r.X1-r.X0), k/(r.X1-r.X0)); n != want {
							t.Fatalf("kind %d, depth %d, component %d, sample %d: %d, want %d", kind, depth, ci, k, n, want)
						}
					}
				}
			}
		}
	}
}

func TestDrawErrors(t *testing.T) { // P2101
	for _, x := range [][7]int{
		{8, 8, -1, 0, 1, 8, 0}, {8, 8, 0, -1, 1, 8, 0}, {8, 8, 8, 0, 1, 8, 0}, {8, 8, 0, 8, 1, 8, 0}, {65, 8, 0, 0, 1, 8, 0}, {8, 65, 0, 0, 1, 8, 0}, {0, 8, 0, 0, 1, 8, 0}, {8, 0, 0, 0, 1, 8, 0},
		{8, 8, 0, 0, 0, 8, 0}, {8, 8, 0, 0, 5, 8, 0}, {8, 8, 0, 0, 1, 0, 0}, {8, 8, 0, 0, 1, 17, 0}, {8, 8, 0, 0, 1, 8, -1}, {8, 8, 0, 0, 1, 8, 5},
		{math.MinInt, math.MaxInt, math.MinInt, math.MaxInt, 1, 8, 0}, {8, 8, 0, 0, math.MaxInt, math.MinInt, math.MaxInt},
	} {
		m, e := Draw(x[0], x[1], x[2], x[3], x[4], x[5], x[6])
		if e != api.ErrArg || m.X != 0 || m.Y != 0 || len(m.Comps) != 0 {
			t.Errorf("%v: %v, %v", x, m, e)
		}
	}
	for _, x := range [][7]int{{64, 64, 63, 63, 4, 16, 4}, {1, 1, 0, 0, 1, 1, 0}} {
		if _, e := Draw(x[0], x[1], x[2], x[3], x[4], x[5], x[6]); e != api.OK {
			t.Errorf("%v: %v", x, e)
		}
	}
}

func TestSum(t *testing.T) { // P2101
	for _, x := range []struct {
		l    [][]int
		want int
	}{
		{nil, 7}, {[][]int{nil, {}}, 7}, {[][]int{{7}}, 224}, {[][]int{{1, 2}, {3}}, ((7*31+1)*31+2)*31 + 3},
		{[][]int{{-217}}, 0}, {[][]int{{-218}}, 1000002}, {[][]int{{1000003 - 217}}, 0},
	} {
		m := api.Image{}
		for _, data := range x.l {
			m.Comps = append(m.Comps, api.Comp{Data: data})
		}
		if got := Sum(m); got != x.want {
			t.Errorf("%v: %d, want %d", x.l, got, x.want)
		}
	}
}

func TestSumOfAnyNumbers(t *testing.T) { // P2101
	l := []int{math.MaxInt, math.MinInt, 5, math.MaxInt - 3, -1, math.MinInt + 1}
	want := big.NewInt(7)
	for _, x := range l {
		want.Mul(want, big.NewInt(31)).Add(want, big.NewInt(int64(x))).Mod(want, big.NewInt(1000003))
	}
	if got := Sum(api.Image{Comps: []api.Comp{{Data: l[:2]}, {Data: l[2:]}}}); int64(got) != want.Int64() {
		t.Errorf("%d, want %d", got, want)
	}
}
