package order

import (
	"math"
	"slices"
	"sort"
	"testing"

	"wavelet/api"
	"wavelet/canvas"
)

func picture(x, y, ox, oy int, steps ...int) api.Image {
	m := api.Image{X: x, Y: y, Ox: ox, Oy: oy}
	for i := 0; i < len(steps); i += 2 {
		m.Comps = append(m.Comps, api.Comp{Depth: 8, Dx: steps[i], Dy: steps[i+1]})
	}
	return m
}

func params(levels, prec, layers, order int) api.Params {
	return api.Params{Tx: 64, Ty: 64, Levels: levels, Cbw: 2, Cbh: 2, Prec: prec, Layers: layers, Order: order}
}

func TestExample(t *testing.T) { // P1601
	m, p := picture(4, 4, 0, 0, 1, 1), params(0, 15, 2, api.LRCP)
	if got := List(canvas.Tiles(m, p)[0], m, p); !slices.Equal(got, []Key{{}, {Layer: 1}}) {
		t.Errorf("%v", got)
	}
}

func TestOrdersByHand(t *testing.T) { // P1601: two resolutions of one and two precincts, one component with double steps
	m := picture(8, 4, 0, 0, 1, 1, 2, 2)
	for order, want := range map[int][]Key{
		api.LRCP: {{0, 0, 0, 0}, {0, 0, 1, 0}, {0, 1, 0, 0}, {0, 1, 0, 1}, {0, 1, 1, 0}, {1, 0, 0, 0}, {1, 0, 1, 0}, {1, 1, 0, 0}, {1, 1, 0, 1}, {1, 1, 1, 0}},
		api.RLCP: {{0, 0, 0, 0}, {0, 0, 1, 0}, {1, 0, 0, 0}, {1, 0, 1, 0}, {0, 1, 0, 0}, {0, 1, 0, 1}, {0, 1, 1, 0}, {1, 1, 0, 0}, {1, 1, 0, 1}, {1, 1, 1, 0}},
		api.RPCL: {{0, 0, 0, 0}, {1, 0, 0, 0}, {0, 0, 1, 0}, {1, 0, 1, 0}, {0, 1, 0, 0}, {1, 1, 0, 0}, {0, 1, 1, 0}, {1, 1, 1, 0}, {0, 1, 0, 1}, {1, 1, 0, 1}},
		api.PCRL: {{0, 0, 0, 0}, {1, 0, 0, 0}, {0, 1, 0, 0}, {1, 1, 0, 0}, {0, 0, 1, 0}, {1, 0, 1, 0}, {0, 1, 1, 0}, {1, 1, 1, 0}, {0, 1, 0, 1}, {1, 1, 0, 1}},
		api.CPRL: {{0, 0, 0, 0}, {1, 0, 0, 0}, {0, 1, 0, 0}, {1, 1, 0, 0}, {0, 1, 0, 1}, {1, 1, 0, 1}, {0, 0, 1, 0}, {1, 0, 1, 0}, {0, 1, 1, 0}, {1, 1, 1, 0}},
	} {
		p := params(1, 2, 2, order)
		if got := List(canvas.Tiles(m, p)[0], m, p); !slices.Equal(got, want) {
			t.Errorf("order %d: %v\nwant %v", order, got, want)
		}
	}
}

// entry is a packet with its position, by the chapter's words.
type entry struct {
	k            Key
	down, across int
}

func entries(tile api.Rect, m api.Image, p api.Params) (l []entry) {
	for ci, c := range m.Comps {
		for r := 0; r <= p.Levels; r++ {
			res := canvas.Resolution(canvas.Part(tile, c.Dx, c.Dy), p.Levels, r)
			wide, high := canvas.Precincts(res, p.Prec)
			for k := 0; k < wide*high; k++ {
				size := 1 << p.Prec
				scale := 1 << (p.Prec + p.Levels - r)
				e := entry{across: max(tile.X0, scale*c.Dx*(res.X0/size+k%wide)), down: max(tile.Y0, scale*c.Dy*(res.Y0/size+k/wide))}
				for layer := 0; layer < p.Layers; layer++ {
					e.k = Key{layer, r, ci, k}
					l = append(l, e)
				}
			}
		}
	}
	return l
}

func before(order int, a, b entry) bool {
	l := map[int][][2]int{
		api.LRCP: {{a.k.Layer, b.k.Layer}, {a.k.Res, b.k.Res}, {a.k.Comp, b.k.Comp}, {a.k.Prec, b.k.Prec}},
		api.RLCP: {{a.k.Res, b.k.Res}, {a.k.Layer, b.k.Layer}, {a.k.Comp, b.k.Comp}, {a.k.Prec, b.k.Prec}},
		api.RPCL: {{a.k.Res, b.k.Res}, {a.down, b.down}, {a.across, b.across}, {a.k.Comp, b.k.Comp}, {a.k.Prec, b.k.Prec}, {a.k.Layer, b.k.Layer}},
		api.PCRL: {{a.down, b.down}, {a.across, b.across}, {a.k.Comp, b.k.Comp}, {a.k.Res, b.k.Res}, {a.k.Prec, b.k.Prec}, {a.k.Layer, b.k.Layer}},
		api.CPRL: {{a.k.Comp, b.k.Comp}, {a.down, b.down}, {a.across, b.across}, {a.k.Res, b.k.Res}, {a.k.Prec, b.k.Prec}, {a.k.Layer, b.k.Layer}},
	}[order]
	for _, x := range l {
		if x[0] != x[1] {
			return x[0] < x[1]
		}
	}
	return false
}

func TestOrdersByTheWords(t *testing.T) { // P1601, P1602
	for seed := range 60 {
		m := picture(20+seed%45, 5+seed%60, seed%17, seed%5, 1, 1, 1+seed%4, 1+seed/4%4, 3, 2)
		p := params(seed%6, 1+seed%6, 1+seed%3, 0)
		p.Tx, p.Ty = 17+seed%48, 16+seed%20
		var want [][]entry
		for _, tile := range canvas.Tiles(m, p) {
			want = append(want, entries(tile, m, p))
		}
		for i, tile := range canvas.Tiles(m, p) {
			for order := range 5 {
				p.Order = order
				l := want[i]
				sort.SliceStable(l, func(a, b int) bool { return before(order, l[a], l[b]) })
				got := List(tile, m, p)
				all := slices.Collect(All(tile, m, p))
				if !slices.Equal(got, all) {
					t.Fatalf("seed %d, order %d: List and All differ", seed, order)
				}
				if !slices.EqualFunc(got, l, func(k Key, e entry) bool { return k == e.k }) {
					t.Fatalf("seed %d, order %d, tile %v: %v\nwant %v", seed, order, tile, got, l)
				}
				seen := map[Key]int{}
				for _, k := range got {
					seen[k]++
				}
				if len(seen) != len(got) {
					t.Fatalf("seed %d, order %d: a packet occurs twice", seed, order)
				}
			}
		}
	}
}

func TestAllStopsAndKeepsNothing(t *testing.T) { // P1601, P2, P3
	m, p := picture(8, 4, 0, 0, 1, 1, 2, 2), params(1, 2, 2, api.CPRL)
	tile := canvas.Tiles(m, p)[0]
	want := List(tile, m, p)
	all := All(tile, m, p)
	m.Comps[0], m.Comps[1] = m.Comps[1], api.Comp{}
	for range 2 {
		n := 0
		for k := range all {
			if k != want[n] {
				t.Errorf("packet %d is %v", n, k)
			}
			if n++; n == 7 {
				break
			}
		}
		if n != 7 {
			t.Errorf("%d packets", n)
		}
	}
}

func TestAnyArgumentsEnd(t *testing.T) { // P1
	far := []int{math.MinInt, -1, 0, 1, 63, 64, 1 << 40, math.MaxInt}
	for _, a := range far {
		for _, b := range far {
			m := picture(b, a, a, b, a, b, 1, 1)
			for _, tile := range []api.Rect{{X0: a, Y0: b, X1: b, Y1: a}, {X1: a, Y1: b}, {X1: 5, Y1: 5}} {
				List(tile, m, params(a, b, 2, 1))
				List(tile, m, params(1, 2, a, b))
				for range All(tile, m, params(2, 3, b, 4)) {
					break
				}
			}
		}
	}
}
