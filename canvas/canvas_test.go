package canvas

import (
	"math"
	"slices"
	"testing"

	"wavelet/api"
)

func picture() api.Image {
	c := api.Comp{Depth: 8, Dx: 1, Dy: 1, Data: make([]int, 15)}
	return api.Image{X: 5, Y: 3, Comps: []api.Comp{c, c, c}}
}

func params() api.Params {
	return api.Params{Tx: 4, Ty: 4, Levels: 2, Cbw: 3, Cbh: 3, Prec: 15, Layers: 1}
}

func TestFrameFindsErrors(t *testing.T) { // P1201
	const big, low = math.MaxInt, math.MinInt
	for name, x := range map[string]struct {
		f    func(m *api.Image, p *api.Params)
		want api.Errno
	}{
		"valid":           {func(m *api.Image, p *api.Params) {}, api.OK},
		"Ox below 0":      {func(m *api.Image, p *api.Params) { m.Ox = -1 }, api.ErrArg},
		"Oy below 0":      {func(m *api.Image, p *api.Params) { m.Oy = low }, api.ErrArg},
		"X is Ox":         {func(m *api.Image, p *api.Params) { m.Ox = 5 }, api.ErrArg},
		"Y is Oy":         {func(m *api.Image, p *api.Params) { m.Oy = 3 }, api.ErrArg},
		"Ox above 64 too": {func(m *api.Image, p *api.Params) { m.X, m.Ox = 65, 65 }, api.ErrArg},
		"X is 64":         {func(m *api.Image, p *api.Params) { m.X = 64 }, api.OK},
		"X above 64":      {func(m *api.Image, p *api.Params) { m.X = 65; m.Comps = nil }, api.ErrLimit},
		"Y above 64":      {func(m *api.Image, p *api.Params) { m.Y = big; m.Comps = nil }, api.ErrLimit},
		"no Comps":        {func(m *api.Image, p *api.Params) { m.Comps = nil; p.Tx = 0 }, api.ErrMany},
		"five Comps":      {func(m *api.Image, p *api.Params) { m.Comps = make([]api.Comp, 5); p.Tx = 0 }, api.ErrMany},
		"four Comps":      {func(m *api.Image, p *api.Params) { m.Comps = append(m.Comps, m.Comps[0]) }, api.OK},
		"Depth 0":         {func(m *api.Image, p *api.Params) { m.Comps[2].Depth = 0 }, api.ErrArg},
		"Depth 17":        {func(m *api.Image, p *api.Params) { m.Comps[2].Depth = 17 }, api.ErrArg},
		"Depth 16":        {func(m *api.Image, p *api.Params) { m.Comps[2].Depth = 16 }, api.OK},
		"Dx 0":            {func(m *api.Image, p *api.Params) { m.Comps[1].Dx = 0 }, api.ErrArg},
		"Dx 5":            {func(m *api.Image, p *api.Params) { m.Comps[1].Dx = 5 }, api.ErrArg},
		"Dy 0":            {func(m *api.Image, p *api.Params) { m.Comps[1].Dy = 0 }, api.ErrArg},
		"Dy 5":            {func(m *api.Image, p *api.Params) { m.Comps[1].Dy = 5 }, api.ErrArg},
		"Dx, Dy 4":        {func(m *api.Image, p *api.Params) { m.Comps[1].Dx, m.Comps[1].Dy = 4, 4 }, api.OK},
		"Tx is Ox":        {func(m *api.Image, p *api.Params) { m.Ox, p.Tx = 4, 4 }, api.ErrArg},
		"Ty is Oy":        {func(m *api.Image, p *api.Params) { m.Oy, p.Ty = 2, 2 }, api.ErrArg},
		"Tx above 2^16":   {func(m *api.Image, p *api.Params) { p.Tx = 1<<16 + 1 }, api.ErrArg},
		"Ty above 2^16":   {func(m *api.Image, p *api.Params) { p.Ty = 1<<16 + 1 }, api.ErrArg},
		"Tx, Ty 2^16":     {func(m *api.Image, p *api.Params) { p.Tx, p.Ty = 1<<16, 1<<16 }, api.OK},
		"Tx below 0":      {func(m *api.Image, p *api.Params) { p.Tx = low }, api.ErrArg},
		"16 tiles":        {func(m *api.Image, p *api.Params) { m.X, m.Y, p.Tx, p.Ty = 31, 2, 4, 1 }, api.OK},
		"17 tiles":        {func(m *api.Image, p *api.Params) { m.X, m.Y, p.Tx, p.Ty = 17, 1, 1, 1; p.Levels = 9 }, api.ErrLimit},
		"tiles before Ox": {func(m *api.Image, p *api.Params) { m.Ox, m.X, p.Tx, p.Ty = 3, 64, 4, 2 }, api.ErrLimit},
		"Levels below 0":  {func(m *api.Image, p *api.Params) { p.Levels = -1; p.Rct = true; m.Comps = m.Comps[:1] }, api.ErrArg},
		"Levels 6":        {func(m *api.Image, p *api.Params) { p.Levels = 6 }, api.ErrArg},
		"Levels 5":        {func(m *api.Image, p *api.Params) { p.Levels = 5 }, api.OK},
		"Cbw 1":           {func(m *api.Image, p *api.Params) { p.Cbw = 1 }, api.ErrArg},
		"Cbw 7":           {func(m *api.Image, p *api.Params) { p.Cbw = 7 }, api.ErrArg},
		"Cbh 1":           {func(m *api.Image, p *api.Params) { p.Cbh = 1 }, api.ErrArg},
		"Cbh 7":           {func(m *api.Image, p *api.Params) { p.Cbh = 7 }, api.ErrArg},
		"Cbw 2, Cbh 6":    {func(m *api.Image, p *api.Params) { p.Cbw, p.Cbh = 2, 6 }, api.OK},
		"Prec 0":          {func(m *api.Image, p *api.Params) { p.Prec = 0 }, api.ErrArg},
		"Prec 16":         {func(m *api.Image, p *api.Params) { p.Prec = 16 }, api.ErrArg},
		"Prec 1":          {func(m *api.Image, p *api.Params) { p.Prec = 1 }, api.OK},
		"Style below 0":   {func(m *api.Image, p *api.Params) { p.Style = -1 }, api.ErrArg},
		"Style 64":        {func(m *api.Image, p *api.Params) { p.Style = 64 }, api.ErrArg},
		"Style 63":        {func(m *api.Image, p *api.Params) { p.Style = 63 }, api.OK},
		"Order below 0":   {func(m *api.Image, p *api.Params) { p.Order = -1 }, api.ErrArg},
		"Order 5":         {func(m *api.Image, p *api.Params) { p.Order = 5 }, api.ErrArg},
		"Order 4":         {func(m *api.Image, p *api.Params) { p.Order = 4 }, api.OK},
		"Layers 0":        {func(m *api.Image, p *api.Params) { p.Layers = 0 }, api.ErrArg},
		"Layers 9":        {func(m *api.Image, p *api.Params) { p.Layers = 9 }, api.ErrArg},
		"Layers 8":        {func(m *api.Image, p *api.Params) { p.Layers = 8 }, api.OK},
		"Rct":             {func(m *api.Image, p *api.Params) { p.Rct = true }, api.OK},
		"Rct of two":      {func(m *api.Image, p *api.Params) { p.Rct = true; m.Comps = m.Comps[:2] }, api.ErrKind},
		"Rct, Depth":      {func(m *api.Image, p *api.Params) { p.Rct = true; m.Comps[2].Depth = 9 }, api.ErrKind},
		"Rct, Signed":     {func(m *api.Image, p *api.Params) { p.Rct = true; m.Comps[1].Signed = true }, api.ErrKind},
		"Rct, Dx":         {func(m *api.Image, p *api.Params) { p.Rct = true; m.Comps[2].Dx = 2 }, api.ErrKind},
		"Rct, Dy":         {func(m *api.Image, p *api.Params) { p.Rct = true; m.Comps[0].Dy = 2 }, api.ErrKind},
		"Rct, fourth": {func(m *api.Image, p *api.Params) {
			p.Rct = true
			m.Comps = append(m.Comps, api.Comp{Depth: 3, Dx: 4, Dy: 3})
		}, api.OK},
		"no Data": {func(m *api.Image, p *api.Params) { m.Comps[0].Data = []int{-1} }, api.OK},
	} {
		m, p := picture(), params()
		x.f(&m, &p)
		if e := Frame(m, p); e != x.want {
			t.Errorf("%s: %v, want %v", name, e, x.want)
		}
		if e := Check(m, p); x.want != api.OK && e != x.want {
			t.Errorf("Check, %s: %v, want %v", name, e, x.want)
		}
	}
}

func TestCheckLooksAtSamples(t *testing.T) { // P1201
	for _, x := range []struct {
		depth  int
		signed bool
		sample int
		want   api.Errno
	}{
		{8, false, 0, api.OK}, {8, false, 255, api.OK}, {8, false, 256, api.ErrOver}, {8, false, -1, api.ErrOver},
		{8, true, -128, api.OK}, {8, true, 127, api.OK}, {8, true, 128, api.ErrOver}, {8, true, -129, api.ErrOver},
		{16, false, 65535, api.OK}, {16, false, 65536, api.ErrOver}, {1, true, 0, api.OK}, {1, true, 1, api.ErrOver}, {1, false, 1, api.OK},
	} {
		m := picture()
		for i := range m.Comps {
			m.Comps[i].Data = make([]int, 15)
			m.Comps[i].Depth, m.Comps[i].Signed = x.depth, x.signed
		}
		m.Comps[1].Data[14] = x.sample
		if e := Check(m, params()); e != x.want {
			t.Errorf("%d in depth %d, %v: %v", x.sample, x.depth, x.signed, e)
		}
	}
	m := picture()
	m.Comps[1].Data = m.Comps[1].Data[:14]
	m.Comps[2].Data = []int{-1}
	if e := Check(m, params()); e != api.ErrSize {
		t.Errorf("14 samples: %v", e)
	}
	m = picture()
	m.Comps[0].Data = []int{999, 999, 999, 999, 999, 999, 999, 999, 999, 999, 999, 999, 999, 999, 999}
	m.Comps[1].Data = nil
	if e := Check(m, params()); e != api.ErrOver {
		t.Errorf("the first component decides: %v", e)
	}
	m = picture()
	m.Comps[0].Data = make([]int, 16)
	m.Comps[0].Data[0] = -1
	if e := Check(m, params()); e != api.ErrSize {
		t.Errorf("ErrSize comes first: %v", e)
	}
	empty := api.Image{X: 3, Y: 3, Ox: 2, Oy: 2, Comps: []api.Comp{{Depth: 1, Dx: 4, Dy: 4}}}
	if e := Check(empty, params()); e != api.OK {
		t.Errorf("a component without samples: %v", e)
	}
}

func TestTiles(t *testing.T) { // P1202, P1204
	m := picture()
	if got := Tiles(m, params()); !slices.Equal(got, []api.Rect{{X1: 4, Y1: 3}, {X0: 4, X1: 5, Y1: 3}}) {
		t.Errorf("%v", got)
	}
	m = api.Image{X: 20, Y: 11, Ox: 3, Oy: 2, Comps: m.Comps}
	p := params()
	p.Tx, p.Ty = 8, 5
	want := []api.Rect{
		{X0: 3, Y0: 2, X1: 8, Y1: 5}, {X0: 8, Y0: 2, X1: 16, Y1: 5}, {X0: 16, Y0: 2, X1: 20, Y1: 5},
		{X0: 3, Y0: 5, X1: 8, Y1: 10}, {X0: 8, Y0: 5, X1: 16, Y1: 10}, {X0: 16, Y0: 5, X1: 20, Y1: 10},
		{X0: 3, Y0: 10, X1: 8, Y1: 11}, {X0: 8, Y0: 10, X1: 16, Y1: 11}, {X0: 16, Y0: 10, X1: 20, Y1: 11},
	}
	if got := Tiles(m, p); !slices.Equal(got, want) {
		t.Errorf("%v", got)
	}
	p.Tx = 1 << 16
	if got := Tiles(m, p); len(got) != 3 || got[0] != (api.Rect{X0: 3, Y0: 2, X1: 20, Y1: 5}) {
		t.Errorf("%v", got)
	}
}

func TestPartAndResolution(t *testing.T) { // P1202
	r := api.Rect{X0: 3, Y0: 4, X1: 9, Y1: 64}
	for _, x := range []struct{ got, want api.Rect }{
		{Part(r, 1, 1), r},
		{Part(r, 2, 3), api.Rect{X0: 2, Y0: 2, X1: 5, Y1: 22}},
		{Part(r, 4, 4), api.Rect{X0: 1, Y0: 1, X1: 3, Y1: 16}},
		{Part(api.Rect{X0: 255, Y0: 0, X1: 255, Y1: 255}, 2, 4), api.Rect{X0: 128, Y0: 0, X1: 128, Y1: 64}},
		{Resolution(r, 3, 3), r},
		{Resolution(r, 3, 2), api.Rect{X0: 2, Y0: 2, X1: 5, Y1: 32}},
		{Resolution(r, 5, 0), api.Rect{X0: 1, Y0: 1, X1: 1, Y1: 2}},
		{Resolution(r, 0, 0), r},
	} {
		if x.got != x.want {
			t.Errorf("%v, want %v", x.got, x.want)
		}
	}
}

func TestBands(t *testing.T) { // P1202
	c := api.Rect{X0: 3, Y0: 0, X1: 10, Y1: 5}
	kinds, rects := Bands(c, 2, 0)
	if !slices.Equal(kinds, []int{api.LL}) || !slices.Equal(rects, []api.Rect{{X0: 1, X1: 3, Y1: 2}}) {
		t.Errorf("%v, %v", kinds, rects)
	}
	kinds, rects = Bands(c, 2, 1)
	if !slices.Equal(kinds, []int{api.HL, api.LH, api.HH}) || !slices.Equal(rects, []api.Rect{{X0: 1, X1: 2, Y1: 2}, {X0: 1, X1: 3, Y1: 1}, {X0: 1, X1: 2, Y1: 1}}) {
		t.Errorf("%v, %v", kinds, rects)
	}
	kinds, rects = Bands(c, 2, 2)
	if !slices.Equal(kinds, []int{api.HL, api.LH, api.HH}) || !slices.Equal(rects, []api.Rect{{X0: 1, X1: 5, Y1: 3}, {X0: 2, X1: 5, Y1: 2}, {X0: 1, X1: 5, Y1: 2}}) {
		t.Errorf("%v, %v", kinds, rects)
	}
	// The bands of a step have the odd places of the resolution, and the lower resolution its even ones.
	for n := range 255 {
		r := api.Rect{X0: n / 3, Y0: n / 2, X1: n, Y1: 255}
		for levels := 1; levels <= 5; levels++ {
			for k := 1; k <= levels; k++ {
				res, low := Resolution(r, levels, k), Resolution(r, levels, k-1)
				_, l := Bands(r, levels, k)
				if l[0].X1-l[0].X0 != res.X1/2-res.X0/2 || l[0].Y0 != low.Y0 || l[0].Y1 != low.Y1 || l[1].X0 != low.X0 || l[1].X1 != low.X1 || l[1].Y0 != res.Y0/2 || l[1].Y1 != res.Y1/2 {
					t.Fatalf("%v, %d, %d: %v", r, levels, k, l)
				}
				if l[2] != (api.Rect{X0: l[0].X0, X1: l[0].X1, Y0: l[1].Y0, Y1: l[1].Y1}) {
					t.Fatalf("%v, %d, %d: %v", r, levels, k, l)
				}
			}
		}
	}
}

func TestPrecincts(t *testing.T) { // P1203
	for _, x := range []struct {
		r          api.Rect
		prec, w, h int
	}{
		{api.Rect{X1: 8, Y1: 8}, 2, 2, 2},
		{api.Rect{X1: 9, Y1: 8}, 2, 3, 2},
		{api.Rect{X0: 3, Y0: 4, X1: 5, Y1: 5}, 2, 2, 1},
		{api.Rect{X0: 3, Y0: 4, X1: 5, Y1: 5}, 15, 1, 1},
		{api.Rect{X0: 3, Y0: 4, X1: 3, Y1: 50}, 1, 0, 0},
		{api.Rect{X0: 3, Y0: 50, X1: 30, Y1: 50}, 1, 0, 0},
		{api.Rect{X0: 1, Y0: 2, X1: 255, Y1: 254}, 1, 128, 126},
	} {
		if w, h := Precincts(x.r, x.prec); w != x.w || h != x.h {
			t.Errorf("%v, %d: %d, %d", x.r, x.prec, w, h)
		}
	}
}

func TestBlocks(t *testing.T) { // P1203
	p := params()
	p.Cbw, p.Cbh, p.Prec = 2, 3, 4
	band, res := api.Rect{X0: 3, Y0: 1, X1: 20, Y1: 12}, api.Rect{X0: 5, Y0: 2, X1: 40, Y1: 24}
	l, wide := Blocks(band, res, p, 1, 0) // the part from 0 to 8 both ways
	if wide != 2 || !slices.Equal(l, []api.Rect{{X0: 3, Y0: 1, X1: 4, Y1: 8}, {X0: 4, Y0: 1, X1: 8, Y1: 8}}) {
		t.Errorf("%v, %d", l, wide)
	}
	l, wide = Blocks(band, res, p, 1, 5) // the part from 16 to 24 across, from 8 to 16 down
	if wide != 1 || !slices.Equal(l, []api.Rect{{X0: 16, Y0: 8, X1: 20, Y1: 12}}) {
		t.Errorf("%v, %d", l, wide)
	}
	l, wide = Blocks(band, res, p, 0, 1) // the part from 16 to 32 across, from 0 to 16 down
	if wide != 1 || !slices.Equal(l, []api.Rect{{X0: 16, Y0: 1, X1: 20, Y1: 8}, {X0: 16, Y0: 8, X1: 20, Y1: 12}}) {
		t.Errorf("%v, %d", l, wide)
	}
	p.Prec = 1 // code-blocks of one place in the bands, of two by two in resolution 0
	l, wide = Blocks(api.Rect{X1: 2, Y1: 2}, api.Rect{X1: 4, Y1: 4}, p, 3, 3)
	if wide != 1 || !slices.Equal(l, []api.Rect{{X0: 1, Y0: 1, X1: 2, Y1: 2}}) {
		t.Errorf("%v, %d", l, wide)
	}
	l, wide = Blocks(api.Rect{X1: 4, Y1: 4}, api.Rect{X1: 4, Y1: 4}, p, 0, 3)
	if wide != 1 || !slices.Equal(l, []api.Rect{{X0: 2, Y0: 2, X1: 4, Y1: 4}}) {
		t.Errorf("%v, %d", l, wide)
	}
	for _, k := range []int{-1, 4, math.MaxInt, math.MinInt} {
		if l, wide := Blocks(api.Rect{X1: 4, Y1: 4}, api.Rect{X1: 4, Y1: 4}, p, 0, k); len(l) != 0 || wide != 0 {
			t.Errorf("precinct %d: %v, %d", k, l, wide)
		}
	}
	if l, wide := Blocks(api.Rect{X0: 2, X1: 2, Y1: 4}, api.Rect{X1: 4, Y1: 4}, p, 0, 0); len(l) != 0 || wide != 0 {
		t.Errorf("an empty band: %v, %d", l, wide)
	}
	if l, wide := Blocks(api.Rect{X0: 2, Y0: 2, X1: 4, Y1: 4}, api.Rect{X1: 4, Y1: 4}, p, 0, 0); len(l) != 0 || wide != 0 {
		t.Errorf("an empty part: %v, %d", l, wide)
	}
}

func TestEachPlaceInOneBlock(t *testing.T) { // P1204
	for seed := range 200 {
		p := params()
		p.Cbw, p.Cbh, p.Prec = 2+seed%5, 2+seed/5%5, 1+seed%7
		c := api.Rect{X0: seed % 40, Y0: seed / 3 % 37, X1: seed%40 + seed%25, Y1: seed/3%37 + seed%64}
		levels := seed % 6
		for r := range levels + 1 {
			res := Resolution(c, levels, r)
			wide, high := Precincts(res, p.Prec)
			_, bands := Bands(c, levels, r)
			for _, b := range bands {
				seen := map[[2]int]int{}
				for k := range wide * high {
					l, w := Blocks(b, res, p, r, k)
					if w > 0 && len(l)%w != 0 {
						t.Fatalf("seed %d: %d blocks in rows of %d", seed, len(l), w)
					}
					for _, x := range l {
						if empty(x) || x.X1-x.X0 > 1<<p.Cbw || x.Y1-x.Y0 > 1<<p.Cbh {
							t.Fatalf("seed %d: block %v", seed, x)
						}
						for i, j := range places(x) {
							seen[[2]int{i, j}]++
						}
					}
				}
				for i, j := range places(b) {
					if seen[[2]int{i, j}] != 1 {
						t.Fatalf("seed %d, resolution %d: %d, %d of %v is in %d blocks", seed, r, i, j, b, seen[[2]int{i, j}])
					}
					delete(seen, [2]int{i, j})
				}
				if len(seen) != 0 {
					t.Fatalf("seed %d: places outside of %v", seed, b)
				}
			}
		}
	}
}

func TestAnyArgumentsEnd(t *testing.T) { // P1
	far := []int{math.MinInt, math.MinInt + 1, -1, 0, 1, 62, 63, 64, 256, 1 << 40, math.MaxInt}
	for _, a := range far {
		for _, b := range far {
			r := api.Rect{X0: a, Y0: b, X1: b, Y1: a}
			for _, q := range []api.Rect{r, {X1: a, Y1: b}, {X0: math.MinInt, Y0: math.MinInt, X1: math.MaxInt, Y1: math.MaxInt}, {X1: 7, Y1: 7}} {
				Part(q, a, b)
				Resolution(q, a, b)
				Bands(q, a, b)
				Precincts(q, a)
				p := params()
				Blocks(q, q, p, a, b)
				Blocks(api.Rect{X1: 7, Y1: 7}, q, p, a, b)
				p.Prec, p.Cbw, p.Cbh = a, b, a
				Blocks(api.Rect{X1: 7, Y1: 7}, api.Rect{X1: 7, Y1: 7}, p, 1, 0)
				p.Tx, p.Ty = a, b
				Tiles(api.Image{X: b, Y: a, Ox: a, Oy: b}, p)
				Check(api.Image{X: 64, Y: 64, Comps: []api.Comp{{Depth: a, Dx: b, Dy: a}}}, p)
			}
		}
	}
}
