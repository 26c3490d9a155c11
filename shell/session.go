package shell

import (
	"wavelet/api"
	"wavelet/boxes"
	"wavelet/canvas"
	"wavelet/codec"
	"wavelet/grammar"
	"wavelet/order"
	"wavelet/sketch"
)

// session is what the commands of a script work on.
type session struct {
	picture api.Image
	params  api.Params
	stream  []byte
}

func newSession() *session {
	s := &session{params: api.Params{Tx: 64, Ty: 64, Levels: 2, Cbw: 3, Cbh: 3, Prec: 15, Layers: 1}}
	s.picture, _ = sketch.Draw(8, 8, 0, 0, 1, 8, 1)
	return s
}

// commands returns the commands by their names.
func (s *session) commands() map[string]command {
	return map[string]command{
		"draw":    {"n n n n n n n", s.draw},
		"tile":    {"n n levels n block n n prec n style n order n layers n turn n marks n n", s.tile},
		"encode":  {"T", s.encode},
		"decode":  {"n n", s.decode},
		"wrap":    {"", s.wrap},
		"open":    {"", s.open},
		"walk":    {"", s.walk},
		"byte":    {"n n", s.setByte},
		"cut":     {"n", s.cut},
		"tiles":   {"", s.tiles},
		"packets": {"", s.packets},
		"sum":     {"", s.sum},
	}
}

func (s *session) draw(a arguments) string {
	m, e := sketch.Draw(a.n[0], a.n[1], a.n[2], a.n[3], a.n[4], a.n[5], a.n[6])
	if e == api.OK {
		s.picture = m
	}
	return e.Error()
}

func (s *session) tile(a arguments) string {
	s.params = api.Params{
		Tx: a.n[0], Ty: a.n[1],
		Levels: a.n[2],
		Cbw:    a.n[3], Cbh: a.n[4],
		Prec:   a.n[5],
		Style:  a.n[6],
		Order:  a.n[7],
		Layers: a.n[8],
		Rct:    a.n[9] != 0,
		Sop:    a.n[10] != 0, Eph: a.n[11] != 0,
	}
	return api.OK.Error()
}

func (s *session) encode(a arguments) string {
	b, e := codec.Encode(s.picture, s.params, []byte(a.t[0]))
	return s.become(b, e)
}

func (s *session) wrap(arguments) string {
	return s.become(boxes.Wrap(s.stream))
}

func (s *session) open(arguments) string {
	return s.become(boxes.Open(s.stream))
}

// become takes a new stream over, unless there is an error.
func (s *session) become(b []byte, e api.Errno) string {
	if e == api.OK {
		s.stream = b
	}
	return told(e, len(b))
}

func (s *session) decode(a arguments) string {
	m, e := codec.Decode(s.stream, a.n[0], a.n[1])
	same := 0
	if codec.Same(m, s.picture) {
		same = 1
	}
	samples := total(m.Comps, func(c api.Comp) int { return len(c.Data) })
	return told(e, samples, sketch.Sum(m), same)
}

func (s *session) walk(arguments) string {
	marks, _, e := grammar.Walk(s.stream)
	return told(e, len(marks))
}

func (s *session) setByte(a arguments) string {
	if a.n[0] < 0 || a.n[0] >= len(s.stream) {
		return api.ErrNone.Error()
	}
	s.stream[a.n[0]] = byte(a.n[1])
	return api.OK.Error()
}

func (s *session) cut(a arguments) string {
	if a.n[0] < 0 || a.n[0] > len(s.stream) {
		return api.ErrArg.Error()
	}
	s.stream = s.stream[:a.n[0]]
	return api.OK.Error()
}

func (s *session) tiles(arguments) string {
	return s.count(func(api.Rect) int { return 1 })
}

func (s *session) packets(arguments) string {
	return s.count(func(t api.Rect) int { return len(order.List(t, s.picture, s.params)) })
}

// count adds up what is said of the tiles, if there are any.
func (s *session) count(of func(t api.Rect) int) string {
	if e := canvas.Frame(s.picture, s.params); e != api.OK {
		return e.Error()
	}
	return told(api.OK, total(canvas.Tiles(s.picture, s.params), of))
}

func (s *session) sum(arguments) string {
	return told(api.OK, sketch.Sum(s.picture))
}

// total adds up what count says of the elements of a list.
func total[T any](l []T, count func(T) int) int {
	n := 0
	for _, x := range l {
		n += count(x)
	}
	return n
}
