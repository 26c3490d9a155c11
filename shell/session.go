package shell

import (
	"strings"

	"wavelet/api"
	"wavelet/boxes"
	"wavelet/canvas"
	"wavelet/codec"
	"wavelet/grammar"
	"wavelet/order"
	"wavelet/sketch"
)

// session is what the commands of a script work on.
type session struct {
	picture api.Image
	params  api.Params
	stream  []byte
}

func newSession() *session {
	s := &session{params: api.Params{Tx: 64, Ty: 64, Levels: 2, Cbw: 3, Cbh: 3, Prec: 15, Layers: 1}}
	s.picture, _ = sketch.Draw(8, 8, 0, 0, 1, 8, 1)
	return s
}

// commands returns the commands by their names.
func (s *session) commands() map[string]command {
	p := &s.params
	return map[string]command{
		"draw":    {"nnnnnnn", s.draw},
		"tile":    setter(itself, &p.Tx, &p.Ty),
		"levels":  setter(itself, &p.Levels),
		"block":   setter(itself, &p.Cbw, &p.Cbh),
		"prec":    setter(itself, &p.Prec),
		"style":   setter(itself, &p.Style),
		"order":   setter(itself, &p.Order),
		"layers":  setter(itself, &p.Layers),
		"turn":    setter(truth, &p.Rct),
		"marks":   setter(truth, &p.Sop, &p.Eph),
		"encode":  {"T", s.encode},
		"decode":  {"nn", s.decode},
		"wrap":    {"", s.wrap},
		"open":    {"", s.open},
		"walk":    {"", s.walk},
		"byte":    {"nn", s.setByte},
		"cut":     {"n", s.cut},
		"tiles":   {"", s.tiles},
		"packets": {"", s.packets},
		"sum":     {"", s.sum},
	}
}

// setter returns the command that sets each of some params to what its number means.
func setter[T any](meaning func(n int) T, places ...*T) command {
	set := func(a arguments) string {
		for i, place := range places {
			*place = meaning(a.n[i])
		}
		return api.OK.Error()
	}
	return command{strings.Repeat("n", len(places)), set}
}

func itself(n int) int { return n }

func truth(n int) bool { return n != 0 }

func (s *session) draw(a arguments) string {
	m, e := sketch.Draw(a.n[0], a.n[1], a.n[2], a.n[3], a.n[4], a.n[5], a.n[6])
	if e == api.OK {
		s.picture = m
	}
	return e.Error()
}

func (s *session) encode(a arguments) string {
	b, e := codec.Encode(s.picture, s.params, []byte(a.t[0]))
	return s.become(b, e)
}

func (s *session) wrap(arguments) string {
	return s.become(boxes.Wrap(s.stream))
}

func (s *session) open(arguments) string {
	return s.become(boxes.Open(s.stream))
}

// become takes a new stream over, unless there is an error.
func (s *session) become(b []byte, e api.Errno) string {
	if e == api.OK {
		s.stream = b
	}
	return told(e, len(b))
}

func (s *session) decode(a arguments) string {
	m, e := codec.Decode(s.stream, a.n[0], a.n[1])
	same := 0
	if codec.Same(m, s.picture) {
		same = 1
	}
	samples := total(m.Comps, func(c api.Comp) int { return len(c.Data) })
	return told(e, samples, sketch.Sum(m), same)
}

func (s *session) walk(arguments) string {
	marks, _, e := grammar.Walk(s.stream)
	return told(e, len(marks))
}

func (s *session) setByte(a arguments) string {
	if a.n[0] < 0 || a.n[0] >= len(s.stream) {
		return api.ErrNone.Error()
	}
	s.stream[a.n[0]] = byte(a.n[1])
	return api.OK.Error()
}

func (s *session) cut(a arguments) string {
	if a.n[0] < 0 || a.n[0] > len(s.stream) {
		return api.ErrArg.Error()
	}
	s.stream = s.stream[:a.n[0]]
	return api.OK.Error()
}

func (s *session) tiles(arguments) string {
	return s.count(func(api.Rect) int { return 1 })
}

func (s *session) packets(arguments) string {
	return s.count(func(t api.Rect) int { return len(order.List(t, s.picture, s.params)) })
}

// count adds up what is said of the tiles, if there are any.
func (s *session) count(of func(t api.Rect) int) string {
	if e := canvas.Frame(s.picture, s.params); e != api.OK {
		return e.Error()
	}
	return told(api.OK, total(canvas.Tiles(s.picture, s.params), of))
}

func (s *session) sum(arguments) string {
	return told(api.OK, sketch.Sum(s.picture))
}

// total adds up what count says of the elements of a list.
func total[T any](l []T, count func(T) int) int {
	n := 0
	for _, x := range l {
		n += count(x)
	}
	return n
}
