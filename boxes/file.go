package boxes

import (
	"iter"
	"slices"

	"wavelet/api"
	"wavelet/bytes"
	"wavelet/marks"
)

// Kinds of boxes.
const (
	signature = "jP  "
	fileType  = "ftyp"
	headers   = "jp2h"
	picture   = "ihdr"
	depths    = "bpcc"
	colors    = "colr"
	content   = "jp2c"
)

const (
	signed   = 128 // beside the depth of a component with a sign
	various  = 255 // in place of a depth, where the components differ
	coding   = 7   // the only way of coding that a file can say
	turned   = 16  // three components are colors
	gray     = 17
	ihdrSize = 14
)

// mark is what the first box of a file holds.
func mark() []byte {
	return []byte{13, 10, 135, 10}
}

// Wrap puts a stream into a file.
func Wrap(stream []byte) ([]byte, api.Errno) {
	h, _, e := marks.Parse(stream)
	if e != api.OK {
		return nil, e
	}
	return Write([]Box{
		{signature, mark()},
		{fileType, []byte("jp2 \x00\x00\x00\x00jp2 ")},
		{headers, Write(described(h.M))},
		{content, stream},
	}), api.OK
}

// Open returns the stream of a file.
func Open(b []byte) ([]byte, api.Errno) {
	l, e := Read(b)
	if e != api.OK {
		return nil, e
	}
	if len(l) < 2 || l[0].Kind != signature || !slices.Equal(l[0].Data, mark()) || l[1].Kind != fileType {
		return nil, api.ErrBox
	}
	kind := func(k string) func(Box) bool { return func(x Box) bool { return x.Kind == k } }
	first, found := find(slices.All(l), kind(content))
	before, told := find(slices.All(l), kind(headers))
	if !found || !told || before > first {
		return nil, api.ErrBox
	}
	inner, e := Read(l[before].Data)
	if e != api.OK || len(inner) == 0 || inner[0].Kind != picture || len(inner[0].Data) != ihdrSize {
		return nil, api.ErrBox
	}
	h, _, e := marks.Parse(l[first].Data)
	if e != api.OK {
		return nil, e
	}
	if !slices.Equal(inner[0].Data[:10], size(h.M)) {
		return nil, api.ErrBox
	}
	return l[first].Data, api.OK
}

// described returns the boxes that tell what a picture is.
func described(m api.Image) []Box {
	each := depth(m.Comps)
	alike := !slices.ContainsFunc(each, func(x byte) bool { return x != each[0] })
	l := []Box{{picture, size(m)}}
	if alike {
		l[0].Data = append(l[0].Data, each[0], coding, 0, 0)
	} else {
		l[0].Data = append(l[0].Data, various, coding, 0, 0)
		l = append(l, Box{depths, each})
	}
	color := byte(gray)
	if len(m.Comps) >= 3 {
		color = turned
	}
	return append(l, Box{colors, []byte{1, 0, 0, 0, 0, 0, color}})
}

// size returns the height, the width and the number of components as fields.
func size(m api.Image) []byte {
	return slices.Concat(bytes.Put(nil, 4, m.Y-m.Oy), bytes.Put(nil, 4, m.X-m.Ox), bytes.Put(nil, 2, len(m.Comps)))
}

// depth returns the depth and the sign of each component in one byte.
func depth(l []api.Comp) []byte {
	b := make([]byte, len(l))
	for i, c := range l {
		b[i] = byte(c.Depth - 1)
		if c.Signed {
			b[i] += signed
		}
	}
	return b
}

// find returns the key of the first value that is as asked for.
func find[K, V any](seq iter.Seq2[K, V], is func(V) bool) (K, bool) {
	for k, v := range seq {
		if is(v) {
			return k, true
		}
	}
	var none K
	return none, false
}
