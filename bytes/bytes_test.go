package bytes

import (
	"math"
	"testing"

	"wavelet/api"
)

func TestPutWritesLowestBytes(t *testing.T) { // P101
	for _, x := range []struct {
		size, n int
		want    string
	}{
		{1, 258, "\x02"},
		{2, 258, "\x01\x02"},
		{3, 0x01020304, "\x02\x03\x04"},
		{4, 1<<32 + 7, "\x00\x00\x00\x07"},
		{5, -1, "\xff\xff\xff\xff\xff"},
		{7, 1 << 55, "\x80\x00\x00\x00\x00\x00\x00"},
		{8, math.MinInt, "\x80\x00\x00\x00\x00\x00\x00\x00"},
		{0, 1, ""}, {9, 1, ""}, {-1, 1, ""}, {math.MaxInt, 1, ""}, {math.MinInt, 1, ""},
	} {
		if got := Put([]byte("ab"), x.size, x.n); string(got) != "ab"+x.want {
			t.Errorf("Put(ab, %d, %d) = %x", x.size, x.n, got)
		}
	}
	if got := Put(nil, 2, 258); string(got) != "\x01\x02" {
		t.Errorf("Put(nil, 2, 258) = %x", got)
	}
}

func TestPutLeavesItsArgument(t *testing.T) { // P2
	in := make([]byte, 2, 32)
	for _, size := range []int{8, 0} {
		out := Put(in, size, -1)
		out = append(out, 9)
		out[0] = 9
		for i, x := range in[:32] {
			if x != 0 {
				t.Errorf("size %d: byte %d of the argument is %d", size, i, x)
			}
		}
	}
}

func TestReaderReadsInOrder(t *testing.T) { // P101
	b := []byte{255, 1, 2, 128, 0, 0, 0, 0, 0, 0, 1, 7, 8, 9}
	r := New(b)
	b[0] = 0
	if n := r.Get(1); n != 255 {
		t.Errorf("Get(1) = %d", n)
	}
	if n := r.Get(2); n != 258 {
		t.Errorf("Get(2) = %d", n)
	}
	if n := r.Get(8); n != math.MinInt+1 {
		t.Errorf("Get(8) = %d", n)
	}
	if n := r.Left(); n != 3 || r.End() != api.ErrMore {
		t.Errorf("%d left, %v", n, r.End())
	}
	if l := r.Take(0); len(l) != 0 || r.Left() != 3 {
		t.Errorf("Take(0) = %v, %d left", l, r.Left())
	}
	l := r.Take(2)
	if string(l) != "\x07\x08" || r.Left() != 1 {
		t.Errorf("Take(2) = %v, %d left", l, r.Left())
	}
	_ = append(l, 77)
	if n := r.Get(1); n != 9 || r.Left() != 0 || r.End() != api.OK {
		t.Errorf("Get(1) = %d, %d left, %v", n, r.Left(), r.End())
	}
}

func TestReaderKeepsFirstError(t *testing.T) { // P101
	for name, x := range map[string]struct {
		do   func(r *Reader)
		want api.Errno
	}{
		"size 0":        {func(r *Reader) { r.Get(0) }, api.ErrArg},
		"size 9":        {func(r *Reader) { r.Get(9) }, api.ErrArg},
		"size below 0":  {func(r *Reader) { r.Get(math.MinInt) }, api.ErrArg},
		"field cut":     {func(r *Reader) { r.Get(4) }, api.ErrCut},
		"bytes below 0": {func(r *Reader) { r.Take(-1) }, api.ErrArg},
		"bytes cut":     {func(r *Reader) { r.Take(math.MaxInt) }, api.ErrCut},
		"failed":        {func(r *Reader) { r.Fail(api.ErrBox); r.Fail(api.ErrBad) }, api.ErrBox},
		"fail then cut": {func(r *Reader) { r.Fail(api.ErrBox); r.Get(4); r.Take(-1) }, api.ErrBox},
		"cut then arg":  {func(r *Reader) { r.Get(4); r.Get(0) }, api.ErrCut},
		"fail with OK":  {func(r *Reader) { r.Get(4); r.Fail(api.OK) }, api.ErrCut},
	} {
		r := New([]byte{1, 2, 3})
		x.do(r)
		if e := r.End(); e != x.want {
			t.Errorf("%s: %v, want %v", name, e, x.want)
		}
		if r.Left() != 0 || r.Get(1) != 0 || len(r.Take(1)) != 0 || r.End() != x.want {
			t.Errorf("%s: reads on behind the error", name)
		}
	}
	r := New([]byte{1})
	if r.Fail(api.OK); r.Get(1) != 1 || r.End() != api.OK {
		t.Errorf("Fail(OK) is no error: %v", r.End())
	}
}

func TestOneByteLeftIsMore(t *testing.T) { // P101
	r := New([]byte{1, 2})
	if r.Get(1); r.Left() != 1 || r.End() != api.ErrMore {
		t.Errorf("%d left, %v", r.Left(), r.End())
	}
}

func TestErrorReadsNothing(t *testing.T) { // P101, P7
	a, b := New([]byte{1, 2}), New([]byte{1, 2})
	a.Get(3)
	if b.Get(2) != 258 || b.End() != api.OK {
		t.Error("one Reader's error is another's")
	}
}

func TestGetReadsWhatPutWrote(t *testing.T) { // P102
	for size := 1; size <= 8; size++ {
		for _, n := range []int{0, 1, 255, 256, -1, -2, math.MaxInt, math.MinInt, 0x0102030405060708} {
			want := n
			if size < 8 {
				want = n & (1<<(8*size) - 1)
			}
			r := New(Put(nil, size, n))
			if got := r.Get(size); got != want || r.End() != api.OK {
				t.Errorf("size %d: %d was read as %d", size, n, got)
			}
		}
	}
}
