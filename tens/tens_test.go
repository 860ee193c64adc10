package tens

import (
	"bytes"
	"errors"
	"math"
	"testing"

	"lodge/api"
)

func narrow(l ...int) api.Desc { return api.Desc{Shape: l} }
func wide(l ...int) api.Desc   { return api.Desc{Shape: l, Wide: true} }

// told tells whether err is want, around a place from 0 on, or alone (-1).
func told(err, want error, place int) bool {
	if at, ok := err.(*api.At); ok {
		return at.Pos == place && at.Err == want
	}
	return err == want && place < 0
}

var faults = []struct {
	d     api.Desc
	data  []int
	err   error
	place int
}{
	{narrow(1, 1, 1, 1, 1), []int{0}, api.ErrMany, -1},
	{narrow(0), nil, api.ErrRange, -1},
	{narrow(2), []int{0}, api.ErrShape, -1},
	{narrow(2), []int{999, 0, 0}, api.ErrShape, -1},
	{narrow(), nil, api.ErrShape, -1},
	{narrow(3), []int{-128, 127, 128}, api.ErrRange, 2},
	{narrow(3), []int{-128, -129, 128}, api.ErrRange, 1},
	{wide(2), []int{math.MaxInt32, math.MaxInt32 + 1}, api.ErrRange, 1},
	{wide(2), []int{math.MinInt32 - 1, 0}, api.ErrRange, 0},
}

// P6.1
func TestValidAndNew(t *testing.T) {
	for i, x := range faults {
		bad := api.Tensor{Desc: x.d, Data: x.data}
		if err := Valid(bad); !told(err, x.err, x.place) {
			t.Error(i, err)
		}
		got, err := New(x.d, x.data...)
		if !told(err, x.err, x.place) || got.Shape != nil || got.Data != nil || got.Wide {
			t.Error(i, got, err)
		}
		if _, ok := Get(bad, make([]int, len(x.d.Shape))...); ok || Raw(bad) != nil || Bytes(bad) != nil {
			t.Error(i, "not nothing")
		}
	}
	data := []int{-128, 127}
	a, err := New(narrow(2), data...)
	if err != nil || Valid(a) != nil {
		t.Fatal(err)
	}
	data[0] = 0
	if a.Data[0] != -128 {
		t.Error("kept")
	}
}

// P6.1
func TestZeroSameCloneGet(t *testing.T) {
	z, err := Zero(wide(2, 2))
	if err != nil || !Same(z, api.Tensor{Desc: wide(2, 2), Data: make([]int, 4)}) {
		t.Error(z, err)
	}
	if z, err := Zero(wide(300)); err != api.ErrRange || z.Wide || z.Shape != nil {
		t.Error(z, err)
	}
	a, _ := New(narrow(2, 3), 1, 2, 3, 4, 5, 6)
	for i, b := range []api.Tensor{{Desc: wide(2, 3), Data: a.Data}, {Desc: narrow(3, 2), Data: a.Data}, {Desc: narrow(2, 3), Data: []int{1, 2, 3, 4, 5, 7}}, {Desc: narrow(2, 3), Data: a.Data[:5]}} {
		if Same(a, b) || Same(b, a) {
			t.Error(i)
		}
	}
	c := Clone(a)
	if !Same(a, c) {
		t.Error("Clone")
	}
	c.Data[0], c.Shape[0] = 9, 9
	if a.Data[0] != 1 || a.Shape[0] != 2 {
		t.Error("shared")
	}
	if n, ok := Get(a, 1, 2); n != 6 || !ok {
		t.Error(n, ok)
	}
	for _, at := range [][]int{{}, {1}, {2, 0}, {0, 3}, {-1, 0}} {
		if n, ok := Get(a, at...); n != 0 || ok {
			t.Error(at, n)
		}
	}
}

// P0.4
func TestShapesAreTheirOwn(t *testing.T) {
	d := narrow(2)
	a, _ := New(d, 1, 2)
	b, _ := Zero(d)
	c, _ := Of(d, []byte{1, 2})
	d.Shape[0] = 9
	for i, x := range []api.Tensor{a, b, c} {
		if x.Shape[0] != 2 {
			t.Error(i)
		}
	}
}

// P6.1
func TestNarrowAndWide(t *testing.T) {
	for _, x := range [][3]int{{0, 0, 0}, {127, 127, 127}, {128, 127, 128}, {-128, -128, -128}, {-129, -128, -129}, {1 << 31, 127, -1 << 31}, {-1<<31 - 1, -128, 1<<31 - 1}, {1<<32 + 5, 127, 5}, {math.MaxInt, 127, -1}, {math.MinInt, -128, 0}} {
		if Narrow(x[0]) != x[1] || Wide(x[0]) != x[2] {
			t.Error(x)
		}
	}
}

// P6.2
func TestBytes(t *testing.T) {
	for i, x := range []struct {
		d    api.Desc
		data []int
		b    []byte
		raw  int
	}{
		{narrow(), []int{5}, []byte{0, 5}, 1},
		{narrow(2), []int{-1, -128}, []byte{1, 2, 0, 255, 128}, 3},
		{wide(1, 2), []int{-2, 0x01020304}, []byte{10, 1, 0, 2, 0, 254, 255, 255, 255, 4, 3, 2, 1}, 5},
		{wide(), []int{math.MinInt32}, []byte{8, 0, 0, 0, 128}, 1},
	} {
		a, _ := New(x.d, x.data...)
		if !bytes.Equal(Bytes(a), x.b) || !bytes.Equal(Raw(a), x.b[x.raw:]) {
			t.Error(i, Bytes(a), Raw(a))
		}
		for _, more := range [][]byte{nil, {7, 7}} {
			if got, n, err := Read(append(bytes.Clone(x.b), more...)); !Same(got, a) || n != len(x.b) || err != nil {
				t.Error(i, got, n, err)
			}
		}
		for n := range x.b {
			if got, k, err := Read(x.b[:n]); err != api.ErrEnd || k != 0 || got.Shape != nil || got.Data != nil || got.Wide {
				t.Error(i, n, err)
			}
		}
		if got, err := Of(x.d, x.b[x.raw:]); !Same(got, a) || err != nil {
			t.Error(i, got, err)
		}
		if _, err := Of(x.d, x.b[x.raw+1:]); err != api.ErrEnd {
			t.Error(i, err)
		}
		if _, err := Of(x.d, append(bytes.Clone(x.b[x.raw:]), 0)); err != api.ErrMany {
			t.Error(i, err)
		}
	}
	big, _ := Zero(wide(256, 64))
	if got, n, err := Read(Bytes(big)); !Same(got, big) || n != 5+65536 || err != nil {
		t.Error(n, err)
	}
}

// P6.2
func TestReadRefuses(t *testing.T) {
	for i, x := range []struct {
		b   []byte
		err error
	}{{nil, api.ErrEnd}, {[]byte{16}, api.ErrKind}, {[]byte{255, 1, 1}, api.ErrKind}, {[]byte{5, 0, 0}, api.ErrEnd}, {[]byte{1, 0}, api.ErrEnd}, {[]byte{5, 0, 0, 0, 0, 0, 0, 0, 0, 0, 0}, api.ErrMany}, {[]byte{1, 0, 0}, api.ErrRange}, {[]byte{1, 1, 1}, api.ErrRange}, {[]byte{2, 0, 1, 65, 0}, api.ErrMany}} {
		if got, n, err := Read(x.b); !errors.Is(err, x.err) || err != x.err || n != 0 || got.Data != nil {
			t.Error(i, n, err)
		}
	}
	if _, err := Of(narrow(0), nil); err != api.ErrRange {
		t.Error(err)
	}
}
