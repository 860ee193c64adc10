package shape

import (
	"math"
	"slices"
	"testing"

	"lodge/api"
)

func narrow(l ...int) api.Desc { return api.Desc{Shape: l} }
func wide(l ...int) api.Desc   { return api.Desc{Shape: l, Wide: true} }

var refused = []struct {
	shape []int
	err   error
}{{[]int{1, 1, 1, 1, 1}, api.ErrMany}, {[]int{0, 1, 1, 1, 1}, api.ErrMany}, {[]int{0}, api.ErrRange}, {[]int{257}, api.ErrRange}, {[]int{-1, 2}, api.ErrRange}, {[]int{256, 256, 0}, api.ErrRange}, {[]int{256, 65}, api.ErrMany}, {[]int{256, 256, 256, 256}, api.ErrMany}, {[]int{math.MaxInt, math.MaxInt}, api.ErrRange}, {[]int{math.MinInt}, api.ErrRange}}

// P5.1
func TestValid(t *testing.T) {
	for i, x := range refused {
		if err := Valid(wide(x.shape...)); err != x.err {
			t.Error(i, err)
		}
		if Elems(x.shape...) != 0 || Bytes(wide(x.shape...)) != 0 || len(Steps(x.shape...)) != 0 {
			t.Error(i, "not nothing")
		}
		if _, ok := Index(x.shape, make([]int, len(x.shape))...); ok {
			t.Error(i, "Index")
		}
		if at, ok := At(x.shape, 0); ok || at != nil {
			t.Error(i, "At")
		}
		for range Each(x.shape...) {
			t.Error(i, "Each")
		}
	}
	for i, x := range []struct {
		shape, steps []int
		elems        int
	}{{nil, nil, 1}, {[]int{256}, []int{1}, 256}, {[]int{256, 64}, []int{64, 1}, 16384}, {[]int{2, 3, 4, 5}, []int{60, 20, 5, 1}, 120}, {[]int{1, 1}, []int{1, 1}, 1}} {
		if Valid(narrow(x.shape...)) != nil || Elems(x.shape...) != x.elems || Bytes(narrow(x.shape...)) != x.elems || Bytes(wide(x.shape...)) != 4*x.elems || !slices.Equal(Steps(x.shape...), x.steps) {
			t.Error(i)
		}
	}
}

// P5.1
func TestSameAndClone(t *testing.T) {
	if !Same(narrow(), api.Desc{Shape: []int{}}) || Same(narrow(), wide()) || Same(narrow(1), narrow()) || Same(narrow(1, 2), narrow(2, 1)) || !Same(wide(0, -3), wide(0, -3)) {
		t.Error("Same")
	}
	d := wide(2, 3)
	c := Clone(d)
	if !Same(c, d) {
		t.Error("Clone")
	}
	c.Shape[0] = 9
	if d.Shape[0] != 2 {
		t.Error("shared")
	}
}

// P5.2
func TestPlaces(t *testing.T) {
	if i, ok := Index([]int{2, 3}, 1, 2); i != 5 || !ok {
		t.Error(i, ok)
	}
	if i, ok := Index(nil); i != 0 || !ok {
		t.Error("scalar")
	}
	for i, at := range [][]int{{}, {1}, {1, 2, 0}, {2, 0}, {0, 3}, {-1, 0}, {0, -1}} {
		if n, ok := Index([]int{2, 3}, at...); ok || n != 0 {
			t.Error(i, n)
		}
	}
	for _, i := range []int{-1, 6, math.MaxInt} {
		if at, ok := At([]int{2, 3}, i); ok || at != nil {
			t.Error(i, at)
		}
	}
	for _, shape := range [][]int{nil, {7}, {2, 3}, {3, 1, 2, 5}} {
		n := 0
		for i, at := range Each(shape...) {
			back, ok := Index(shape, at...)
			at2, ok2 := At(shape, i)
			if i != n || back != i || !ok || !ok2 || !slices.Equal(at, at2) {
				t.Error(shape, i, at)
			}
			for k := range at { // the caller's own
				at[k] = 99
			}
			n++
		}
		if n != Elems(shape...) {
			t.Error(shape, n)
		}
	}
}

// P5.2
func TestEachAgain(t *testing.T) {
	shape := []int{2, 2}
	seq := Each(shape...)
	shape[0] = 100
	for range 2 {
		n := 0
		for i := range seq {
			n++
			if i == 2 {
				break
			}
		}
		if n != 3 {
			t.Error(n)
		}
	}
	n := 0
	for range seq {
		n++
	}
	if n != 4 {
		t.Error("what was handed in was kept", n)
	}
}

// P5.2
func TestText(t *testing.T) {
	for want, d := range map[string]api.Desc{"w[2x3]": wide(2, 3), "n[]": narrow(), "w[]": wide(), "n[256]": narrow(256), "n[1x2x3x4]": narrow(1, 2, 3, 4)} {
		if got := Text(d); got != want {
			t.Error(got)
		}
	}
}
