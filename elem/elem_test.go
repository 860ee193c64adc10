package elem

import (
	"math"
	"slices"
	"testing"

	"lodge/api"
	"lodge/shape"
	"lodge/tens"
)

const (
	lowest  = math.MinInt32
	highest = math.MaxInt32
)

func narrow(l ...int) api.Desc { return api.Desc{Shape: l} }
func wide(l ...int) api.Desc   { return api.Desc{Shape: l, Wide: true} }

func row(isWide bool, l ...int) api.Tensor {
	return api.Tensor{Desc: api.Desc{Shape: []int{len(l)}, Wide: isWide}, Data: l}
}

// P7.2, and the operations.
func TestTwo(t *testing.T) {
	for i, x := range []struct {
		op   int
		wide bool
		a, b []int
		want []int
	}{
		{api.Add, false, []int{100, -100, 1, -128}, []int{100, -100, 2, 127}, []int{127, -128, 3, -1}},
		{api.Sub, false, []int{100, -100, 1, -128}, []int{-100, 100, 2, 127}, []int{127, -128, -1, -128}},
		{api.Mul, false, []int{100, -100, 3, -128}, []int{2, 2, -4, -128}, []int{127, -128, -12, 127}},
		{api.Max, false, []int{1, -5}, []int{0, -4}, []int{1, -4}},
		{api.Add, true, []int{highest, lowest, 5}, []int{1, -1, 6}, []int{lowest, highest, 11}},
		{api.Sub, true, []int{lowest, highest, 5}, []int{1, -1, 6}, []int{highest, lowest, -1}},
		{api.Mul, true, []int{lowest, highest, 1 << 16, -3}, []int{lowest, highest, 1 << 16, 5}, []int{0, 1, 0, -15}},
		{api.Max, true, []int{lowest, 7}, []int{highest, 7}, []int{highest, 7}},
	} {
		got, err := Two(x.op, row(x.wide, x.a...), row(x.wide, x.b...))
		if err != nil || !tens.Same(got, row(x.wide, x.want...)) {
			t.Error(i, got, err)
		}
		for k := range x.a {
			if v := Value(x.op, x.wide, x.a[k], x.b[k]); v != x.want[k] {
				t.Error(i, k, v)
			}
		}
	}
}

// P7.2, and the operations.
func TestOne(t *testing.T) {
	for i, x := range []struct {
		op       int
		wide     bool
		a, args  []int
		wideWant bool
		want     []int
	}{
		{api.Relu, false, []int{-128, 0, 5}, nil, false, []int{0, 0, 5}},
		{api.Relu, true, []int{lowest, highest}, nil, true, []int{0, highest}},
		{api.Clamp, false, []int{-128, 0, 127}, []int{-3, 5}, false, []int{-3, 0, 5}},
		{api.Clamp, true, []int{lowest, 6, highest}, []int{lowest, 5}, true, []int{lowest, 5, 5}},
		{api.Clamp, false, []int{-128, 7}, []int{4, 4}, false, []int{4, 4}},
		{api.Requant, true, []int{3, -3, 1000, lowest}, []int{1 << 30, 31, 1}, false, []int{3, 0, 127, -128}},
		{api.Widen, false, []int{-128, 127, 5}, []int{5}, true, []int{-133, 122, 0}},
		{api.Widen, false, []int{127}, []int{-128}, true, []int{255}},
	} {
		got, err := One(x.op, row(x.wide, x.a...), x.args...)
		if err != nil || !tens.Same(got, row(x.wideWant, x.want...)) {
			t.Error(i, got, err)
		}
		for k := range x.a {
			if v := Value(x.op, x.wide, x.a[k], 0, x.args...); v != x.want[k] {
				t.Error(i, k, v)
			}
		}
	}
}

// P7.1
func TestResultRefuses(t *testing.T) {
	n, w, bad := narrow(2), wide(2), narrow(0)
	for i, x := range []struct {
		op   int
		args []int
		ins  []api.Desc
		err  error
	}{
		{api.Const, nil, nil, api.ErrKind}, {api.MatMul, nil, []api.Desc{n, n}, api.ErrKind}, {0, nil, nil, api.ErrKind}, {math.MaxInt, nil, []api.Desc{bad}, api.ErrKind}, {-1, nil, nil, api.ErrKind},
		{api.Add, nil, []api.Desc{n}, api.ErrShape}, {api.Add, nil, []api.Desc{n, n, n}, api.ErrShape}, {api.Add, []int{1}, []api.Desc{n, n}, api.ErrShape}, {api.Relu, nil, nil, api.ErrShape}, {api.Relu, nil, []api.Desc{bad, n}, api.ErrShape},
		{api.Clamp, []int{1}, []api.Desc{n}, api.ErrShape}, {api.Requant, []int{1, 1, 1, 1}, []api.Desc{w}, api.ErrShape},
		{api.Add, nil, []api.Desc{n, bad}, api.ErrRange}, {api.Add, nil, []api.Desc{narrow(1, 1, 1, 1, 1), bad}, api.ErrMany},
		{api.Add, nil, []api.Desc{n, w}, api.ErrShape}, {api.Max, nil, []api.Desc{n, narrow(3)}, api.ErrShape}, {api.Mul, nil, []api.Desc{narrow(2, 1), n}, api.ErrShape},
		{api.Requant, []int{-1, 0, 0}, []api.Desc{n}, api.ErrShape}, {api.Widen, []int{0}, []api.Desc{w}, api.ErrShape},
		{api.Clamp, []int{2, 1}, []api.Desc{n}, api.ErrRange}, {api.Clamp, []int{-129, 1}, []api.Desc{n}, api.ErrRange}, {api.Clamp, []int{0, 128}, []api.Desc{n}, api.ErrRange}, {api.Clamp, []int{0, 1 << 31}, []api.Desc{w}, api.ErrRange}, {api.Clamp, []int{0, 128}, []api.Desc{w}, nil},
		{api.Requant, []int{-1, 0, 0}, []api.Desc{w}, api.ErrRange}, {api.Requant, []int{1 << 31, 0, 0}, []api.Desc{w}, api.ErrRange}, {api.Requant, []int{0, 63, 0}, []api.Desc{w}, api.ErrRange}, {api.Requant, []int{0, -1, 0}, []api.Desc{w}, api.ErrRange}, {api.Requant, []int{0, 0, 128}, []api.Desc{w}, api.ErrRange}, {api.Requant, []int{1<<31 - 1, 62, -128}, []api.Desc{w}, nil},
		{api.Widen, []int{128}, []api.Desc{n}, api.ErrRange}, {api.Widen, []int{-129}, []api.Desc{n}, api.ErrRange},
	} {
		if d, err := Result(x.op, x.args, x.ins...); err != x.err || err != nil && (d.Shape != nil || d.Wide) {
			t.Error(i, d, err)
		}
	}
}

// P7.1
func TestResultLooks(t *testing.T) {
	n, w := narrow(2, 3), wide(2, 3)
	for i, x := range []struct {
		op   int
		args []int
		ins  []api.Desc
		want api.Desc
	}{{api.Add, nil, []api.Desc{w, w}, w}, {api.Sub, nil, []api.Desc{n, n}, n}, {api.Relu, nil, []api.Desc{n}, n}, {api.Clamp, []int{0, 1}, []api.Desc{w}, w}, {api.Requant, []int{0, 0, 0}, []api.Desc{w}, n}, {api.Widen, []int{0}, []api.Desc{n}, w}, {api.Relu, nil, []api.Desc{wide()}, wide()}} {
		d, err := Result(x.op, x.args, x.ins...)
		if err != nil || !shape.Same(d, x.want) {
			t.Error(i, d, err)
		}
		if len(d.Shape) > 0 {
			if d.Shape[0] = 9; x.ins[0].Shape[0] == 9 {
				t.Error(i, "shared")
			}
		}
	}
}

// P7.2
func TestOrderOfErrors(t *testing.T) {
	bad := row(false, 1, 500)
	if _, err := Two(99, row(false, 1, 2), bad); err == nil || err.Error() != "1: "+api.ErrRange.Error() {
		t.Error(err)
	}
	if _, err := Two(99, row(false, 1), row(false, 1)); err != api.ErrKind {
		t.Error(err)
	}
	for _, op := range []int{api.Relu, api.Clamp, api.Widen} {
		if got, err := Two(op, row(false, 1), row(false, 1)); err != api.ErrShape || got.Data != nil || got.Shape != nil {
			t.Error(got, err)
		}
	}
	if _, err := One(api.Add, row(false, 1)); err != api.ErrShape {
		t.Error(err)
	}
}

// P7.2
func TestValueOfWhatever(t *testing.T) {
	for op := -1; op < 30; op++ {
		for n := range 4 {
			v := Value(op, n%2 == 0, math.MaxInt, math.MinInt, slices.Repeat([]int{math.MinInt}, n)...)
			if (op < api.Add || op > api.Widen) && v != 0 {
				t.Error(op, v)
			}
		}
	}
}
