package op

import (
	"errors"
	"math"
	"math/rand"
	"strings"
	"testing"

	"lodge/api"
	"lodge/conv"
	"lodge/elem"
	"lodge/mat"
	"lodge/pool"
	"lodge/shape"
	"lodge/soft"
	"lodge/tens"
)

func narrow(l ...int) api.Desc { return api.Desc{Shape: l} }
func wide(l ...int) api.Desc   { return api.Desc{Shape: l, Wide: true} }

// P12.1
func TestKinds(t *testing.T) {
	names := strings.Fields("add sub mul max relu clamp requant widen matmul conv maxpool avgpool softmax gather reshape argmax sum turn")
	ins := []int{2, 2, 2, 2, 1, 1, 1, 1, 2, 2, 1, 1, 2, 2, 1, 1, 1, 1}
	args := []int{0, 0, 0, 0, 0, 2, 3, 1, 2, 3, 2, 2, 0, 0, 0, 0, 0, 0}
	for i, name := range names {
		op := api.Add + i
		back, ok := Named(name)
		if !Known(op) || Name(op) != name || back != op || !ok || Ins(op) != ins[i] || Args(op) != args[i] {
			t.Error(name)
		}
	}
	for _, op := range []int{-1, 0, api.Input, api.Const, api.Weight, api.Jump, api.JumpZero, api.Halt, 99, math.MaxInt, math.MinInt} {
		if Known(op) || Name(op) != "" || Ins(op) != 0 || Args(op) != 0 {
			t.Error(op)
		}
	}
	for _, s := range []string{"", "Add", "input", "const", "halt", "add "} {
		if op, ok := Named(s); ok || op != 0 {
			t.Error(s)
		}
	}
}

// sample is a call that may be: its answer's look, what an element costs, and what its layer says.
type sample struct {
	op   int
	args []int
	ins  []api.Desc
	want api.Desc
	unit int
	do   func(l []api.Tensor) (api.Tensor, error)
}

func two(op int) func(l []api.Tensor) (api.Tensor, error) {
	return func(l []api.Tensor) (api.Tensor, error) { return elem.Two(op, l[0], l[1]) }
}

func one(op int, args ...int) func(l []api.Tensor) (api.Tensor, error) {
	return func(l []api.Tensor) (api.Tensor, error) { return elem.One(op, l[0], args...) }
}

func samples() []sample {
	n, w := narrow(2, 3), wide(2, 3)
	type l = []api.Tensor
	type r = api.Tensor
	return []sample{
		{api.Add, nil, []api.Desc{n, n}, n, 1, two(api.Add)},
		{api.Sub, nil, []api.Desc{w, w}, w, 1, two(api.Sub)},
		{api.Mul, nil, []api.Desc{n, n}, n, 1, two(api.Mul)},
		{api.Max, nil, []api.Desc{w, w}, w, 1, two(api.Max)},
		{api.Relu, nil, []api.Desc{n}, n, 1, one(api.Relu)},
		{api.Clamp, []int{-3, 4}, []api.Desc{w}, w, 1, one(api.Clamp, -3, 4)},
		{api.Requant, []int{1 << 30, 31, 1}, []api.Desc{w}, n, 2, one(api.Requant, 1<<30, 31, 1)},
		{api.Widen, []int{7}, []api.Desc{n}, w, 1, one(api.Widen, 7)},
		{api.MatMul, []int{1, 2}, []api.Desc{n, narrow(3, 4)}, wide(2, 4), 3, func(x l) (r, error) { return mat.Mul(x[0], x[1], 1, 2) }},
		{api.Conv, []int{1, 1, 5}, []api.Desc{narrow(4, 5, 2), narrow(3, 2, 2, 3)}, wide(4, 6, 3), 12, func(x l) (r, error) { return conv.Do(x[0], x[1], 1, 1, 5) }},
		{api.MaxPool, []int{3, 1}, []api.Desc{wide(4, 5, 2)}, wide(2, 3, 2), 9, func(x l) (r, error) { return pool.Max(x[0], 3, 1) }},
		{api.AvgPool, []int{2, 2}, []api.Desc{narrow(4, 5, 2)}, narrow(2, 2, 2), 4, func(x l) (r, error) { return pool.Avg(x[0], 2, 2) }},
		{api.Softmax, nil, []api.Desc{n, wide(256)}, n, 3, func(x l) (r, error) { return soft.Softmax(x[0], x[1]) }},
		{api.Gather, nil, []api.Desc{n, wide(5)}, narrow(5, 3), 1, func(x l) (r, error) { return soft.Gather(x[0], x[1]) }},
		{api.ArgMax, nil, []api.Desc{n}, wide(2), 3, func(x l) (r, error) { return soft.ArgMax(x[0]) }},
		{api.Sum, nil, []api.Desc{wide(5, 4)}, wide(5), 4, func(x l) (r, error) { return soft.Sum(x[0]) }},
		{api.Turn, nil, []api.Desc{n}, narrow(3, 2), 1, func(x l) (r, error) { return mat.Turn(x[0]) }},
		{api.Reshape, []int{3, 1, 2}, []api.Desc{w}, wide(3, 1, 2), 1, func(x l) (r, error) { return api.Tensor{Desc: wide(3, 1, 2), Data: x[0].Data}, nil }},
		{api.Reshape, nil, []api.Desc{narrow(1, 1)}, narrow(), 1, func(x l) (r, error) { return api.Tensor{Desc: narrow(), Data: x[0].Data}, nil }},
	}
}

func random(r *rand.Rand, descs []api.Desc) []api.Tensor {
	var out []api.Tensor
	for _, d := range descs {
		a, _ := tens.Zero(d)
		for i := range a.Data {
			a.Data[i] = r.Intn(256) - 128
		}
		out = append(out, a)
	}
	return out
}

// P12.2, P12.3
func TestAsTheLayers(t *testing.T) {
	r := rand.New(rand.NewSource(1))
	for i, x := range samples() {
		d, err := Result(x.op, x.args, x.ins...)
		if err != nil || !shape.Same(d, x.want) {
			t.Error(i, d, err)
		}
		if unit, err := Unit(x.op, x.args, x.ins...); unit != x.unit || err != nil {
			t.Error(i, unit, err)
		}
		ins := random(r, x.ins)
		want, err := x.do(ins)
		if err != nil {
			t.Fatal(i, err)
		}
		got, err := Apply(x.op, x.args, ins...)
		if err != nil || !tens.Same(got, want) || !shape.Same(got.Desc, x.want) {
			t.Error(i, got, err)
		}
		for k, v := range want.Data {
			if Element(x.op, x.args, k, ins...) != v {
				t.Error(i, k)
			}
		}
		if Element(x.op, x.args, -1, ins...) != 0 || Element(x.op, x.args, len(want.Data), ins...) != 0 {
			t.Error(i, "Element of none")
		}
		got.Data[0]++
		if again, _ := Apply(x.op, x.args, ins...); !tens.Same(again, want) {
			t.Error(i, "shared")
		}
	}
}

// P12.2, P12.3
func TestCounts(t *testing.T) {
	r := rand.New(rand.NewSource(2))
	for i, x := range samples() {
		bad := append([]api.Desc{}, x.ins...)
		bad[0] = narrow(0)
		for _, y := range []struct {
			args []int
			ins  []api.Desc
			err  error
		}{{x.args, bad[:len(bad)-1], api.ErrShape}, {x.args, append(bad, bad[0]), api.ErrShape}, {x.args, bad, api.ErrRange}, {append(append([]int{}, x.args...), 999), bad, api.ErrShape}} {
			if x.op == api.Reshape && len(y.args) > len(x.args) {
				continue
			}
			if d, err := Result(x.op, y.args, y.ins...); err != y.err || d.Shape != nil || d.Wide {
				t.Error(i, d, err)
			}
			if unit, err := Unit(x.op, y.args, y.ins...); err != y.err || unit != 0 {
				t.Error(i, unit, err)
			}
		}
		ins := random(r, x.ins)
		if got, err := Apply(x.op, x.args, append(ins, ins[0])...); err != api.ErrShape || got.Data != nil {
			t.Error(i, err)
		}
		ins[0].Data[0] = 1 << 40
		if _, err := Apply(99, nil, ins...); !errors.Is(err, api.ErrRange) || err == api.ErrRange {
			t.Error(i, err)
		}
		if Element(x.op, x.args, 0, ins...) != 0 {
			t.Error(i, "Element of what is refused")
		}
	}
	for _, op := range []int{-1, 0, api.Const, api.Jump, 99} {
		if _, err := Result(op, nil); err != api.ErrKind {
			t.Error(op, err)
		}
		if _, err := Result(op, []int{1}, narrow(0)); err != api.ErrKind {
			t.Error(op, err)
		}
		if _, err := Apply(op, nil); err != api.ErrKind {
			t.Error(op, err)
		}
		if _, err := Unit(op, nil); err != api.ErrKind {
			t.Error(op, err)
		}
		if Element(op, nil, 0) != 0 {
			t.Error(op)
		}
	}
}

// P12.2
func TestReshapeAndTurn(t *testing.T) {
	for i, x := range []struct {
		op   int
		args []int
		in   api.Desc
		err  error
	}{{api.Reshape, []int{1, 1, 1, 1, 6}, narrow(6), api.ErrMany}, {api.Reshape, []int{0}, narrow(6), api.ErrRange}, {api.Reshape, []int{0}, narrow(1, 1, 1, 1, 1), api.ErrMany}, {api.Reshape, []int{2, 2}, narrow(6), api.ErrShape}, {api.Reshape, nil, narrow(6), api.ErrShape}, {api.Turn, nil, narrow(6), api.ErrShape}, {api.Turn, nil, narrow(1, 1, 1), api.ErrShape}, {api.Turn, []int{1}, narrow(0), api.ErrShape}, {api.Turn, nil, narrow(0), api.ErrRange}} {
		if _, err := Result(x.op, x.args, x.in); err != x.err {
			t.Error(i, err)
		}
	}
	dims := []int{2, 3}
	d, _ := Result(api.Reshape, dims, narrow(6))
	d.Shape[0] = 9
	if dims[0] != 2 {
		t.Error("shared")
	}
}
