package check

import (
	"math"
	"slices"
	"testing"

	"lodge/api"
	"lodge/plan"
)

func narrow(l ...int) api.Desc { return api.Desc{Shape: l} }
func wide(l ...int) api.Desc   { return api.Desc{Shape: l, Wide: true} }

func of(d api.Desc, data ...int) api.Tensor { return api.Tensor{Desc: d, Data: data} }

// told tells whether err is want around place, or alone, if place is -1.
func told(err, want error, place int) bool {
	if at, ok := err.(*api.At); ok {
		return at.Pos == place && at.Err == want
	}
	return err == want && place < 0
}

// sample has views 0 to 2 narrow [4], 3 wide [4], 4 wide [], 5 narrow [16 128], 6 wide [128 128], 7 narrow [128 16].
func sample(code ...api.Instr) api.Plan {
	return api.Plan{
		Size: 70000 - 4464,
		Views: []api.View{
			{Off: 0, Desc: narrow(4)}, {Off: 4, Desc: narrow(4)}, {Off: 8, Desc: narrow(4)}, {Off: 12, Desc: wide(4)},
			{Off: 28, Desc: wide()}, {Off: 32, Desc: narrow(16, 128)}, {Off: 0, Desc: wide(128, 128)}, {Off: 2080, Desc: narrow(128, 16)},
		},
		Consts:  []api.Tensor{of(narrow(4), 1, 2, 3, 4), of(wide(), 1)},
		Weights: []api.Desc{narrow(4)},
		Code:    code,
		Input:   0,
		Output:  2,
	}
}

// P15.1
func TestValid(t *testing.T) {
	add := api.Instr{Op: api.Add, Dst: 2, Ins: []int{0, 1}, To: 4}
	if err := Valid(sample(add, api.Instr{Op: api.Halt})); err != nil {
		t.Fatal(err)
	}
	if err := Valid(api.Plan{Views: []api.View{{}}}); !told(err, api.ErrRange, 0) {
		t.Error(err)
	}
	if err := Valid(api.Plan{Size: 1, Views: []api.View{{}}}); err != nil {
		t.Error(err)
	}
	bad := api.Instr{Op: 99}
	for i, x := range []struct {
		change func(p *api.Plan)
		err    error
		place  int
	}{
		{func(p *api.Plan) { p.Views, p.Size = make([]api.View, api.MaxViews+1), -1 }, api.ErrMany, -1},
		{func(p *api.Plan) { p.Consts, p.Size = make([]api.Tensor, api.MaxNodes+1), -1 }, api.ErrMany, -1},
		{func(p *api.Plan) { p.Weights, p.Size = make([]api.Desc, api.MaxWeights+1), -1 }, api.ErrMany, -1},
		{func(p *api.Plan) { p.Code, p.Size = make([]api.Instr, api.MaxCode+1), -1 }, api.ErrMany, -1},
		{func(p *api.Plan) { p.Size = -1; p.Views[1].Shape = nil }, api.ErrRange, -1},
		{func(p *api.Plan) { p.Size = api.MaxMem + 1 }, api.ErrRange, -1},
		{func(p *api.Plan) { p.Views[2].Shape = []int{0}; p.Views[2].Off = -1 }, api.ErrRange, 2},
		{func(p *api.Plan) { p.Views[2].Shape = []int{1, 1, 1, 1, 1}; p.Views[2].Off = -1 }, api.ErrMany, 2},
		{func(p *api.Plan) { p.Views[1].Off = -1; p.Views[2].Shape = []int{0, 1, 1, 1, 1} }, api.ErrRange, 1},
		{func(p *api.Plan) { p.Views[7].Off = p.Size - 2047 }, api.ErrRange, 7},
		{func(p *api.Plan) { p.Views[7].Off = math.MaxInt }, api.ErrRange, 7},
		{func(p *api.Plan) { p.Size = 65535; p.Consts[0].Data[0] = 500 }, api.ErrRange, 6},
		{func(p *api.Plan) { p.Consts[1].Data = []int{1 << 40}; p.Weights[0].Shape[0] = 0 }, api.ErrRange, 1},
		{func(p *api.Plan) { p.Consts[1].Data = nil }, api.ErrShape, 1},
		{func(p *api.Plan) { p.Weights[0].Shape[0] = 0; p.Input = -1 }, api.ErrRange, 0},
		{func(p *api.Plan) { p.Weights[0].Shape = []int{200, 200}; p.Input = -1 }, api.ErrMany, 0},
		{func(p *api.Plan) { p.Input = -1; p.Code[0] = bad }, api.ErrRange, -1},
		{func(p *api.Plan) { p.Input = 8 }, api.ErrRange, -1}, {func(p *api.Plan) { p.Output = 8 }, api.ErrRange, -1}, {func(p *api.Plan) { p.Output = -1 }, api.ErrRange, -1},
		{func(p *api.Plan) { p.Code[1] = bad }, api.ErrKind, 1}, {func(p *api.Plan) { p.Code[0].Dst = 0 }, api.ErrAlias, 0},
	} {
		p := plan.Clone(sample(add, add))
		x.change(&p)
		if err := Valid(p); !told(err, x.err, x.place) {
			t.Error(i, err)
		}
		if n, err := Total(p); !told(err, x.err, x.place) || n != 0 {
			t.Error(i, n, err)
		}
	}
	full := api.Plan{Size: api.MaxMem, Views: make([]api.View, api.MaxViews), Weights: make([]api.Desc, api.MaxWeights), Code: slices.Repeat([]api.Instr{{Op: api.Halt}}, api.MaxCode), Consts: slices.Repeat([]api.Tensor{of(narrow(), 1)}, api.MaxNodes)}
	if n, err := Total(full); n != api.MaxCode || err != nil {
		t.Error(n, err)
	}
	p := sample()
	p.Views[7].Off = p.Size - 2048
	if err := Valid(p); err != nil {
		t.Error(err)
	}
}

// P15.2
func TestInstr(t *testing.T) {
	for i, x := range []struct {
		n   api.Instr
		err error
	}{
		{api.Instr{Op: api.Input, Dst: 99}, api.ErrKind}, {api.Instr{Op: 0}, api.ErrKind}, {api.Instr{Op: 25}, api.ErrKind}, {api.Instr{Op: -1}, api.ErrKind}, {api.Instr{Op: 99, Dst: 99, Ins: []int{99}}, api.ErrKind},
		{api.Instr{Op: api.Const, Dst: 8}, api.ErrNone}, {api.Instr{Op: api.Weight, Dst: -1}, api.ErrNone}, {api.Instr{Op: api.Add, Dst: 8}, api.ErrNone}, {api.Instr{Op: api.Add, Dst: 2, Ins: []int{0, 8}}, api.ErrNone}, {api.Instr{Op: api.Add, Dst: 2, Ins: []int{0, 1, -1}}, api.ErrNone}, {api.Instr{Op: api.Halt, Ins: []int{8}}, api.ErrNone}, {api.Instr{Op: api.Const, Ins: []int{8}}, api.ErrNone}, {api.Instr{Op: api.JumpZero, Ins: []int{9}}, api.ErrNone},
		{api.Instr{Op: api.Const, Dst: 0, Args: []int{0}, To: 4}, nil}, {api.Instr{Op: api.Const, Dst: 0, To: 9}, api.ErrShape}, {api.Instr{Op: api.Const, Dst: 0, Args: []int{9, 9}}, api.ErrShape}, {api.Instr{Op: api.Const, Dst: 0, Args: []int{9}, Ins: []int{1}}, api.ErrShape}, {api.Instr{Op: api.Const, Dst: 3, Args: []int{2}}, api.ErrNone}, {api.Instr{Op: api.Const, Dst: 0, Args: []int{-1}}, api.ErrNone}, {api.Instr{Op: api.Const, Dst: 3, Args: []int{0}, To: 99}, api.ErrShape}, {api.Instr{Op: api.Const, Dst: 4, Args: []int{1}, To: 1}, nil},
		{api.Instr{Op: api.Weight, Dst: 1, Args: []int{0}, From: 4, To: 4}, nil}, {api.Instr{Op: api.Weight, Dst: 1, Args: []int{1}}, api.ErrNone}, {api.Instr{Op: api.Weight, Dst: 3, Args: []int{0}}, api.ErrShape}, {api.Instr{Op: api.Weight, Dst: 1}, api.ErrShape},
		{api.Instr{Op: api.Add, Dst: 2, Ins: []int{0, 1}, To: 4}, nil}, {api.Instr{Op: api.Add, Dst: 2, Ins: []int{0}}, api.ErrShape}, {api.Instr{Op: api.Clamp, Dst: 2, Ins: []int{0}, Args: []int{2, 1}}, api.ErrRange}, {api.Instr{Op: api.Add, Dst: 3, Ins: []int{0, 1}}, api.ErrShape}, {api.Instr{Op: api.Widen, Dst: 3, Ins: []int{0}, Args: []int{1}, To: 4}, nil}, {api.Instr{Op: api.Add, Dst: 2, Ins: []int{0, 3}}, api.ErrShape},
		{api.Instr{Op: api.Add, Dst: 0, Ins: []int{0, 1}, To: 9}, api.ErrAlias}, {api.Instr{Op: api.Add, Dst: 1, Ins: []int{0, 1}}, api.ErrAlias}, {api.Instr{Op: api.MatMul, Dst: 6, Ins: []int{7, 5}, Args: []int{0, 0}, From: 9}, api.ErrAlias},
		{api.Instr{Op: api.Jump, Args: []int{2}}, nil}, {api.Instr{Op: api.Jump, Args: []int{0}}, nil}, {api.Instr{Op: api.Jump}, api.ErrShape}, {api.Instr{Op: api.Jump, Args: []int{9, 9}}, api.ErrShape}, {api.Instr{Op: api.Jump, Args: []int{9}, Ins: []int{0}}, api.ErrShape}, {api.Instr{Op: api.Jump, Args: []int{3}, Dst: 1}, api.ErrJump}, {api.Instr{Op: api.Jump, Args: []int{-1}}, api.ErrJump}, {api.Instr{Op: api.Jump, Args: []int{0}, Dst: 1}, api.ErrRange}, {api.Instr{Op: api.Jump, Args: []int{0}, From: -1}, api.ErrRange}, {api.Instr{Op: api.Jump, Args: []int{0}, To: 1}, api.ErrRange},
		{api.Instr{Op: api.JumpZero, Args: []int{1}, Ins: []int{3}}, nil}, {api.Instr{Op: api.JumpZero, Args: []int{1}}, api.ErrShape}, {api.Instr{Op: api.JumpZero, Args: []int{9}, Ins: []int{3, 3}}, api.ErrShape}, {api.Instr{Op: api.JumpZero, Args: []int{9}, Ins: []int{3}}, api.ErrJump}, {api.Instr{Op: api.JumpZero, Args: []int{1}, Ins: []int{3}, Dst: 99}, api.ErrRange},
		{api.Instr{Op: api.Halt}, nil}, {api.Instr{Op: api.Halt, Args: []int{0}}, api.ErrShape}, {api.Instr{Op: api.Halt, Ins: []int{0}}, api.ErrShape}, {api.Instr{Op: api.Halt, Dst: -1}, api.ErrRange}, {api.Instr{Op: api.Halt, From: 1, To: 1}, api.ErrRange},
		{api.Instr{Op: api.Add, Dst: 2, Ins: []int{0, 1}, To: 5}, api.ErrRange}, {api.Instr{Op: api.Add, Dst: 2, Ins: []int{0, 1}, From: 3, To: 2}, api.ErrRange}, {api.Instr{Op: api.Add, Dst: 2, Ins: []int{0, 1}, From: -1, To: 2}, api.ErrRange}, {api.Instr{Op: api.Add, Dst: 2, Ins: []int{0, 1}, From: math.MaxInt, To: math.MinInt}, api.ErrRange},
		{api.Instr{Op: api.Relu, Dst: 5, Ins: []int{5}, To: 1025}, api.ErrAlias},
	} {
		p := sample(api.Instr{Op: api.Halt}, x.n)
		if err := Instr(p, 1); err != x.err {
			t.Error(i, err)
		}
		if n, err := Cost(p, 1); err != x.err || (n > 0) != (err == nil) {
			t.Error(i, n, err)
		}
		if err := Valid(p); x.err == nil && err != nil || x.err != nil && !told(err, x.err, 1) {
			t.Error(i, err)
		}
	}
	for _, at := range []int{-1, 1, math.MaxInt, math.MinInt} {
		if err := Instr(sample(api.Instr{Op: api.Halt}), at); err != api.ErrNone {
			t.Error(at, err)
		}
		if n, err := Cost(sample(api.Instr{Op: api.Halt}), at); err != api.ErrNone || n != 0 {
			t.Error(at, err)
		}
	}
}

// P15.2, P15.3
func TestCost(t *testing.T) {
	p := api.Plan{
		Size:   60000,
		Views:  []api.View{{Off: 0, Desc: narrow(8, 128)}, {Off: 1024, Desc: narrow(128, 16)}, {Off: 4096, Desc: wide(8, 16)}, {Off: 8192, Desc: narrow(8, 128)}, {Off: 10000, Desc: narrow(8, 16)}, {Off: 20000, Desc: narrow(16, 256)}, {Off: 30000, Desc: narrow(16, 256)}},
		Consts: []api.Tensor{of(narrow(8, 128), make([]int, 1024)...)},
	}
	for i, x := range []struct {
		n    api.Instr
		cost int
		err  error
	}{
		{api.Instr{Op: api.Relu, Dst: 3, Ins: []int{0}, To: 1024}, 1024, nil},
		{api.Instr{Op: api.Relu, Dst: 3, Ins: []int{0}, From: 5, To: 5}, 1, nil},
		{api.Instr{Op: api.Relu, Dst: 5, Ins: []int{6}, From: 1, To: 1025}, 1024, nil},
		{api.Instr{Op: api.Relu, Dst: 5, Ins: []int{6}, To: 1025}, 0, api.ErrCost},
		{api.Instr{Op: api.MatMul, Dst: 2, Ins: []int{0, 1}, Args: []int{0, 0}, From: 3, To: 11}, 1024, nil},
		{api.Instr{Op: api.MatMul, Dst: 2, Ins: []int{0, 1}, Args: []int{0, 0}, From: 3, To: 12}, 0, api.ErrCost},
		{api.Instr{Op: api.MatMul, Dst: 2, Ins: []int{0, 1}, Args: []int{0, 0}, From: 3, To: 3}, 1, nil},
		{api.Instr{Op: api.Requant, Dst: 4, Ins: []int{2}, Args: []int{0, 0, 0}, To: 128}, 256, nil},
		{api.Instr{Op: api.Const, Dst: 3, Args: []int{0}, To: 700}, 700, nil},
		{api.Instr{Op: api.Const, Dst: 3, Args: []int{0}}, 1, nil},
		{api.Instr{Op: api.Jump, Args: []int{0}}, 1, nil}, {api.Instr{Op: api.Halt}, 1, nil},
	} {
		p.Code = []api.Instr{x.n, {Op: api.Halt}}
		if n, err := Cost(p, 0); n != x.cost || err != x.err {
			t.Error(i, n, err)
		}
		total, err := Total(p)
		if x.err == nil && (total != x.cost+1 || err != nil) || x.err != nil && (total != 0 || !told(err, x.err, 0)) {
			t.Error(i, total, err)
		}
	}
}

// P15.3
func TestApart(t *testing.T) {
	for i, x := range []struct {
		a, b api.View
		want bool
	}{{api.View{Off: 0, Desc: narrow(4)}, api.View{Off: 4, Desc: narrow(4)}, true}, {api.View{Off: 0, Desc: narrow(5)}, api.View{Off: 4, Desc: narrow(4)}, false}, {api.View{Off: 0, Desc: wide(4)}, api.View{Off: 15, Desc: narrow()}, false}, {api.View{Off: 0, Desc: wide(4)}, api.View{Off: 16, Desc: narrow()}, true}, {api.View{Off: 3, Desc: narrow()}, api.View{Off: 3, Desc: narrow()}, false}, {api.View{Off: 0, Desc: narrow(9)}, api.View{Off: 3, Desc: narrow()}, false}} {
		if Apart(x.a, x.b) != x.want || Apart(x.b, x.a) != x.want {
			t.Error(i)
		}
	}
}

// P15.3: ends that fit no int.
func TestApartFar(t *testing.T) {
	const least, most = math.MinInt, math.MaxInt
	for i, x := range []struct {
		a, b api.View
		want bool
	}{
		{api.View{Off: most, Desc: narrow(4)}, api.View{Off: most, Desc: narrow(4)}, false},
		{api.View{Off: most - 3, Desc: wide()}, api.View{Off: most, Desc: narrow()}, false},
		{api.View{Off: most - 3, Desc: narrow(3)}, api.View{Off: most, Desc: narrow()}, true},
		{api.View{Off: most, Desc: narrow(4)}, api.View{Off: least, Desc: narrow(4)}, true},
		{api.View{Off: least, Desc: narrow(4)}, api.View{Off: least + 3, Desc: narrow(4)}, false},
		{api.View{Off: least, Desc: narrow(4)}, api.View{Off: least + 4, Desc: narrow(4)}, true},
		{api.View{Off: -4, Desc: narrow(4)}, api.View{Off: most, Desc: narrow(4)}, true},
	} {
		if Apart(x.a, x.b) != x.want || Apart(x.b, x.a) != x.want {
			t.Error(i)
		}
	}
}
