package gen

import (
	"math"
	"math/rand"
	"slices"
	"testing"

	"lodge/api"
	"lodge/check"
	"lodge/den"
	"lodge/order"
	"lodge/plan"
	"lodge/sketch"
	"lodge/tens"
	"lodge/vm"
)

func narrow(l ...int) api.Desc { return api.Desc{Shape: l} }
func wide(l ...int) api.Desc   { return api.Desc{Shape: l, Wide: true} }

func of(d api.Desc, data ...int) api.Tensor { return api.Tensor{Desc: d, Data: data} }

func node(op int, ins []int, args ...int) api.Node {
	return api.Node{Op: op, Ins: ins, Args: args}
}

// P23.1
func TestTiles(t *testing.T) {
	for i, x := range []struct {
		elems, unit int
		want        [][2]int
	}{
		{10, 1, [][2]int{{0, 10}}}, {2050, 1, [][2]int{{0, 1024}, {1024, 2048}, {2048, 2050}}}, {2048, 1, [][2]int{{0, 1024}, {1024, 2048}}},
		{7, 400, [][2]int{{0, 2}, {2, 4}, {4, 6}, {6, 7}}}, {2, 1024, [][2]int{{0, 1}, {1, 2}}}, {3, 513, [][2]int{{0, 1}, {1, 2}, {2, 3}}},
		{0, 1, nil}, {-1, 1, nil}, {5, 0, nil}, {5, -1, nil}, {5, 1025, nil}, {5, math.MaxInt, nil}, {math.MinInt, 5, nil},
	} {
		if got := Tiles(x.elems, x.unit); !slices.Equal(got, x.want) {
			t.Error(i, got)
		}
	}
}

// P23.2
func TestOf(t *testing.T) {
	halt := api.Instr{Op: api.Halt}
	for i, x := range []struct {
		g    api.Graph
		want api.Plan
	}{
		{api.Graph{Nodes: []api.Node{node(api.Input, nil, 0, 2)}}, api.Plan{Size: 4, Views: []api.View{{Desc: narrow(2)}}, Code: []api.Instr{halt}}},
		{
			api.Graph{Nodes: []api.Node{node(api.Input, nil, 0, 16, 8, 8), node(api.Weight, nil, 0, 0, 16, 8, 8, 1), node(api.Conv, []int{0, 1}, 1, 0, 0)}, Out: 2},
			api.Plan{Size: 2052, Views: []api.View{{Desc: narrow(16, 8, 8)}, {Off: 1024, Desc: narrow(16, 8, 8, 1)}, {Off: 2048, Desc: wide(1, 1, 1)}}, Weights: []api.Desc{narrow(16, 8, 8, 1)}, Code: []api.Instr{{Op: api.Weight, Dst: 1, Args: []int{0}, To: 1024}, {Op: api.Conv, Dst: 2, Ins: []int{0, 1}, Args: []int{1, 0, 0}, To: 1}, halt}, Output: 2},
		},
		{api.Graph{Nodes: []api.Node{{Op: api.Const, T: of(wide(), 7)}}}, api.Plan{Size: 4, Views: []api.View{{Desc: narrow()}, {Desc: wide()}}, Consts: []api.Tensor{of(wide(), 7)}, Code: []api.Instr{{Op: api.Const, Dst: 1, Args: []int{0}, To: 1}, halt}, Output: 1}},
		{
			api.Graph{Nodes: []api.Node{node(api.MatMul, []int{3, 4}, 1, 2), {Op: api.Const, T: of(narrow(), 1)}, node(api.Input, nil, 0, 40, 30), node(api.Relu, []int{2}), node(api.Weight, nil, 1, 0, 30, 1), node(api.Input, nil, 0, 40, 30)}, Out: 0},
			api.Plan{
				Size:    2592,
				Views:   []api.View{{Desc: narrow(40, 30)}, {Off: 1200, Desc: narrow()}, {Off: 1200, Desc: narrow(40, 30)}, {Off: 2400, Desc: narrow(30, 1)}, {Off: 2432, Desc: wide(40, 1)}},
				Consts:  []api.Tensor{of(narrow(), 1)},
				Weights: []api.Desc{narrow(), narrow(30, 1)},
				Code: []api.Instr{
					{Op: api.Const, Dst: 1, Args: []int{0}, To: 1},
					{Op: api.Relu, Dst: 2, Ins: []int{0}, To: 1024}, {Op: api.Relu, Dst: 2, Ins: []int{0}, From: 1024, To: 1200},
					{Op: api.Weight, Dst: 3, Args: []int{1}, To: 30},
					{Op: api.MatMul, Dst: 4, Ins: []int{2, 3}, Args: []int{1, 2}, To: 34}, {Op: api.MatMul, Dst: 4, Ins: []int{2, 3}, Args: []int{1, 2}, From: 34, To: 40},
					halt,
				},
				Output: 4,
			},
		},
	} {
		got, err := Of(x.g)
		if err != nil || !plan.Same(got, x.want) {
			t.Error(i, got, err)
		}
		for _, c := range got.Consts {
			c.Data[0]++
		}
		for _, n := range got.Code {
			for k := range n.Args {
				n.Args[k]++
			}
		}
		if again, err := Of(x.g); err != nil || !plan.Same(again, x.want) {
			t.Error(i, "shared", again, err)
		}
	}
}

// P23.2
func TestOfRefuses(t *testing.T) {
	big := []api.Node{node(api.Input, nil, 0, 12, 12, 8), node(api.Weight, nil, 0, 0, 12, 12, 8, 1), node(api.Conv, []int{0, 1}, 1, 0, 0), node(api.Relu, []int{2})}
	ring := api.Graph{Nodes: []api.Node{node(api.Relu, []int{0})}}
	for i, x := range []struct {
		g   api.Graph
		err string
	}{
		{ring, "0: " + api.ErrCycle.Error()}, {api.Graph{}, api.ErrNone.Error()},
		{api.Graph{Nodes: big, Out: 3}, "2: " + api.ErrCost.Error()},
		{api.Graph{Nodes: []api.Node{node(api.Input, nil, 1, 64, 256), node(api.Relu, []int{0})}, Out: 1}, api.ErrRoom.Error()},
	} {
		if got, err := Of(x.g); err == nil || err.Error() != x.err || !plan.Same(got, api.Plan{}) {
			t.Error(i, got, err)
		}
	}
}

// P23.2: at the bound of the instructions.
func TestMany(t *testing.T) {
	l := []api.Node{node(api.Input, nil, 0, 64, 64), node(api.Reshape, []int{0}, 64, 64, 1)}
	for range 7 {
		l = append(l, node(api.MatMul, []int{0, 0}, 0, 0), node(api.MaxPool, []int{1}, 3, 1))
	}
	const code = 4 + 7*256 + 7*35 + 1 // 16 elements, and 113, an instruction; Halt
	for len(l) < 16+api.MaxCode-code {
		l = append(l, node(api.Weight, nil, 0, 0))
	}
	if p, err := Of(api.Graph{Nodes: l}); err != nil || len(p.Code) != api.MaxCode {
		t.Error(len(p.Code), err)
	}
	l = append(l, node(api.Weight, nil, 0, 0))
	if p, err := Of(api.Graph{Nodes: l}); err != api.ErrMany || !plan.Same(p, api.Plan{}) {
		t.Error(len(p.Code), err)
	}
}

// P23.3
func TestMeansTheSame(t *testing.T) {
	r := rand.New(rand.NewSource(4))
	for range 500 {
		g := sketch.Graph(r)
		s, err := order.Of(g)
		if err != nil {
			t.Fatal(err)
		}
		in, weights := sketch.Given(r, s)
		want, _ := den.Of(g, in, weights...)
		p, err := Of(g)
		if err != nil {
			t.Fatal(err)
		}
		if err := check.Valid(p); err != nil {
			t.Fatal(g, p, err)
		}
		m, err := vm.New(p, weights, in, api.MaxFuel)
		if err != nil {
			t.Fatal(err)
		}
		used := m.Run(math.MaxInt)
		if got, ok := m.Out(); !ok || !tens.Same(got, want) {
			t.Fatal(g, got, want)
		}
		total, _ := check.Total(p)
		cost, err := den.Cost(g)
		if err != nil || total != used+1 || cost > used || !slices.Contains(order.Reached(g), false) && cost != used {
			t.Fatal(total, used, cost, err)
		}
	}
}
