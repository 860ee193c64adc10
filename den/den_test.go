package den

import (
	"testing"

	"lodge/api"
	"lodge/op"
	"lodge/tens"
)

func narrow(l ...int) api.Desc { return api.Desc{Shape: l} }
func wide(l ...int) api.Desc   { return api.Desc{Shape: l, Wide: true} }

func of(d api.Desc, data ...int) api.Tensor { return api.Tensor{Desc: d, Data: data} }

// sample is relu(matmul(input, weight 1)), turned, and a node that nobody asks for.
func sample() api.Graph {
	return api.Graph{Nodes: []api.Node{
		{Op: api.Turn, Ins: []int{2}},
		{Op: api.MatMul, Ins: []int{3, 4}, Args: []int{1, 0}},
		{Op: api.Relu, Ins: []int{1}},
		{Op: api.Input, Args: []int{0, 2, 3}},
		{Op: api.Weight, Args: []int{1, 0, 3, 1}},
		{Op: api.Const, T: of(wide(2), 7, -8)},
		{Op: api.Max, Ins: []int{5, 5}},
	}, Out: 0}
}

func given() (api.Tensor, []api.Tensor) {
	return of(narrow(2, 3), 1, 2, 3, 4, 5, 6), []api.Tensor{of(narrow(), 9), of(narrow(3, 1), 1, 1, -2)}
}

// P19.1
func TestAll(t *testing.T) {
	in, w := given()
	all, err := All(sample(), in, w...)
	want := []api.Tensor{of(wide(1, 2), 0, 0), of(wide(2, 1), 0+1-4, 3+4-10), of(wide(2, 1), 0, 0), in, w[1], of(wide(2), 7, -8), of(wide(2), 7, -8)}
	if err != nil || len(all) != len(want) {
		t.Fatal(all, err)
	}
	for i := range want {
		if !tens.Same(all[i], want[i]) {
			t.Error(i, all[i])
		}
	}
	out, err := Of(sample(), in, w...)
	if err != nil || !tens.Same(out, all[0]) {
		t.Error(out, err)
	}
	for _, x := range all {
		x.Data[0], x.Shape[0] = 99, 99
	}
	if again, err := All(sample(), in, w...); err != nil || !tens.Same(again[3], of(narrow(2, 3), 1, 2, 3, 4, 5, 6)) || !tens.Same(again[4], of(narrow(3, 1), 1, 1, -2)) {
		t.Error("shared", again, err)
	}
	g := sample()
	all, _ = All(g, in, w...)
	all[5].Data[0], all[5].Shape[0] = 99, 99
	if g.Nodes[5].T.Data[0] != 7 || g.Nodes[5].T.Shape[0] != 2 {
		t.Error("shared with the graph")
	}
	one := api.Graph{Nodes: []api.Node{{Op: api.Input, Args: []int{1}}, {Op: api.Input, Args: []int{1}}}}
	if out, err := Of(one, of(wide(), 5)); err != nil || !tens.Same(out, of(wide(), 5)) {
		t.Error(out, err)
	}
	two, _ := All(one, of(wide(), 5))
	if two[0].Data[0] = 6; two[1].Data[0] != 5 {
		t.Error("shared")
	}
}

// P19.1
func TestRefuses(t *testing.T) {
	in, w := given()
	bad := of(narrow(2), 1, 200)
	ring := api.Graph{Nodes: []api.Node{{Op: api.Relu, Ins: []int{0}}}}
	inRange, cycle := "1: "+api.ErrRange.Error(), "0: "+api.ErrCycle.Error()
	for i, x := range []struct {
		g   api.Graph
		in  api.Tensor
		w   []api.Tensor
		err string
	}{
		{ring, bad, nil, cycle}, {sample(), bad, nil, inRange}, {sample(), of(wide(2, 3), 1, 2, 3, 4, 5, 6), nil, api.ErrShape.Error()},
		{sample(), in, w[:1], api.ErrShape.Error()}, {sample(), in, append([]api.Tensor{bad}, w...), api.ErrShape.Error()}, {sample(), in, nil, api.ErrShape.Error()},
		{sample(), in, []api.Tensor{w[0], bad}, inRange}, {sample(), in, []api.Tensor{w[1], bad}, api.ErrShape.Error()}, {sample(), in, []api.Tensor{bad, w[0]}, inRange}, {sample(), in, []api.Tensor{w[0], of(narrow(1, 3), 1, 2, 3)}, api.ErrShape.Error()},
	} {
		all, err := All(x.g, x.in, x.w...)
		if err == nil || err.Error() != x.err || all != nil {
			t.Error(i, all, err)
		}
		if out, err := Of(x.g, x.in, x.w...); err == nil || err.Error() != x.err || out.Data != nil || out.Shape != nil || out.Wide {
			t.Error(i, out, err)
		}
	}
	if n, err := Cost(ring); err == nil || err.Error() != cycle || n != 0 {
		t.Error(n, err)
	}
	none := api.Graph{Nodes: []api.Node{{Op: api.Const, T: of(narrow(), 1)}}}
	if out, err := Of(none, of(narrow(), 0)); err != nil || out.Data[0] != 1 {
		t.Error(out, err)
	}
	if _, err := Of(none, of(wide(), 0)); err != api.ErrShape {
		t.Error(err)
	}
}

// P19.1
func TestCost(t *testing.T) {
	if n, err := Cost(sample()); n != 2+2*3+2+3 || err != nil {
		t.Error(n, err)
	}
	g := sample()
	g.Out = 6
	if n, err := Cost(g); n != 2+2 || err != nil {
		t.Error(n, err)
	}
	g.Out = 3
	if n, err := Cost(g); n != 0 || err != nil {
		t.Error(n, err)
	}
	unit, _ := op.Unit(api.Requant, []int{0, 0, 0}, wide(2))
	g.Nodes = append(g.Nodes, api.Node{Op: api.Requant, Ins: []int{5}, Args: []int{0, 0, 0}})
	g.Out = 7
	if n, err := Cost(g); n != 2+2*unit || err != nil {
		t.Error(n, err)
	}
}
