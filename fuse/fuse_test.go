package fuse

import (
	"math/rand"
	"testing"

	"lodge/api"
	"lodge/den"
	"lodge/graph"
	"lodge/order"
	"lodge/shape"
	"lodge/sketch"
	"lodge/tens"
)

func narrow(l ...int) api.Desc { return api.Desc{Shape: l} }

func node(op int, ins []int, args ...int) api.Node {
	return api.Node{Op: op, Ins: ins, Args: args}
}

func of(out int, l ...api.Node) api.Graph { return api.Graph{Nodes: l, Out: out} }

func constant(n int) api.Node {
	return api.Node{Op: api.Const, T: api.Tensor{Desc: narrow(1), Data: []int{n}}}
}

var (
	in    = []int{0}
	first = []int{1}
	next  = []int{2}
)

// P21.1
func TestOnce(t *testing.T) {
	input := node(api.Input, nil, 0, 2, 3)
	row := node(api.Reshape, in, 6)
	turn := node(api.Turn, in)
	relu := node(api.Relu, in)
	for i, x := range []struct {
		g, want api.Graph
		fewer   int
	}{
		// 1: a Reshape of a Reshape.
		{of(2, input, row, node(api.Reshape, first, 3, 2)), of(1, input, node(api.Reshape, in, 3, 2)), 1},
		{of(3, input, row, node(api.Reshape, first, 3, 2), node(api.Reshape, next, 1, 6)), of(1, input, node(api.Reshape, in, 1, 6)), 2},
		// 1, then 2: back to the same dimensions.
		{of(2, input, row, node(api.Reshape, first, 2, 3)), of(0, input), 2},
		// 2
		{of(1, input, node(api.Reshape, in, 2, 3)), of(0, input), 1},
		{of(1, input, node(api.Max, []int{0, 0})), of(0, input), 1},
		{of(2, input, relu, node(api.Relu, first)), of(1, input, relu), 1},
		{of(3, input, relu, node(api.Relu, first), node(api.Relu, next)), of(1, input, relu), 2},
		{of(2, input, node(api.Clamp, in, 0, 5), node(api.Relu, first)), of(1, input, node(api.Clamp, in, 0, 5)), 1},
		{of(2, input, node(api.Clamp, in, -1, 5), node(api.Relu, first)), of(2, input, node(api.Clamp, in, -1, 5), node(api.Relu, first)), 0},
		{of(2, input, turn, node(api.Turn, first)), of(0, input), 2},
		{of(3, input, turn, node(api.Turn, first), node(api.Turn, next)), of(1, input, turn), 2},
		// 3
		{of(2, input, node(api.Clamp, in, -5, 50), node(api.Clamp, first, 0, 9)), of(1, input, node(api.Clamp, in, 0, 9)), 1},
		{of(2, input, node(api.Clamp, in, 2, 5), node(api.Clamp, first, -9, 3)), of(1, input, node(api.Clamp, in, 2, 3)), 1},
		{of(2, input, node(api.Clamp, in, 2, 5), node(api.Clamp, first, 7, 9)), of(1, input, node(api.Clamp, in, 7, 7)), 1},
		{of(2, input, node(api.Clamp, in, 2, 5), node(api.Clamp, first, -9, -8)), of(1, input, node(api.Clamp, in, -8, -8)), 1},
		// 3, then 4: the joined one is like the first.
		{of(3, input, node(api.Clamp, in, 2, 5), node(api.Clamp, first, 0, 9), node(api.Add, []int{1, 2})), of(2, input, node(api.Clamp, in, 2, 5), node(api.Add, []int{1, 1})), 1},
		// 4
		{of(3, input, relu, relu, node(api.Add, []int{1, 2})), of(2, input, relu, node(api.Add, []int{1, 1})), 1},
		{of(2, input, input, node(api.Max, []int{0, 1})), of(0, input), 2},
		{of(2, constant(1), constant(1), node(api.Add, []int{0, 1})), of(1, constant(1), node(api.Add, []int{0, 0})), 1},
		{of(2, constant(1), constant(2), node(api.Add, []int{0, 1})), of(2, constant(1), constant(2), node(api.Add, []int{0, 1})), 0},
		{of(3, input, node(api.Clamp, in, 1, 5), node(api.Clamp, in, 1, 6), node(api.Add, []int{1, 2})), of(3, input, node(api.Clamp, in, 1, 5), node(api.Clamp, in, 1, 6), node(api.Add, []int{1, 2})), 0},
		{of(3, input, relu, turn, node(api.MatMul, []int{1, 2}, 0, 0)), of(3, input, relu, turn, node(api.MatMul, []int{1, 2}, 0, 0)), 0},
		// Numbered by the order; what nobody asks for is gone, but Inputs and Weights.
		{of(0, node(api.Relu, []int{3}), node(api.Turn, []int{3}), node(api.Weight, nil, 1, 0), input), of(2, node(api.Weight, nil, 1, 0), input, node(api.Relu, first)), 1},
	} {
		got, fewer, err := Once(x.g)
		if err != nil || fewer != x.fewer || !graph.Same(got, x.want) {
			t.Error(i, got, fewer, err)
		}
		if all, err := Do(x.g); err != nil || len(all.Nodes) > len(got.Nodes) {
			t.Error(i, all, err)
		}
	}
}

// P21.1: what one round opens the next one takes.
func TestDo(t *testing.T) {
	relu := node(api.Relu, in)
	g := of(4, node(api.Input, nil, 0, 2), relu, relu, node(api.Max, []int{1, 2}), node(api.Relu, []int{3}))
	got, err := Do(g)
	if err != nil || !graph.Same(got, of(1, node(api.Input, nil, 0, 2), relu)) {
		t.Error(got, err)
	}
	ring := of(0, node(api.Relu, in))
	want := "0: " + api.ErrCycle.Error()
	if got, err := Do(ring); err == nil || err.Error() != want || got.Nodes != nil {
		t.Error(got, err)
	}
	if got, n, err := Once(ring); err == nil || err.Error() != want || got.Nodes != nil || n != 0 {
		t.Error(got, n, err)
	}
}

// P21.2
func TestMeansTheSame(t *testing.T) {
	r := rand.New(rand.NewSource(2))
	fewer := 0
	for range 600 {
		g := sketch.Graph(r)
		s, err := order.Of(g)
		if err != nil {
			t.Fatal(err)
		}
		before := graph.Clone(g)
		in, weights := sketch.Given(r, s)
		want, _ := den.Of(g, in, weights...)
		once, n, err := Once(g)
		if err != nil || n != len(g.Nodes)-len(once.Nodes) || !graph.Same(g, before) {
			t.Fatal(n, err)
		}
		all, err := Do(g)
		if err != nil {
			t.Fatal(err)
		}
		fewer += len(g.Nodes) - len(all.Nodes)
		for _, h := range []api.Graph{once, all} {
			u, err := order.Of(h)
			if err != nil || !shape.Same(u.In, s.In) || len(u.Weights) != len(s.Weights) {
				t.Fatal(u, err)
			}
			if got, err := den.Of(h, in, weights...); err != nil || !tens.Same(got, want) {
				t.Fatal(got, want, err)
			}
		}
		if again, n, err := Once(all); err != nil || n != 0 || !graph.Same(again, all) {
			t.Fatal(again, n, err)
		}
	}
	if fewer == 0 {
		t.Error("nothing came to less")
	}
}
