package fold

import (
	"math/rand"
	"testing"

	"lodge/api"
	"lodge/den"
	"lodge/graph"
	"lodge/order"
	"lodge/shape"
	"lodge/sketch"
	"lodge/tens"
)

func narrow(l ...int) api.Desc { return api.Desc{Shape: l} }
func wide(l ...int) api.Desc   { return api.Desc{Shape: l, Wide: true} }

func of(d api.Desc, data ...int) api.Tensor { return api.Tensor{Desc: d, Data: data} }

func constant(d api.Desc, data ...int) api.Node {
	return api.Node{Op: api.Const, T: of(d, data...)}
}

func zeros(l ...int) api.Node {
	t, _ := tens.Zero(narrow(l...))
	return api.Node{Op: api.Const, T: t}
}

// P20.1
func TestConsts(t *testing.T) {
	in := api.Node{Op: api.Input, Args: []int{0, 2}}
	for i, x := range []struct{ g, want []api.Node }{
		{[]api.Node{constant(narrow(2), 1, 2), constant(narrow(2), 3, 4), {Op: api.Add, Ins: []int{0, 1}}}, []api.Node{constant(narrow(2), 1, 2), constant(narrow(2), 3, 4), constant(narrow(2), 4, 6)}},
		{[]api.Node{{Op: api.Widen, Ins: []int{1}, Args: []int{1}}, {Op: api.Relu, Ins: []int{2}}, constant(narrow(1), -5)}, []api.Node{constant(wide(1), -1), constant(narrow(1), 0), constant(narrow(1), -5)}},
		{[]api.Node{in, constant(narrow(2), 3, 4), {Op: api.Add, Ins: []int{0, 1}}, {Op: api.Relu, Ins: []int{2}}}, []api.Node{in, constant(narrow(2), 3, 4), {Op: api.Add, Ins: []int{0, 1}}, {Op: api.Relu, Ins: []int{2}}}},
		{[]api.Node{{Op: api.Weight, Args: []int{0, 0, 2}}, {Op: api.Relu, Ins: []int{0}}}, []api.Node{{Op: api.Weight, Args: []int{0, 0, 2}}, {Op: api.Relu, Ins: []int{0}}}},
	} {
		got, err := Consts(api.Graph{Nodes: x.g})
		if err != nil || !graph.Same(got, api.Graph{Nodes: x.want}) {
			t.Error(i, got, err)
		}
	}
}

// P0.4
func TestShared(t *testing.T) {
	g := api.Graph{Nodes: []api.Node{constant(narrow(1), 5), {Op: api.Input, Args: []int{0}}}}
	for i, do := range []func(api.Graph) (api.Graph, error){Consts, Dead, Do} {
		h, err := do(g)
		if err != nil {
			t.Fatal(err)
		}
		h.Nodes[0].T.Data[0], h.Nodes[1].Args[0] = 9, 1
		if g.Nodes[0].T.Data[0] != 5 || g.Nodes[1].Args[0] != 0 {
			t.Error(i, "shared")
		}
	}
}

// P20.1: elements times unit, at the bound.
func TestConstsTooMuch(t *testing.T) {
	for _, x := range []struct {
		n    int
		made bool
	}{{64, true}, {65, false}} {
		mul := api.Node{Op: api.MatMul, Ins: []int{0, 1}, Args: []int{0, 0}}
		got, err := Consts(api.Graph{Nodes: []api.Node{zeros(x.n, 16), zeros(16, 16), mul, {Op: api.Relu, Ins: []int{2}}}, Out: 2})
		if err != nil || (got.Nodes[2].Op == api.Const) != x.made || (got.Nodes[3].Op == api.Const) != x.made {
			t.Error(x.n, got.Nodes[2].Op, err)
		}
	}
}

// P20.1
func TestDead(t *testing.T) {
	in, w := api.Node{Op: api.Input, Args: []int{0, 2}}, api.Node{Op: api.Weight, Args: []int{1, 0, 3}}
	g := api.Graph{Nodes: []api.Node{
		{Op: api.Add, Ins: []int{5, 1}}, {Op: api.Relu, Ins: []int{5}}, constant(narrow(), 1), {Op: api.Turn, Ins: []int{7}}, w, in, {Op: api.Relu, Ins: []int{2}}, constant(narrow(1, 1), 5),
	}, Out: 0}
	want := api.Graph{Nodes: []api.Node{w, in, {Op: api.Relu, Ins: []int{1}}, {Op: api.Add, Ins: []int{1, 2}}}, Out: 3}
	got, err := Dead(g)
	if err != nil || !graph.Same(got, want) {
		t.Error(got, err)
	}
	again, err := Dead(got)
	if err != nil || !graph.Same(got, again) {
		t.Error(again, err)
	}
	got.Nodes[0].Args[0], got.Nodes[3].Ins[0] = 9, 9
	if g.Nodes[4].Args[0] != 1 || g.Nodes[0].Ins[0] != 5 {
		t.Error("shared")
	}
}

// P20.1
func TestRefuses(t *testing.T) {
	ring := api.Graph{Nodes: []api.Node{{Op: api.Relu, Ins: []int{0}}}}
	for i, do := range []func(api.Graph) (api.Graph, error){Consts, Dead, Do} {
		if got, err := do(ring); err == nil || err.Error() != "0: "+api.ErrCycle.Error() || len(got.Nodes) != 0 || got.Out != 0 {
			t.Error(i, got, err)
		}
		if _, err := do(api.Graph{}); err != api.ErrNone {
			t.Error(i, err)
		}
	}
	two := constant(narrow(1), 100)
	if got, err := Do(api.Graph{Nodes: []api.Node{two, two, {Op: api.Add, Ins: []int{0, 1}}}, Out: 2}); err != nil || !graph.Same(got, api.Graph{Nodes: []api.Node{constant(narrow(1), 127)}}) {
		t.Error(got, err)
	}
}

// P20.2
func TestMeansTheSame(t *testing.T) {
	r := rand.New(rand.NewSource(1))
	for range 400 {
		g := sketch.Graph(r)
		s, err := order.Of(g)
		if err != nil {
			t.Fatal(err)
		}
		in, weights := sketch.Given(r, s)
		want, err := den.Of(g, in, weights...)
		if err != nil {
			t.Fatal(err)
		}
		before := graph.Clone(g)
		for i, do := range []func(api.Graph) (api.Graph, error){Consts, Dead, Do} {
			h, err := do(g)
			if err != nil || !graph.Same(g, before) {
				t.Fatal(i, err)
			}
			u, err := order.Of(h)
			if err != nil || !shape.Same(u.In, s.In) || len(u.Weights) != len(s.Weights) {
				t.Fatal(i, u, err)
			}
			if got, err := den.Of(h, in, weights...); err != nil || !tens.Same(got, want) {
				t.Fatal(i, got, want, err)
			}
			again, err := do(h)
			if err != nil || i > 0 && !graph.Same(h, again) {
				t.Fatal(i, again, err)
			}
		}
	}
}
