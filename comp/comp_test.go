package comp

import (
	"math"
	"math/rand"
	"testing"

	"lodge/api"
	"lodge/check"
	"lodge/den"
	"lodge/fold"
	"lodge/fuse"
	"lodge/gen"
	"lodge/graph"
	"lodge/order"
	"lodge/plan"
	"lodge/sketch"
	"lodge/tens"
	"lodge/vm"
)

func node(op int, ins []int, args ...int) api.Node {
	return api.Node{Op: op, Ins: ins, Args: args}
}

// P24.1
func TestSizes(t *testing.T) {
	constant := api.Node{Op: api.Const, T: api.Tensor{Desc: api.Desc{Shape: []int{2}}, Data: []int{1, 2}}}
	input := node(api.Input, nil, 0, 2)
	for i, x := range []struct {
		g    api.Graph
		want [3]int
	}{
		{api.Graph{Nodes: []api.Node{input}}, [3]int{1, 1, 1}},
		{api.Graph{Nodes: []api.Node{input, constant, constant, node(api.Add, []int{1, 2}), node(api.Add, []int{0, 3}), node(api.Relu, []int{4}), node(api.Relu, []int{5}), constant}, Out: 6}, [3]int{7*2 + 1, 4*2 + 1, 3*2 + 1}},
	} {
		if got, err := Sizes(x.g); got != x.want || err != nil {
			t.Error(i, got, err)
		}
	}
}

// P24.1
func TestRefuses(t *testing.T) {
	ring := api.Graph{Nodes: []api.Node{node(api.Relu, []int{0})}}
	for _, level := range []int{-1, 3, math.MaxInt, math.MinInt} {
		if p, err := Plan(ring, level); err != api.ErrRange || !plan.Same(p, api.Plan{}) {
			t.Error(level, err)
		}
	}
	for level := range 3 {
		if p, err := Plan(ring, level); err == nil || err.Error() != "0: "+api.ErrCycle.Error() || !plan.Same(p, api.Plan{}) {
			t.Error(level, err)
		}
	}
	if n, err := Sizes(ring); err == nil || n != [3]int{} {
		t.Error(n, err)
	}
	if p, err := Bytes([]byte("LGx")); err != api.ErrEnd || !plan.Same(p, api.Plan{}) {
		t.Error(err)
	}
	b, _ := graph.Bytes(ring)
	if p, err := Bytes(b); err == nil || err.Error() != "0: "+api.ErrCycle.Error() || !plan.Same(p, api.Plan{}) {
		t.Error(err)
	}
	// An unreached node too dear, that level 0 alone meets.
	dear := api.Graph{Nodes: []api.Node{node(api.Input, nil, 0, 12, 12, 8), node(api.Weight, nil, 0, 0, 12, 12, 8, 1), node(api.Conv, []int{0, 1}, 1, 0, 0)}}
	if n, err := Sizes(dear); err == nil || err.Error() != "2: "+api.ErrCost.Error() || n != [3]int{} {
		t.Error(n, err)
	}
	if _, err := Plan(dear, 1); err != nil {
		t.Error(err)
	}
}

// P24.1, P24.2
func TestLevels(t *testing.T) {
	r := rand.New(rand.NewSource(5))
	for range 300 {
		g := sketch.Graph(r)
		s, err := order.Of(g)
		if err != nil {
			t.Fatal(err)
		}
		in, weights := sketch.Given(r, s)
		want, _ := den.Of(g, in, weights...)
		f, _ := fold.Do(g)
		ff, _ := fuse.Do(f)
		sizes, err := Sizes(g)
		if err != nil {
			t.Fatal(err)
		}
		for level, h := range []api.Graph{g, f, ff} {
			p, err := Plan(g, level)
			q, err2 := gen.Of(h)
			if err != nil || err2 != nil || !plan.Same(p, q) || check.Valid(p) != nil {
				t.Fatal(level, err, err2)
			}
			if total, _ := check.Total(p); total != sizes[level] {
				t.Fatal(level, total, sizes)
			}
			m, err := vm.New(p, weights, in, api.MaxFuel)
			if err != nil {
				t.Fatal(err)
			}
			m.Run(api.MaxFuel)
			if got, ok := m.Out(); ok != (sizes[level]-1 <= api.MaxFuel) || ok && !tens.Same(got, want) {
				t.Fatal(level, got, want)
			}
			if b, _ := graph.Bytes(g); level == 2 {
				if got, err := Bytes(b); err != nil || !plan.Same(got, p) {
					t.Fatal(got, err)
				}
			}
		}
	}
}
