// Package sketch: graphs as they fall, for the tests of the layers that make one graph of another.
package sketch

import (
	"lodge/api"
	"lodge/order"
	"lodge/tens"
)

// Dice are what the graphs fall by: the next whole number from 0 on, below n.
type Dice interface {
	Intn(n int) int
}

// most is how many nodes a graph has at most.
const most = 14

// Graph is a graph that may be, its nodes in an order as it falls.
func Graph(r Dice) api.Graph {
	var g api.Graph
	size := 2 + r.Intn(most-1)
	for tries := 0; len(g.Nodes) < size && tries < 50*size; tries++ {
		g.Nodes = append(g.Nodes, node(r, len(g.Nodes)))
		g.Out = len(g.Nodes) - 1
		if _, err := order.Of(g); err != nil {
			g.Nodes = g.Nodes[:g.Out]
		}
	}
	g.Out = r.Intn(len(g.Nodes))
	if r.Intn(2) == 0 {
		g.Out = len(g.Nodes) - 1
	}
	return shuffled(r, g)
}

// shuffled is g with its nodes in another order.
func shuffled(r Dice, g api.Graph) api.Graph {
	place := make([]int, len(g.Nodes))
	for i := range place {
		k := r.Intn(i + 1)
		place[i], place[k] = place[k], i
	}
	out := api.Graph{Nodes: make([]api.Node, len(g.Nodes)), Out: place[g.Out]}
	for i, n := range g.Nodes {
		for k, in := range n.Ins {
			n.Ins[k] = place[in]
		}
		out.Nodes[place[i]] = n
	}
	return out
}

// node is a node behind as many others; it may be that it can't be.
func node(r Dice, behind int) api.Node {
	in := func() int { return r.Intn(max(1, behind)) }
	few := func() int { return r.Intn(3) }
	switch kind := r.Intn(26); kind {
	case 0, 1:
		return api.Node{Op: api.Input, Args: []int{0, 2, 3}}
	case 3:
		k := r.Intn(3)
		return api.Node{Op: api.Weight, Args: [][]int{{0, 0, 2, 3}, {1, 1, 256}, {2, 0, 3, 2}}[k]}
	case 2, 22, 23:
		return api.Node{Op: api.Const, T: Tensor(r, []api.Desc{{Shape: []int{2, 3}}, {Shape: []int{2, 3}, Wide: true}, {Shape: []int{256}, Wide: true}, {Shape: []int{1, 2, 1, 2}}, {Shape: []int{2, 3, 1}}}[r.Intn(5)])}
	case api.Add, api.Sub, api.Mul, api.Max, api.Softmax, api.Gather:
		return api.Node{Op: kind, Ins: []int{in(), in()}}
	case api.Relu, api.ArgMax, api.Sum, api.Turn:
		return api.Node{Op: kind, Ins: []int{in()}}
	case api.Clamp:
		return api.Node{Op: kind, Ins: []int{in()}, Args: []int{few() - 1, 1 + 50*few()}}
	case api.Requant:
		return api.Node{Op: kind, Ins: []int{in()}, Args: []int{1<<30 + few(), 29 + few(), few()}}
	case api.Widen:
		return api.Node{Op: kind, Ins: []int{in()}, Args: []int{few()}}
	case api.MatMul:
		return api.Node{Op: kind, Ins: []int{in(), in()}, Args: []int{few(), few()}}
	case api.Conv:
		return api.Node{Op: kind, Ins: []int{in(), in()}, Args: []int{1 + few(), few(), few()}}
	case api.MaxPool, api.AvgPool:
		return api.Node{Op: kind, Ins: []int{in()}, Args: []int{1 + few(), 1 + few()}}
	}
	return api.Node{Op: api.Reshape, Ins: []int{in()}, Args: [][]int{{6}, {2, 3}, {3, 2}, {2, 3, 1}}[r.Intn(4)]}
}

// Tensor is a tensor that looks like d.
func Tensor(r Dice, d api.Desc) api.Tensor {
	t, _ := tens.Zero(d)
	for i := range t.Data {
		t.Data[i] = r.Intn(256) - 128
		if d.Wide && r.Intn(3) == 0 {
			t.Data[i] = tens.Wide(r.Intn(1 << 32))
		}
	}
	return t
}

// Given is an input and weights for a graph.
func Given(r Dice, s order.Seen) (api.Tensor, []api.Tensor) {
	var weights []api.Tensor
	for _, d := range s.Weights {
		weights = append(weights, Tensor(r, d))
	}
	return Tensor(r, s.In), weights
}
