package order

import (
	"math"
	"math/rand"
	"slices"
	"testing"

	"lodge/api"
	"lodge/shape"
)

func narrow(l ...int) api.Desc { return api.Desc{Shape: l} }
func wide(l ...int) api.Desc   { return api.Desc{Shape: l, Wide: true} }

func of(d api.Desc, data ...int) api.Tensor { return api.Tensor{Desc: d, Data: data} }

// told tells whether err is want around place, or alone, if place is -1.
func told(err, want error, place int) bool {
	if at, ok := err.(*api.At); ok {
		return at.Pos == place && at.Err == want
	}
	return err == want && place < 0
}

// P18.1
func TestSort(t *testing.T) {
	for i, x := range []struct {
		ins   [][]int
		want  []int
		err   error
		place int
	}{
		{nil, nil, nil, -1}, {[][]int{nil, nil}, []int{0, 1}, nil, -1}, {[][]int{{2}, nil, {1, 1}}, []int{1, 2, 0}, nil, -1},
		{[][]int{{4}, nil, {0}, {1}, nil}, []int{1, 3, 4, 0, 2}, nil, -1},
		{[][]int{{1}, {0}}, nil, api.ErrCycle, 0}, {[][]int{nil, {1}}, nil, api.ErrCycle, 1}, {[][]int{nil, {3}, {3, 2}, nil}, nil, api.ErrCycle, 2},
		{[][]int{{2}, nil, {3}, {2}}, nil, api.ErrCycle, 0},
		{[][]int{{0}, {2}, {-1}}, nil, api.ErrNone, 2}, {[][]int{{0}, {3}, {-1}}, nil, api.ErrNone, 1}, {[][]int{{math.MaxInt}}, nil, api.ErrNone, 0},
	} {
		got, err := Sort(x.ins...)
		if !slices.Equal(got, x.want) || !told(err, x.err, x.place) {
			t.Error(i, got, err)
		}
	}
}

// P18.1: by a plain search.
func TestSortRandom(t *testing.T) {
	r := rand.New(rand.NewSource(1))
	for range 500 {
		n := 1 + r.Intn(12)
		ins := make([][]int, n)
		rank := r.Perm(n)
		for i := range ins {
			for range r.Intn(3) {
				if j := r.Intn(n); rank[j] < rank[i] || r.Intn(20) == 0 {
					ins[i] = append(ins[i], j)
				}
			}
		}
		var want []int
		for len(want) < n {
			next := -1
			for i := range ins {
				ready := !slices.Contains(want, i)
				for _, in := range ins[i] {
					ready = ready && slices.Contains(want, in)
				}
				if ready && next < 0 {
					next = i
				}
			}
			if next < 0 {
				break
			}
			want = append(want, next)
		}
		got, err := Sort(ins...)
		if len(want) == n && (err != nil || !slices.Equal(got, want)) {
			t.Fatal(ins, got, want, err)
		}
		if len(want) < n {
			first := 0
			for slices.Contains(want, first) {
				first++
			}
			if !told(err, api.ErrCycle, first) || got != nil {
				t.Fatal(ins, got, err)
			}
		}
	}
	long := make([][]int, 100000)
	for i := range long[1:] {
		long[i] = []int{i + 1}
	}
	if got, err := Sort(long...); err != nil || got[0] != 99999 || got[99999] != 0 {
		t.Error(err)
	}
}

// P18.1
func TestReached(t *testing.T) {
	g := api.Graph{Nodes: []api.Node{{Ins: []int{1}}, {Ins: []int{0, 9, -1}}, {Ins: []int{0, 3}}, {}, {Ins: []int{2}}}, Out: 2}
	if got := Reached(g); !slices.Equal(got, []bool{true, true, true, true, false}) {
		t.Error(got)
	}
	for _, out := range []int{-1, 5, math.MaxInt} {
		g.Out = out
		if got := Reached(g); !slices.Equal(got, make([]bool, 5)) {
			t.Error(out, got)
		}
	}
	if len(Reached(api.Graph{})) != 0 {
		t.Error("no nodes")
	}
}

// P18.2
func TestOf(t *testing.T) {
	g := api.Graph{Nodes: []api.Node{
		{Op: api.Add, Ins: []int{3, 4}},
		{Op: api.Weight, Args: []int{2, 1, 5}},
		{Op: api.Const, T: of(narrow(2, 2), 1, 2, 3, 4)},
		{Op: api.Input, Args: []int{0, 2, 3}},
		{Op: api.Input, Args: []int{0, 2, 3}},
		{Op: api.Weight, Args: []int{0, 0}},
		{Op: api.Weight, Args: []int{2, 1, 5}},
		{Op: api.ArgMax, Ins: []int{0}},
	}, Out: 0}
	s, err := Of(g)
	if err != nil || !slices.Equal(s.Order, []int{1, 2, 3, 4, 0, 5, 6, 7}) || !shape.Same(s.In, narrow(2, 3)) {
		t.Fatal(s, err)
	}
	descs := []api.Desc{narrow(2, 3), wide(5), narrow(2, 2), narrow(2, 3), narrow(2, 3), narrow(), wide(5), wide(2)}
	if !slices.EqualFunc(s.Descs, descs, shape.Same) || !slices.EqualFunc(s.Weights, []api.Desc{narrow(), narrow(), wide(5)}, shape.Same) {
		t.Error(s)
	}
	s.In.Shape[0], s.Weights[2].Shape[0] = 9, 9
	if !slices.EqualFunc(s.Descs, descs, shape.Same) {
		t.Error("shared")
	}
	for _, d := range s.Descs {
		for k := range d.Shape {
			d.Shape[k] = 9
		}
	}
	if g.Nodes[3].Args[1] != 2 || g.Nodes[1].Args[2] != 5 || g.Nodes[2].T.Shape[0] != 2 {
		t.Error("shared with the graph")
	}
	if s, err := Of(api.Graph{Nodes: slices.Repeat([]api.Node{{Op: api.Input, Args: []int{0}}}, api.MaxNodes)}); err != nil || len(s.Order) != api.MaxNodes {
		t.Error(s, err)
	}
	s, err = Of(api.Graph{Nodes: []api.Node{{Op: api.Const, T: of(narrow(), 1)}}})
	if err != nil || !shape.Same(s.In, narrow()) || len(s.Weights) != 0 {
		t.Error(s, err)
	}
}

// P18.2
func TestOfRefuses(t *testing.T) {
	ok := api.Node{Op: api.Input, Args: []int{0, 2}}
	last := func(l ...api.Node) api.Graph { return api.Graph{Nodes: l, Out: len(l) - 1} }
	for i, x := range []struct {
		g     api.Graph
		err   error
		place int
	}{
		{api.Graph{Nodes: make([]api.Node, api.MaxNodes+1), Out: -1}, api.ErrMany, -1},
		{api.Graph{Nodes: []api.Node{{Ins: []int{7}}}, Out: 1}, api.ErrNone, -1}, {api.Graph{Out: -1}, api.ErrNone, -1}, {api.Graph{}, api.ErrNone, -1},
		{last(api.Node{Ins: []int{0}}, api.Node{Ins: []int{7}}), api.ErrNone, 1}, {last(api.Node{Ins: []int{1}}, api.Node{Ins: []int{0}}), api.ErrCycle, 0},
		{last(api.Node{Op: api.Relu, Ins: []int{1}}, api.Node{Op: 99}), api.ErrKind, 1}, {last(ok, api.Node{Op: api.Jump, Ins: []int{0}, Args: []int{0}}), api.ErrKind, 1}, {last(api.Node{Op: 0}), api.ErrKind, 0}, {last(api.Node{Op: api.Halt}), api.ErrKind, 0},
		{last(ok, api.Node{Op: api.Input, Ins: []int{0}, Args: []int{7}}), api.ErrShape, 1}, {last(ok, api.Node{Op: api.Weight, Ins: []int{0}, Args: []int{99}}), api.ErrShape, 1}, {last(ok, api.Node{Op: api.Const, Ins: []int{0}}), api.ErrShape, 1},
		{last(api.Node{Op: api.Input}), api.ErrShape, 0}, {last(api.Node{Op: api.Input, Args: []int{2, 0}}), api.ErrRange, 0}, {last(api.Node{Op: api.Input, Args: []int{-1}}), api.ErrRange, 0}, {last(api.Node{Op: api.Input, Args: []int{1, 0}}), api.ErrRange, 0}, {last(api.Node{Op: api.Input, Args: []int{1, 1, 1, 1, 1, 1}}), api.ErrMany, 0},
		{last(ok, api.Node{Op: api.Input, Args: []int{1, 2}}), api.ErrShape, 1}, {last(ok, api.Node{Op: api.Input, Args: []int{0, 2, 1}}), api.ErrShape, 1}, {last(ok, api.Node{Op: api.Input, Args: []int{0, 0}}), api.ErrRange, 1},
		{last(api.Node{Op: api.Weight}), api.ErrShape, 0}, {last(api.Node{Op: api.Weight, Args: []int{0}}), api.ErrShape, 0}, {last(api.Node{Op: api.Weight, Args: []int{8, 0}}), api.ErrRange, 0}, {last(api.Node{Op: api.Weight, Args: []int{-1, 0}}), api.ErrRange, 0}, {last(api.Node{Op: api.Weight, Args: []int{7, 2}}), api.ErrRange, 0}, {last(api.Node{Op: api.Weight, Args: []int{7, 0, 300}}), api.ErrRange, 0},
		{last(api.Node{Op: api.Weight, Args: []int{7, 0, 3}}, api.Node{Op: api.Weight, Args: []int{7, 0, 4}}), api.ErrShape, 1},
		{last(api.Node{Op: api.Const, Args: []int{0}, T: of(narrow(), 1)}), api.ErrShape, 0}, {last(api.Node{Op: api.Const, Args: []int{0}, T: of(narrow(0))}), api.ErrShape, 0}, {last(api.Node{Op: api.Const, T: of(narrow(2), 1, 200)}), api.ErrRange, 0}, {last(api.Node{Op: api.Const, T: of(narrow(0))}), api.ErrRange, 0}, {last(api.Node{Op: api.Const, T: of(narrow(2))}), api.ErrShape, 0},
		{last(ok, api.Node{Op: api.Relu}), api.ErrShape, 1}, {last(ok, api.Node{Op: api.Clamp, Ins: []int{0}, Args: []int{2, 1}}), api.ErrRange, 1}, {last(api.Node{Op: api.Turn, Ins: []int{1}}, ok), api.ErrShape, 0},
	} {
		s, err := Of(x.g)
		if !told(err, x.err, x.place) || s.Order != nil || s.Descs != nil || s.Weights != nil || s.In.Shape != nil || s.In.Wide {
			t.Error(i, s, err)
		}
	}
}
