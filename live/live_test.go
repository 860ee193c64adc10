package live

import (
	"math"
	"math/big"
	"math/rand"
	"slices"
	"testing"

	"lodge/api"
	"lodge/graph"
	"lodge/order"
	"lodge/shape"
	"lodge/sketch"
)

func node(op int, ins []int, args ...int) api.Node {
	return api.Node{Op: op, Ins: ins, Args: args}
}

// P22.1
func TestOf(t *testing.T) {
	input := node(api.Input, nil, 0, 5)
	weight := node(api.Weight, nil, 0, 0, 5)
	for i, x := range []struct {
		g    api.Graph
		want []Span
		size int
	}{
		{api.Graph{Nodes: []api.Node{input, node(api.Relu, []int{0}), node(api.Relu, []int{1}), node(api.Relu, []int{2})}, Out: 3},
			[]Span{{-1, 1, 0, 8}, {1, 2, 8, 8}, {2, 3, 0, 8}, {3, 4, 8, 8}}, 16},
		{api.Graph{Nodes: []api.Node{input}}, []Span{{-1, 1, 0, 8}}, 8},
		{api.Graph{Nodes: []api.Node{weight}}, []Span{{0, 1, 0, 8}, {-1, -1, 0, 4}}, 8},
		{api.Graph{Nodes: []api.Node{weight, node(api.Relu, []int{0})}, Out: 0}, []Span{{0, 2, 0, 8}, {1, 1, 8, 8}, {-1, -1, 0, 4}}, 16},
		{api.Graph{Nodes: []api.Node{node(api.Add, []int{1, 2}), input, input, node(api.Relu, []int{1})}, Out: 0},
			[]Span{{2, 4, 8, 8}, {-1, 3, 0, 8}, {-1, 3, 0, 8}, {3, 3, 16, 8}}, 24},
		{api.Graph{Nodes: []api.Node{weight, input}, Out: 0}, []Span{{0, 2, 8, 8}, {-1, 1, 0, 8}}, 16},
		{api.Graph{Nodes: []api.Node{node(api.Input, nil, 1, 1), node(api.Sum, []int{0})}, Out: 1}, []Span{{-1, 1, 0, 4}, {1, 2, 4, 4}}, 8},
	} {
		got, size, err := Of(x.g)
		if err != nil || size != x.size || !slices.Equal(got, x.want) {
			t.Error(i, got, size, err)
		}
	}
}

// P22.1
func TestOfRefuses(t *testing.T) {
	if got, n, err := Of(api.Graph{Nodes: []api.Node{node(api.Relu, []int{0})}}); err == nil || err.Error() != "0: "+api.ErrCycle.Error() || got != nil || n != 0 {
		t.Error(got, n, err)
	}
	g := api.Graph{Nodes: []api.Node{node(api.Input, nil, 1, 64, 256)}}
	if _, n, err := Of(g); n != api.MaxMem || err != nil {
		t.Error(n, err)
	}
	g.Nodes = append(g.Nodes, node(api.Weight, nil, 0, 0))
	if got, n, err := Of(g); err != api.ErrRoom || got != nil || n != 0 {
		t.Error(got, n, err)
	}
}

// P22.2
func TestPlace(t *testing.T) {
	for i, x := range []struct {
		l    []Span
		want []int
		end  int
	}{
		{nil, nil, 0},
		{[]Span{{0, 1, 99, 4}, {1, 2, 99, 4}, {2, 3, 99, 4}}, []int{0, 4, 0}, 8},
		{[]Span{{0, 9, 0, 5}, {0, 9, 0, 3}, {0, 9, 0, 1}}, []int{0, 8, 12}, 13},
		{[]Span{{0, 0, 0, 7}, {1, 1, 0, 2}, {0, 1, 0, 2}}, []int{0, 0, 8}, 10},
		{[]Span{{0, 5, 0, 8}, {0, 2, 0, 8}, {0, 5, 0, 8}, {3, 5, 0, 8}, {3, 3, 0, 9}}, []int{0, 8, 16, 8, 24}, 33},
		{[]Span{{5, 4, 0, 8}, {0, 9, 0, 8}, {5, 4, 0, 12}}, []int{0, 0, 0}, 12},
		{[]Span{{0, 9, 0, 8}, {0, 9, 0, 0}, {0, 9, 0, -5}, {0, 9, 0, 1}}, []int{0, 0, 0, 8}, 9},
		{[]Span{{0, 9, 0, -8}}, []int{0}, 0},
		{[]Span{{math.MinInt, math.MaxInt, 0, 4}, {0, 0, 0, 4}, {-7, -7, 0, 4}}, []int{0, 4, 4}, 8},
	} {
		got, end := Place(x.l...)
		if !slices.Equal(got, x.want) || end != x.end {
			t.Error(i, got, end)
		}
	}
}

// P22.2: by a plain search.
func TestPlaceRandom(t *testing.T) {
	r := rand.New(rand.NewSource(1))
	for range 500 {
		l := make([]Span, r.Intn(9))
		for i := range l {
			from := r.Intn(8)
			l[i] = Span{From: from, To: from + r.Intn(5) - 1, Len: r.Intn(14) - 1}
		}
		got, end := Place(l...)
		wantEnd := 0
		for i, s := range l {
			at := 0
			for ; s.Len > 0 && over(l[:i], got, s, at); at += 4 {
			}
			if got[i] != at {
				t.Fatal(l, got)
			}
			wantEnd = max(wantEnd, at+s.Len)
		}
		if end != wantEnd {
			t.Fatal(l, end)
		}
	}
}

// over is whether s at at lies over one of l.
func over(l []Span, offs []int, s Span, at int) bool {
	for k, o := range l {
		if o.Len > 0 && o.From <= o.To && s.From <= s.To && max(o.From, s.From) <= min(o.To, s.To) && at < offs[k]+o.Len && offs[k] < at+s.Len {
			return true
		}
	}
	return false
}

// P22.1, P22.3
func TestApart(t *testing.T) {
	r := rand.New(rand.NewSource(3))
	for range 500 {
		g := sketch.Graph(r)
		s, err := order.Of(g)
		if err != nil {
			t.Fatal(err)
		}
		spans, size, err := Of(g)
		if err != nil {
			t.Fatal(err)
		}
		hasInput := false
		for i, a := range spans {
			if i < len(g.Nodes) {
				hasInput = hasInput || g.Nodes[i].Op == api.Input
				for _, user := range graph.Uses(g)[i] {
					if a.To < slices.Index(s.Order, user) {
						t.Fatal(g, i, a)
					}
				}
				if b := shape.Bytes(s.Descs[i]); a.Len < b || a.Len > b+3 {
					t.Fatal(i, a)
				}
			}
			if a.Off%4 != 0 || a.Off < 0 || a.Off+a.Len > size || a.Len%4 != 0 {
				t.Fatal(i, a, size)
			}
			for k, b := range spans[:i] {
				if max(a.From, b.From) <= min(a.To, b.To) && a.Off < b.Off+b.Len && b.Off < a.Off+a.Len && (a.From >= 0 || b.From >= 0) {
					t.Fatal(i, k, a, b)
				}
			}
		}
		if hasInput != (len(spans) == len(g.Nodes)) {
			t.Fatal(len(spans))
		}
	}
}

// P22.2, P22.3: sums that fit no int are cut to the greatest one, and are never within another.
func TestPlaceFar(t *testing.T) {
	const most = math.MaxInt
	for i, x := range []struct {
		l    []Span
		want []int
		end  int
	}{
		{[]Span{{0, 0, 0, most - 1}, {0, 0, 0, 8}}, []int{0, most}, most},
		{[]Span{{0, 0, 0, most}, {0, 0, 0, 1}}, []int{0, most}, most},
		{[]Span{{0, 0, 0, most - 3}, {0, 0, 0, 3}}, []int{0, most - 3}, most},
		{[]Span{{0, 0, 0, most - 3}, {0, 0, 0, 4}}, []int{0, most - 3}, most},
		{[]Span{{0, 0, 0, most - 2}, {0, 0, 0, 4}}, []int{0, most}, most},
		{[]Span{{0, 0, 0, 8}, {0, 0, 0, most}, {0, 0, 0, most}, {0, 0, 0, most}, {0, 0, 0, 4}}, []int{0, 8, most, most, most}, most},
		{[]Span{{0, 0, 0, most}, {1, 1, 0, most}, {0, 1, 0, 4}, {2, 2, 0, 4}}, []int{0, 0, most, 0}, most},
		{[]Span{{0, 0, 0, most}}, []int{0}, most},
		{[]Span{{0, 0, 0, most - 1}, {0, 1, 0, 8}, {1, 1, 0, 4}, {1, 1, 0, most - 3}, {1, 1, 0, 4}}, []int{0, most, 0, 4, most}, most}, // the fourth one ends where the second one begins
		{[]Span{{0, 0, 0, most - 1}, {0, 1, 0, 8}, {1, 1, 0, 4}, {1, 1, 0, most - 2}}, []int{0, most, 0, most}, most},
	} {
		got, end := Place(x.l...)
		if !slices.Equal(got, x.want) || end != x.end {
			t.Error(i, got, end)
		}
	}
}

// P22.2: as numbers without bounds have it.
func TestPlaceFarRandom(t *testing.T) {
	r := rand.New(rand.NewSource(5))
	lens := []int{1, 4, 7, math.MaxInt, math.MaxInt - 2, math.MaxInt - 3, math.MaxInt - 8, math.MaxInt / 2, math.MaxInt/2 + 1, math.MaxInt / 4}
	for range 2000 {
		l := make([]Span, r.Intn(9))
		for i := range l {
			from := r.Intn(5)
			l[i] = Span{From: from, To: from + r.Intn(4), Len: lens[r.Intn(len(lens))]}
		}
		got, end := Place(l...)
		want, wantEnd := unbounded(l)
		if !slices.Equal(got, want) || end != wantEnd {
			t.Fatal(l, got, end, want, wantEnd)
		}
	}
}

// unbounded is Place in numbers without bounds, cut at the end.
func unbounded(l []Span) ([]int, int) {
	cut := func(n *big.Int) int {
		if !n.IsInt64() {
			return math.MaxInt
		}
		return int(n.Int64())
	}
	ends := make([]*big.Int, len(l))
	from := make([]*big.Int, len(l))
	offs := make([]int, len(l))
	end := new(big.Int)
	for i, s := range l {
		at := new(big.Int)
		size := big.NewInt(int64(s.Len))
		for k := 0; k < i; k++ {
			meets := max(s.From, l[k].From) <= min(s.To, l[k].To)
			if !meets || at.Cmp(ends[k]) >= 0 || new(big.Int).Add(at, size).Cmp(from[k]) <= 0 {
				continue
			}
			at.Add(ends[k], big.NewInt(3))
			at.Rsh(at, 2).Lsh(at, 2)
			k = -1 // it may lie over one that was passed
		}
		from[i], ends[i], offs[i] = at, new(big.Int).Add(at, size), cut(at)
		if ends[i].Cmp(end) > 0 {
			end = ends[i]
		}
	}
	return offs, cut(end)
}
