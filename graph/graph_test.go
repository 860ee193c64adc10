package graph

import (
	"bytes"
	"math"
	"math/rand"
	"slices"
	"testing"

	"lodge/api"
	"lodge/tens"
)

func narrow(l ...int) api.Desc { return api.Desc{Shape: l} }
func wide(l ...int) api.Desc   { return api.Desc{Shape: l, Wide: true} }

func of(d api.Desc, data ...int) api.Tensor { return api.Tensor{Desc: d, Data: data} }

// told tells whether err is want around place, or alone, if place is -1.
func told(err, want error, place int) bool {
	if at, ok := err.(*api.At); ok {
		return at.Pos == place && at.Err == want
	}
	return err == want && place < 0
}

func sample() api.Graph {
	return api.Graph{Nodes: []api.Node{
		{Op: api.Input, Args: []int{0, 2}},
		{Op: api.Const, T: of(wide(2), -1, 70000)},
		{Op: 255, Ins: []int{0, 65535}, Args: []int{math.MinInt32, math.MaxInt32}},
		{Op: api.Const, Ins: []int{1}, Args: []int{7}, T: of(narrow(), 5)},
	}, Out: 65535}
}

// P17.1
func TestBytes(t *testing.T) {
	if b, err := Bytes(api.Graph{}); err != nil || !bytes.Equal(b, []byte{'L', 'G', 0, 0, 0, 0}) {
		t.Error(b, err)
	}
	want := []byte{
		'L', 'G', 4, 0,
		1, 0, 2, 0, 0, 0, 0, 2, 0, 0, 0,
		2, 0, 0, 9, 2, 0, 255, 255, 255, 255, 0x70, 0x11, 1, 0,
		255, 2, 0, 0, 255, 255, 2, 0, 0, 0, 128, 255, 255, 255, 127,
		2, 1, 1, 0, 1, 7, 0, 0, 0, 0, 5,
		255, 255,
	}
	if b, err := Bytes(sample()); err != nil || !bytes.Equal(b, want) {
		t.Error(b, err)
	}
	g := sample()
	g.Nodes[0].T = of(narrow(), 999)
	if b, err := Bytes(g); err != nil || !bytes.Equal(b, want) {
		t.Error("what is no constant has a tensor", b, err)
	}
}

// P17.1
func TestBytesRefuses(t *testing.T) {
	node := func(n api.Node) api.Graph {
		return api.Graph{Nodes: []api.Node{{Op: api.Const, T: of(narrow(2), 1, 2)}, n}}
	}
	for i, x := range []struct {
		g     api.Graph
		err   error
		place int
	}{
		{api.Graph{Nodes: make([]api.Node, api.MaxNodes+1), Out: -1}, api.ErrMany, -1},
		{node(api.Node{Op: -1, Ins: make([]int, 9)}), api.ErrMany, -1}, {node(api.Node{Op: 256, Args: make([]int, 9)}), api.ErrMany, -1},
		{node(api.Node{Op: -1}), api.ErrRange, -1}, {node(api.Node{Op: 256}), api.ErrRange, -1},
		{node(api.Node{Ins: []int{-1}}), api.ErrRange, -1}, {node(api.Node{Ins: []int{0, 65536}}), api.ErrRange, -1}, {node(api.Node{Args: []int{1 << 31}}), api.ErrRange, -1}, {node(api.Node{Args: []int{-1<<31 - 1}}), api.ErrRange, -1},
		{api.Graph{Out: -1}, api.ErrRange, -1}, {api.Graph{Out: 65536}, api.ErrRange, -1},
		{api.Graph{Nodes: []api.Node{{Op: api.Const, T: of(narrow(2), 1, 200)}}, Out: 65536}, api.ErrRange, -1},
		{node(api.Node{Op: api.Const, T: of(narrow(2), 1, 200)}), api.ErrRange, 1}, {node(api.Node{Op: api.Const}), api.ErrShape, -1}, {node(api.Node{Op: api.Const, T: of(narrow(1, 1, 1, 1, 1))}), api.ErrMany, -1},
	} {
		if b, err := Bytes(x.g); !told(err, x.err, x.place) || b != nil {
			t.Error(i, b, err)
		}
	}
	if _, err := Bytes(api.Graph{Nodes: make([]api.Node, api.MaxNodes), Out: 65535}); err != nil {
		t.Error(err)
	}
	if _, err := Bytes(node(api.Node{Ins: make([]int, api.MaxArgs), Args: make([]int, api.MaxArgs)})); err != nil {
		t.Error(err)
	}
}

// P17.1
func TestReadRefuses(t *testing.T) {
	whole, _ := Bytes(sample())
	for n := range whole {
		if g, err := Read(whole[:n]); err != api.ErrEnd || !Same(g, api.Graph{}) {
			t.Error(n, err)
		}
	}
	set := func(at int, l ...byte) []byte {
		b := bytes.Clone(whole)
		copy(b[at:], l)
		return b
	}
	for i, x := range []struct {
		b     []byte
		err   error
		place int
	}{
		{[]byte("G"), api.ErrEnd, -1}, {[]byte("x"), api.ErrEnd, -1}, {[]byte("LP"), api.ErrKind, 0}, {set(1, 'g'), api.ErrKind, 0},
		{set(2, 65), api.ErrMany, 2}, {set(2, 65)[:4], api.ErrMany, 2}, {set(2, 65)[:3], api.ErrEnd, -1}, {set(3, 1), api.ErrMany, 2},
		{set(5, 9), api.ErrMany, 5}, {set(6, 9), api.ErrMany, 6}, {set(30, 9), api.ErrMany, 30}, {set(35, 9)[:36], api.ErrMany, 35},
		{set(18, 16), api.ErrKind, 1}, {set(18, 9, 0, 0), api.ErrRange, 1}, {set(18, 13, 0, 0, 0, 0, 0, 0, 0, 0, 0, 0), api.ErrMany, 1}, {set(53, 16), api.ErrKind, 3},
		{append(bytes.Clone(whole), 1, 2), api.ErrMany, len(whole)},
	} {
		if g, err := Read(x.b); !told(err, x.err, x.place) || !Same(g, api.Graph{}) {
			t.Error(i, err)
		}
	}
}

// P17.1
func TestSameAndClone(t *testing.T) {
	a := sample()
	if !Same(a, Clone(a)) || !Same(api.Graph{}, api.Graph{Nodes: []api.Node{}}) {
		t.Fatal("Clone")
	}
	for i, change := range []func(g *api.Graph){
		func(g *api.Graph) { g.Out-- }, func(g *api.Graph) { g.Nodes = g.Nodes[1:] }, func(g *api.Graph) { g.Nodes[0].Op++ }, func(g *api.Graph) { g.Nodes[2].Ins[0]++ }, func(g *api.Graph) { g.Nodes[0].Args[1]++ },
		func(g *api.Graph) { g.Nodes[1].T.Data[0]++ }, func(g *api.Graph) { g.Nodes[1].T.Shape[0]++ }, func(g *api.Graph) { g.Nodes[3].T.Wide = true }, func(g *api.Graph) { g.Nodes[3].Ins = nil }, func(g *api.Graph) { g.Nodes[3].Args = nil },
	} {
		c := Clone(a)
		change(&c)
		if Same(a, c) || !Same(a, sample()) {
			t.Error(i)
		}
	}
}

// P17.1
func TestUses(t *testing.T) {
	g := api.Graph{Nodes: []api.Node{{Ins: []int{2, 2}}, {Ins: []int{0, 1, -1, 4, 9}}, {Ins: []int{1, 0, 1}}, {}}}
	want := [][]int{{1, 2}, {1, 2}, {0}, nil}
	got := Uses(g)
	if len(Uses(api.Graph{})) != 0 || len(got) != 4 {
		t.Fatal(got)
	}
	for i := range want {
		if !slices.Equal(got[i], want[i]) {
			t.Error(i, got[i])
		}
	}
}

// P17.2
func TestThereAndBack(t *testing.T) {
	whole, _ := Bytes(sample())
	if g, err := Read(whole); err != nil || !Same(g, sample()) || len(g.Nodes[0].T.Data) != 0 || !tens.Same(g.Nodes[1].T, sample().Nodes[1].T) {
		t.Fatal(g, err)
	}
	r := rand.New(rand.NewSource(1))
	read := 0
	for range 20000 {
		b := bytes.Clone(whole)
		for range 1 + r.Intn(3) {
			b[r.Intn(len(b))] = byte(r.Intn(12))
		}
		if g, err := Read(b); err == nil {
			read++
			if back, err := Bytes(g); err != nil || !bytes.Equal(back, b) {
				t.Fatal(back, err)
			}
		}
	}
	if read < 100 {
		t.Error("too few", read)
	}
}
