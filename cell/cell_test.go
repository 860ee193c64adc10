package cell

import (
	"bytes"
	"maps"
	"math"
	"slices"
	"testing"

	"lodge/api"
	"lodge/arena"
	"lodge/caps"
	"lodge/check"
	"lodge/comp"
	"lodge/graph"
	"lodge/plan"
	"lodge/tens"
	"lodge/wire"
)

func narrow(l ...int) api.Desc { return api.Desc{Shape: l} }
func wide(l ...int) api.Desc   { return api.Desc{Shape: l, Wide: true} }

func of(d api.Desc, data ...int) api.Tensor { return api.Tensor{Desc: d, Data: data} }

func same(a, b api.Reply) bool {
	return a.Counter == b.Counter && a.Code == b.Code && a.Number == b.Number && a.Step == b.Step && bytes.Equal(a.Bytes, b.Bytes)
}

// house is a cell with what it stands in.
type house struct {
	*testing.T
	s *caps.Store
	a *arena.Arena
	c *Cell
	n uint64
}

func open(t *testing.T, part, queue int) *house {
	t.Helper()
	a, err := arena.New(100000)
	if err != nil {
		t.Fatal(err)
	}
	a.Add(9, 10)
	a.Add(3, part)
	s := caps.New()
	c, err := New(3, queue, s, a)
	if err != nil {
		t.Fatal(err)
	}
	return &house{t, s, a, c, 0}
}

// do sends a frame, and expects an error, or a number.
func (h *house) do(kind int, body []byte, want error, number int) {
	h.Helper()
	h.n++
	got := h.c.Do(api.Frame{Tenant: 77, Counter: h.n, Kind: kind, Body: body})
	if !same(got, api.Reply{Counter: h.n, Code: wire.Code(want), Number: number, Step: -1}) {
		h.Errorf("%d: %v, not %v %d", h.n, got, want, number)
	}
}

// blocks is the cell's blocks: place and length.
func (h *house) blocks(want map[int]int) {
	h.Helper()
	if got := maps.Collect(h.a.Blocks(3)); !maps.Equal(got, want) {
		h.Errorf("%d: %v", h.n, got)
	}
}

// twice is the bytes of a graph that adds the input [2] to itself, and of its plan.
func twice() ([]byte, []byte) {
	g, _ := graph.Bytes(api.Graph{Nodes: []api.Node{{Op: api.Input, Args: []int{0, 2}}, {Op: api.Add, Ins: []int{0, 0}}}, Out: 1})
	p, _ := comp.Bytes(g)
	b, _ := plan.Bytes(p)
	return g, b
}

// ring is the bytes of a plan that never ends by itself: it jumps on the spot.
func ring() []byte {
	b, _ := plan.Bytes(api.Plan{Size: 3, Views: []api.View{{Desc: narrow(2)}}, Code: []api.Instr{{Op: api.Jump, Args: []int{0}}}})
	return b
}

// P28.1
func TestNew(t *testing.T) {
	a, _ := arena.New(100)
	a.Add(3, 10)
	a.Add(20, 10)
	s := caps.New()
	for i, x := range []struct {
		id, queue int
		err       error
	}{{3, 1, nil}, {3, api.MaxQueue, nil}, {-1, 1, api.ErrRange}, {16, 1, api.ErrRange}, {20, 1, api.ErrRange}, {3, 0, api.ErrRange}, {3, api.MaxQueue + 1, api.ErrRange}, {4, 0, api.ErrRange}, {4, 1, api.ErrNone}, {math.MinInt, 1, api.ErrRange}} {
		if c, err := New(x.id, x.queue, s, a); err != x.err || (c == nil) != (err != nil) {
			t.Error(i, err)
		}
	}
}

// P28.2
func TestPutWeight(t *testing.T) {
	h := open(t, 30, 4)
	h.do(api.PutWeight, Body(2, of(narrow(3), 1, 2, 3)), nil, 6)
	h.blocks(map[int]int{0: 6})
	if b, _ := h.a.Read(3, 0, 6); !bytes.Equal(b, tens.Bytes(of(narrow(3), 1, 2, 3))) {
		t.Error(b)
	}
	if got, err := h.s.Get(3, 2); err != nil || !tens.Same(got, of(narrow(3), 1, 2, 3)) {
		t.Error(got, err)
	}
	h.do(api.PutWeight, Body(2, of(narrow(4), 4, 5, 6, 7)), nil, 7)
	h.blocks(map[int]int{6: 7})
	h.do(api.PutWeight, Body(15, of(narrow(20), make([]int, 20)...)), api.ErrQuota, 0)
	h.do(api.PutWeight, Body(2, of(narrow(20), make([]int, 20)...)), api.ErrQuota, 0) // both would have to have room
	h.do(api.PutWeight, Body(15, of(narrow(14), make([]int, 14)...)), nil, 24)
	if got, err := h.s.Get(3, 2); err != nil || !tens.Same(got, of(narrow(4), 4, 5, 6, 7)) {
		t.Error(got, err)
	}
	for _, x := range []struct {
		body []byte
		err  error
	}{
		{nil, api.ErrEnd}, {Body(16), api.ErrRange}, {Body(255, 99), api.ErrRange}, {Body(0), api.ErrEnd}, {Body(0, 16), api.ErrKind}, {Body(0, 1, 1), api.ErrEnd}, {Body(0, 1, 0, 0), api.ErrRange}, {Body(0, 1, 3, 0, 1, 2), api.ErrEnd},
		{Body(0, of(narrow(), 1), 0), api.ErrMany}, {Body(0, 5, make([]byte, 20)), api.ErrMany},
	} {
		h.do(api.PutWeight, x.body, x.err, 0)
	}
	h.blocks(map[int]int{6: 7, 13: 17})
}

// P28.2
func TestPutPlans(t *testing.T) {
	g, p := twice()
	h := open(t, 3*len(p), 4)
	h.do(api.PutGraph, Body(5, g), nil, 3)
	h.do(api.PutPlan, Body(0, p), nil, 3)
	if !slices.Equal(h.c.Plans(), []int{0, 5}) {
		t.Error(h.c.Plans())
	}
	h.blocks(map[int]int{0: len(p), len(p): len(p)})
	for _, at := range []int{0, len(p)} {
		if b, _ := h.a.Read(3, at, len(p)); !bytes.Equal(b, p) {
			t.Error(b)
		}
	}
	h.do(api.PutPlan, Body(5, p), nil, 3)
	h.blocks(map[int]int{len(p): len(p), 2 * len(p): len(p)})
	long, _ := plan.Bytes(api.Plan{Size: 3, Views: []api.View{{Desc: narrow(2)}}, Code: make([]api.Instr, 3)})
	bad, _ := plan.Bytes(api.Plan{Size: -1})
	cycle, _ := graph.Bytes(api.Graph{Nodes: []api.Node{{Op: api.Relu, Ins: []int{0}}}})
	for _, x := range []struct {
		kind int
		body []byte
		err  error
	}{
		{api.PutGraph, nil, api.ErrEnd}, {api.PutPlan, nil, api.ErrEnd}, {api.PutGraph, Body(16), api.ErrRange}, {api.PutPlan, Body(16, p), api.ErrRange}, {api.PutGraph, Body(0), api.ErrEnd}, {api.PutPlan, Body(0), api.ErrEnd},
		{api.PutGraph, Body(0, p), api.ErrKind}, {api.PutPlan, Body(0, g), api.ErrKind}, {api.PutGraph, Body(0, g, 0), api.ErrMany}, {api.PutPlan, Body(0, p, 0), api.ErrMany},
		{api.PutGraph, Body(0, cycle), api.ErrCycle}, {api.PutPlan, Body(0, bad), api.ErrRange}, {api.PutPlan, Body(0, long), api.ErrKind},
	} {
		h.do(x.kind, x.body, x.err, 0)
	}
	small := open(t, 2*len(p)-1, 4)
	small.do(api.PutGraph, Body(1, g), nil, 3)
	small.do(api.PutGraph, Body(1, g), api.ErrQuota, 0)
	small.do(api.PutPlan, Body(2, p), api.ErrQuota, 0)
	small.blocks(map[int]int{0: len(p)})
	small.do(api.Free, Body(1, 0), api.ErrNone, 0)
	if !slices.Equal(small.c.Plans(), []int{1}) {
		t.Error(small.c.Plans())
	}
}

// P28.2, P28.3
func TestSubmitAndRun(t *testing.T) {
	g, p := twice()
	h := open(t, 3*len(p), 2)
	h.do(api.PutGraph, Body(1, g), nil, 3)
	in := of(narrow(2), 5, 100)
	h.do(api.Submit, Body(1, 0, uint32(99), in), nil, 0)
	q, _ := plan.Read(p)
	h.blocks(map[int]int{0: len(p), len(p): q.Size + 2})
	if b, ok := h.a.Read(3, len(p), q.Size+2); !ok || !bytes.Equal(b, make([]byte, q.Size+2)) {
		t.Error("a request's block", b)
	}
	h.do(api.Submit, Body(1, 0, uint32(1), in), nil, 1)
	h.do(api.Submit, Body(1, 0, uint32(99), in), api.ErrFull, 0)
	if h.c.Waiting() != 2 || h.c.Next() != 2 {
		t.Error(h.c.Waiting(), h.c.Next())
	}
	for _, deficit := range []int{-1, math.MinInt, 0, 1} {
		if used, replies := h.c.Run(deficit, 5); used != 0 || replies != nil || h.c.Waiting() != 2 {
			t.Error(deficit, used, replies)
		}
	}
	used, replies := h.c.Run(2, 7)
	want := []api.Reply{{Counter: 2, Number: 2, Bytes: tens.Bytes(of(narrow(2), 10, 127)), Step: 7}, {Counter: 3, Code: wire.Code(api.ErrFuel), Step: 7}}
	if used != 2 || !slices.EqualFunc(replies, want, same) || h.c.Waiting() != 0 || h.c.Next() != 0 {
		t.Error(used, replies)
	}
	h.blocks(map[int]int{0: len(p)})
	h.do(api.Submit, Body(1, 0, uint32(2), in), nil, 0)
	h.do(api.Free, Body(1, 1), nil, q.Size+2)
	if used, replies := h.c.Run(math.MaxInt, -4); used != 2 || len(replies) != 1 || replies[0].Step != -4 || replies[0].Code != 0 {
		t.Error("the plan went, the request stays", used, replies)
	}
	h.blocks(map[int]int{})
}

// P28.2, P28.3
func TestRing(t *testing.T) {
	h := open(t, 1000, 3)
	h.do(api.PutPlan, Body(0, ring()), nil, 1)
	for i := range 3 {
		h.do(api.Submit, Body(0, 0, uint32(10*i+4), of(narrow(2), 1, 2)), nil, i)
	}
	if used, replies := h.c.Run(3, 0); used != 3 || replies != nil || h.c.Waiting() != 3 || h.c.Next() != 1 {
		t.Error(used, replies)
	}
	spent := wire.Code(api.ErrFuel)
	used, replies := h.c.Run(10, 1)
	if used != 10 || !slices.EqualFunc(replies, []api.Reply{{Counter: 2, Code: spent, Number: 4, Step: 1}}, same) || h.c.Waiting() != 2 {
		t.Error(used, replies)
	}
	used, replies = h.c.Run(1000, 2)
	if used != 5+24 || !slices.EqualFunc(replies, []api.Reply{{Counter: 3, Code: spent, Number: 14, Step: 2}, {Counter: 4, Code: spent, Number: 24, Step: 2}}, same) {
		t.Error(used, replies)
	}
}

// P28.2: the errors of a Submit, in order.
func TestSubmitRefuses(t *testing.T) {
	g, _ := graph.Bytes(api.Graph{Nodes: []api.Node{{Op: api.Input, Args: []int{0, 2}}, {Op: api.Weight, Args: []int{0, 0, 2}}, {Op: api.Add, Ins: []int{0, 1}}}, Out: 2})
	h := open(t, 1000, 1)
	in, bad := of(narrow(2), 5, 6), of(narrow(3), 1, 2, 3)
	h.do(api.PutGraph, Body(1, g), nil, 5)
	w := len(tens.Bytes(in))
	used := h.a.Used(3)
	h.do(api.PutWeight, Body(4, in), nil, used+w)
	h.do(api.PutWeight, Body(5, bad), nil, used+w+6)
	h.s.Put(2, 0, in)
	h.s.Offer(2, 0, 3)
	h.do(api.Accept, Body(2, 0, 6), nil, 0)
	h.s.Revoke(2, 0)
	for _, x := range []struct {
		body []byte
		err  error
	}{
		{nil, api.ErrEnd}, {Body(16), api.ErrRange}, {Body(0), api.ErrEnd}, {Body(0, 9), api.ErrRange}, {Body(0, 2, 0), api.ErrEnd}, {Body(0, 2, 16), api.ErrRange}, {Body(0, 0, 1, 0, 0), api.ErrEnd},
		{Body(0, 0, uint32(1)), api.ErrEnd}, {Body(0, 0, uint32(1), 16), api.ErrKind}, {Body(0, 0, uint32(1), in, 0), api.ErrMany},
		{Body(0, 1, 9, uint32(1<<31), bad), api.ErrNone}, {Body(1, 2, 9, 6, uint32(1<<31), bad), api.ErrNone}, {Body(1, 2, 6, 9, uint32(1<<31), bad), api.ErrStale},
		{Body(1, 0, uint32(1<<31), bad), api.ErrShape}, {Body(1, 1, 5, uint32(1<<31), bad), api.ErrShape}, {Body(1, 1, 4, uint32(1<<31), bad), api.ErrShape}, {Body(1, 1, 4, uint32(api.MaxFuel+1), in), api.ErrRange}, {Body(1, 1, 4, uint32(1<<31), in), api.ErrRange},
	} {
		h.do(api.Submit, x.body, x.err, 0)
	}
	for h.a.Used(3) < 995 {
		h.a.Take(3, 1)
	}
	h.do(api.Submit, Body(1, 1, 4, uint32(9), in), api.ErrQuota, 0)
	h.do(api.Free, Body(0, 5), nil, h.a.Used(3)-6)
	h.do(api.Free, Body(1, 1), nil, 995-6-(used))
	if h.c.Waiting() != 0 {
		t.Error(h.c.Waiting())
	}
}

// P28.2: a request has the weights as they were.
func TestWeightsAsTheyWere(t *testing.T) {
	g, _ := graph.Bytes(api.Graph{Nodes: []api.Node{{Op: api.Input, Args: []int{0, 2}}, {Op: api.Weight, Args: []int{1, 0, 2}}, {Op: api.Weight, Args: []int{0, 0}}, {Op: api.Add, Ins: []int{0, 1}}}, Out: 3})
	h := open(t, 2000, 2)
	p, err := comp.Bytes(g)
	if err != nil {
		t.Fatal(err)
	}
	total, _ := check.Total(p)
	h.do(api.PutGraph, Body(15, g), nil, total)
	used := h.a.Used(3)
	h.do(api.PutWeight, Body(7, of(narrow(2), 10, 20)), nil, used+5)
	h.do(api.PutWeight, Body(8, of(narrow(), 0)), nil, used+7)
	h.do(api.Submit, Body(15, 2, 8, 7, uint32(100), of(narrow(2), 1, 2)), nil, 0)
	h.c.Do(api.Frame{Kind: api.PutWeight, Body: Body(7, of(narrow(2), 50, 60))})
	h.do(api.Submit, Body(15, 2, 8, 7, uint32(100), of(narrow(2), 1, 2)), nil, 1)
	_, replies := h.c.Run(1000, 3)
	if len(replies) != 2 || !bytes.Equal(replies[0].Bytes, tens.Bytes(of(narrow(2), 11, 22))) || !bytes.Equal(replies[1].Bytes, tens.Bytes(of(narrow(2), 51, 62))) {
		t.Error(replies)
	}
}

// P28.2
func TestFree(t *testing.T) {
	h := open(t, 200, 1)
	h.do(api.PutWeight, Body(2, of(narrow(), 1)), nil, 2)
	h.do(api.PutPlan, Body(2, ring()), nil, 1)
	size := len(ring())
	for _, x := range []struct {
		body []byte
		err  error
	}{{nil, api.ErrEnd}, {Body(2), api.ErrKind}, {Body(2, 99, 9), api.ErrKind}, {Body(0), api.ErrEnd}, {Body(1), api.ErrEnd}, {Body(0, 16), api.ErrRange}, {Body(0, 2, 0), api.ErrMany}, {Body(1, 3, 0), api.ErrMany}, {Body(0, 3), api.ErrNone}, {Body(1, 3), api.ErrNone}} {
		h.do(api.Free, x.body, x.err, 0)
	}
	h.do(api.Free, Body(0, 2), nil, size)
	h.do(api.Free, Body(0, 2), api.ErrNone, 0)
	h.do(api.Free, Body(1, 2), nil, 0)
	h.do(api.Free, Body(1, 2), api.ErrNone, 0)
	h.blocks(map[int]int{})
	if len(h.c.Plans()) != 0 {
		t.Error(h.c.Plans())
	}
}

// P28.2
func TestRights(t *testing.T) {
	h := open(t, 100, 1)
	h.do(api.PutWeight, Body(2, of(narrow(), 1)), nil, 2)
	h.s.Put(5, 1, of(narrow(), 7))
	h.s.Offer(5, 1, 3)
	for _, x := range []struct {
		kind int
		body []byte
		err  error
	}{
		{api.Offer, nil, api.ErrEnd}, {api.Offer, Body(2), api.ErrEnd}, {api.Offer, Body(16), api.ErrRange}, {api.Offer, Body(2, 16), api.ErrRange}, {api.Offer, Body(2, 16, 0), api.ErrMany}, {api.Offer, Body(3, 1), api.ErrNone}, {api.Offer, Body(2, 3), api.ErrCap}, {api.Offer, Body(2, 1), nil},
		{api.Accept, nil, api.ErrEnd}, {api.Accept, Body(5), api.ErrEnd}, {api.Accept, Body(5, 1), api.ErrEnd}, {api.Accept, Body(5, 16), api.ErrRange}, {api.Accept, Body(5, 1, 16), api.ErrRange}, {api.Accept, Body(16, 1, 3), api.ErrRange}, {api.Accept, Body(16, 1, 3, 0), api.ErrMany}, {api.Accept, Body(5, 1, 2), api.ErrRoom}, {api.Accept, Body(5, 2, 2), api.ErrCap}, {api.Accept, Body(5, 1, 3), nil},
		{api.Offer, Body(3, 1), api.ErrCap}, {api.Revoke, Body(3), api.ErrCap}, {api.Revoke, nil, api.ErrEnd}, {api.Revoke, Body(16, 0), api.ErrRange}, {api.Revoke, Body(2, 0), api.ErrMany}, {api.Revoke, Body(9), api.ErrNone}, {api.Revoke, Body(2), nil},
	} {
		h.do(x.kind, x.body, x.err, 0)
	}
	if h.s.Accept(1, 3, 2, 0) != api.ErrCap {
		t.Error("revoked")
	}
	// A lent weight has no block: it goes, and it gives way, without one.
	h.do(api.PutWeight, Body(3, of(narrow(), 1)), nil, 4)
	h.do(api.Free, Body(0, 3), nil, 2)
	h.do(api.Accept, Body(5, 1, 3), nil, 0)
	h.do(api.Free, Body(0, 3), nil, 2)
	for _, kind := range []int{0, 9, -1, 255, math.MaxInt} {
		h.do(kind, Body(99), api.ErrKind, 0)
	}
}

// P28.1, P28.3
func TestClose(t *testing.T) {
	g, _ := twice()
	h := open(t, 1000, 2)
	h.do(api.PutGraph, Body(1, g), nil, 3)
	h.do(api.PutWeight, Body(2, of(narrow(), 1)), nil, h.a.Used(3)+2)
	h.do(api.Offer, Body(2, 1), nil, 0)
	h.do(api.Submit, Body(1, 0, uint32(99), of(narrow(2), 5, 6)), nil, 0)
	h.s.Put(9, 0, of(narrow(), 4))
	c := h.c.Clone(h.s.Clone(), h.a.Clone())
	if used, _ := h.c.Run(2, 0); used != 2 {
		t.Error(used)
	}
	h.c.Close()
	h.blocks(map[int]int{})
	if h.c.Waiting() != 0 || h.c.Next() != 0 || len(h.c.Plans()) != 0 || h.s.Accept(1, 3, 2, 0) != api.ErrCap || len(slices.Collect(h.s.Slots(3))) != 0 {
		t.Error("something stays")
	}
	if used, replies := h.c.Run(99, 0); used != 0 || replies != nil {
		t.Error(used, replies)
	}
	if _, _, ok := h.s.Has(9, 0); !ok || len(h.a.Parts()) != 2 {
		t.Error("another one's")
	}
	h.do(api.Submit, Body(1, 0, uint32(99), of(narrow(2), 5, 6)), api.ErrNone, 0)
	h.do(api.PutGraph, Body(1, g), nil, 3)
	if used, replies := c.Run(99, 0); used != 2 || len(replies) != 1 || c.Waiting() != 0 || !slices.Equal(c.Plans(), []int{1}) {
		t.Error("the clone", used, replies)
	}
}

// P28.4
func TestBody(t *testing.T) {
	b := []byte{7, 8}
	got := Body(1, 256+5, -1, uint32(0x01020304), b, of(wide(), -2), "text", int64(5), nil, 2.5, []int{1}, of(narrow(0)), byte(3))
	if !bytes.Equal(got, []byte{1, 5, 255, 4, 3, 2, 1, 7, 8, 8, 254, 255, 255, 255}) {
		t.Error(got)
	}
	if len(Body()) != 0 {
		t.Error("nothing")
	}
	got = Body(b)
	if got[0] = 0; b[0] != 7 {
		t.Error("shared")
	}
}
