package host

import (
	"bytes"
	"math"
	"math/rand"
	"slices"
	"testing"

	"lodge/api"
	"lodge/arena"
	"lodge/caps"
	"lodge/cell"
	"lodge/graph"
	"lodge/plan"
	"lodge/tens"
	"lodge/wire"
)

func narrow(l ...int) api.Desc { return api.Desc{Shape: l} }

func of(d api.Desc, data ...int) api.Tensor { return api.Tensor{Desc: d, Data: data} }

func same(a, b api.Reply) bool {
	return a.Counter == b.Counter && a.Code == b.Code && a.Number == b.Number && a.Step == b.Step && bytes.Equal(a.Bytes, b.Bytes)
}

func sameAll(a, b []api.Reply) bool { return slices.EqualFunc(a, b, same) }

func key(id int) []byte { return []byte{byte(id), 9} }

func seal(id int, counter uint64, kind int, body []byte) []byte {
	b, _ := wire.Seal(key(id), api.Frame{Tenant: id, Counter: counter, Kind: kind, Body: body})
	return b
}

func start(t *testing.T, memory int, fixed bool) *Host {
	t.Helper()
	h, err := New(memory, fixed)
	if err != nil {
		t.Fatal(err)
	}
	return h
}

// ring is a plan that jumps on the spot, till its fuel is spent.
func ring() []byte {
	b, _ := plan.Bytes(api.Plan{Size: 1, Views: []api.View{{}}, Code: []api.Instr{{Op: api.Jump, Args: []int{0}}}})
	return b
}

func spin(fuel int) []byte { return cell.Body(0, 0, uint32(fuel), of(narrow(), 1)) }

// P29.1
func TestAdmitAndRetire(t *testing.T) {
	for _, size := range []int{0, -1, api.MaxArena + 1} {
		if h, err := New(size, true); err != api.ErrRange || h != nil {
			t.Error(size, err)
		}
	}
	h := start(t, 1000, false)
	long := make([]byte, 65)
	for i, x := range []struct {
		id                   int
		key                  []byte
		part, quantum, queue int
		err                  error
	}{
		{-1, nil, 10, 2000, 1, api.ErrRange}, {16, nil, 10, 2000, 1, api.ErrRange}, {3, long, 10, 2000, 1, api.ErrRange}, {3, nil, 10, 1023, 1, api.ErrRange}, {3, nil, 10, api.MaxQuantum + 1, 1, api.ErrRange}, {3, nil, 10, 2000, 0, api.ErrRange}, {3, nil, 10, 2000, 65, api.ErrRange},
		{3, nil, 0, 2000, 1, api.ErrRange}, {3, nil, -5, 2000, 1, api.ErrRange}, {3, nil, 1001, 2000, 1, api.ErrRoom}, {3, nil, 1001, 2000, 0, api.ErrRange},
		{3, long[:64], 600, 1024, 64, nil}, {3, nil, 10, 2000, 1, api.ErrRange}, {0, nil, 401, 2000, 1, api.ErrRoom}, {0, nil, 400, api.MaxQuantum, 1, nil}, {7, nil, 1, 2000, 1, api.ErrRoom},
	} {
		before := h.Digest()
		if err := h.Admit(x.id, x.key, x.part, x.quantum, x.queue); err != x.err || (h.Digest() == before) != (err != nil) {
			t.Error(i, err)
		}
	}
	if got := h.Tenants(); !slices.Equal(got, []int{0, 3}) {
		t.Error(got)
	}
	for _, id := range []int{-1, 1, 16, math.MaxInt} {
		if err := h.Retire(id); err != api.ErrTenant {
			t.Error(id, err)
		}
	}
	if h.Retire(3) != nil || h.Retire(3) != api.ErrTenant || !slices.Equal(h.Tenants(), []int{0}) {
		t.Error("Retire")
	}
	if err := h.Admit(5, nil, 600, 2000, 1); err != nil {
		t.Error(err)
	}
}

// P29.1
func TestWhatGoes(t *testing.T) {
	h := start(t, 1000, false)
	h.Admit(1, key(1), 500, 1024, 4)
	h.Admit(2, key(2), 100, 1024, 4)
	h.Frame(seal(1, 1, api.PutPlan, cell.Body(0, ring())))
	h.Frame(seal(1, 2, api.PutWeight, cell.Body(0, of(narrow(), 1))))
	h.Frame(seal(1, 3, api.Offer, cell.Body(0, 2)))
	h.Frame(seal(2, 1, api.Accept, cell.Body(1, 0, 7)))
	h.Frame(seal(1, 4, api.Submit, spin(2000)))
	h.Step()
	mine := key(7)
	h.Admit(7, mine, 100, 1024, 1)
	mine[0]++
	if r := h.Frame(seal(7, 1, api.PutWeight, cell.Body(0, of(narrow(), 1)))); r.Code != 0 {
		t.Error("the key was kept", r)
	}
	h.Retire(7)
	told := h.Replies(1)
	if len(told) != 4 || h.Waiting(1) != 1 || h.Used(1) == 0 {
		t.Fatal(told)
	}
	h.Retire(1)
	if !sameAll(h.Replies(1), told) || h.Waiting(1) != 0 || h.Used(1) != 0 || h.Deficit(1) != 0 {
		t.Error("what was told stays, all else goes")
	}
	if r := h.Frame(seal(1, 9, api.Free, cell.Body(1, 0))); !same(r, wire.Reject()) {
		t.Error(r)
	}
	if err := h.Admit(1, key(1), 300, 1024, 4); err != nil || len(h.Replies(1)) != 0 {
		t.Error("admitted again", err)
	}
	if r := h.Frame(seal(1, 1, api.Free, cell.Body(1, 0))); r.Code != wire.Code(api.ErrNone) || r.Counter != 1 {
		t.Error("a counter from 0 on", r)
	}
	if r := h.Frame(seal(2, 2, api.Accept, cell.Body(1, 0, 8))); r.Code != wire.Code(api.ErrCap) {
		t.Error(r)
	}
}

// P29.2, P0.12
func TestFrames(t *testing.T) {
	h := start(t, 1000, true)
	h.Admit(1, key(1), 100, 1024, 4)
	h.Admit(2, key(2), 100, 1024, 4)
	good := seal(1, 5, api.PutWeight, cell.Body(0, of(narrow(), 1)))
	before := h.Digest()
	for i := range good {
		for bit := range 8 {
			b := bytes.Clone(good)
			b[i] ^= 1 << bit
			if r := h.Frame(b); !same(r, wire.Reject()) {
				t.Fatal(i, bit, r)
			}
		}
	}
	other, _ := wire.Seal(key(1), api.Frame{Tenant: 2, Counter: 5, Kind: api.Free})
	for i, b := range [][]byte{nil, good[:46], append(bytes.Clone(good), 0), other, seal(3, 5, 1, nil), seal(16, 5, 1, nil), seal(65535, 5, 1, nil), seal(1, 0, api.Free, nil)} {
		if r := h.Frame(b); !same(r, wire.Reject()) {
			t.Error(i, r)
		}
	}
	if h.Digest() != before || len(h.Replies(1)) != 0 || h.Used(1) != 0 {
		t.Error("something has changed")
	}
	want := api.Reply{Counter: 5, Number: 2, Step: -1}
	if r := h.Frame(good); !same(r, want) || !sameAll(h.Replies(1), []api.Reply{want}) || len(h.Replies(2)) != 0 || h.Digest() == before {
		t.Error(r)
	}
	before = h.Digest()
	for _, counter := range []uint64{5, 4, 0} {
		if r := h.Frame(seal(1, counter, api.Free, cell.Body(0, 0))); !same(r, wire.Reject()) || h.Digest() != before {
			t.Error(counter, r)
		}
	}
	refused := api.Reply{Counter: 1 << 63, Code: wire.Code(api.ErrKind), Step: -1}
	if r := h.Frame(seal(1, 1<<63, 99, nil)); !same(r, refused) || h.Digest() == before {
		t.Error(r)
	}
	if r := h.Frame(seal(1, 6, api.Free, cell.Body(0, 0))); !same(r, wire.Reject()) {
		t.Error("an error has its counter too", r)
	}
	got := h.Replies(1)
	if got[0].Number = 9; h.Replies(1)[0].Number != 2 || len(h.Replies(-1)) != 0 || len(h.Replies(16)) != 0 {
		t.Error("shared")
	}
}

// P29.3
func TestSteps(t *testing.T) {
	for _, fixed := range []bool{false, true} {
		h := start(t, 1000, fixed)
		step := func(id, used int) {
			t.Helper()
			if gotID, gotUsed := h.Step(); gotID != id || gotUsed != used {
				t.Error(fixed, h.Steps(), gotID, gotUsed)
			}
		}
		step(-1, 0)
		for _, id := range []int{2, 5, 9} {
			h.Admit(id, key(id), 300, 1024+id, 4)
			h.Frame(seal(id, 1, api.PutPlan, cell.Body(0, ring())))
		}
		h.Frame(seal(5, 2, api.Submit, spin(1500)))
		h.Frame(seal(5, 3, api.Submit, spin(5)))
		h.Frame(seal(9, 2, api.Submit, spin(7)))
		if fixed {
			step(2, 0)
		}
		step(5, 1029)
		if h.Deficit(5) != 0 || h.Waiting(5) != 2 {
			t.Error(h.Deficit(5), h.Waiting(5))
		}
		step(9, 7)
		if h.Deficit(9) != 0 || h.Waiting(9) != 0 {
			t.Error(h.Deficit(9))
		}
		if fixed {
			step(2, 0)
		}
		step(5, 1500-1029+5)
		if fixed {
			step(9, 0)
			h.Retire(2)
			step(5, 0)
		} else {
			step(-1, 0)
		}
		n := h.Steps()
		spent := wire.Code(api.ErrFuel)
		want := []api.Reply{{Counter: 2, Code: spent, Number: 1500}, {Counter: 3, Code: spent, Number: 5}}
		for i := range want {
			want[i].Step = map[bool]int{false: 3, true: 5}[fixed]
		}
		if got := h.Replies(5)[3:]; !sameAll(got, want) || n != map[bool]int{false: 5, true: 8}[fixed] {
			t.Error(fixed, got, n)
		}
		if h.Deficit(-1) != 0 || h.Waiting(99) != 0 || h.Used(77) != 0 {
			t.Error("of none")
		}
	}
}

// P29.3: a deficit that is left, when the next instruction costs more.
func TestDeficit(t *testing.T) {
	h := start(t, 100000, false)
	h.Admit(0, key(0), 100000, 1500, 4)
	p, _ := plan.Bytes(api.Plan{Size: 2000, Views: []api.View{{Desc: narrow(1, 250, 4)}, {Off: 1000, Desc: narrow(1, 250, 4)}}, Code: []api.Instr{{Op: api.Relu, Dst: 1, Ins: []int{0}, To: 1000}, {Op: api.Jump, Args: []int{0}}}})
	h.Frame(seal(0, 1, api.PutPlan, cell.Body(3, p)))
	g, _ := graph.Bytes(api.Graph{Nodes: []api.Node{{Op: api.Input, Args: []int{0}}}})
	h.Frame(seal(0, 10, api.PutGraph, cell.Body(0, g)))
	h.Frame(seal(0, 11, api.Submit, cell.Body(0, 0, uint32(0), of(narrow(), 5))))
	h.Step()
	told := h.Replies(0)
	told[len(told)-1].Bytes[1] = 9
	if again := h.Replies(0); !bytes.Equal(again[len(again)-1].Bytes, []byte{0, 5}) {
		t.Error("shared")
	}
	in, _ := tens.Zero(narrow(1, 250, 4))
	h.Frame(seal(0, 12, api.Submit, cell.Body(3, 0, uint32(4004), in)))
	for i, x := range [][2]int{{1001, 499}, {1001, 998}, {2002, 0}} {
		if _, used := h.Step(); used != x[0] || h.Deficit(0) != x[1] {
			t.Error(i, used, h.Deficit(0))
		}
	}
}

// event is what happened at a host: a frame that was accepted, or a turn.
type event struct {
	id      int
	frame   *api.Frame
	deficit int
	step    int
}

// bodies is frames as they fall: kind and body.
func bodies(r *rand.Rand) (int, []byte) {
	g, _ := graph.Bytes(api.Graph{Nodes: []api.Node{{Op: api.Input, Args: []int{0, 2}}, {Op: api.Weight, Args: []int{0, 0, 2}}, {Op: api.Add, Ins: []int{0, 1}}}, Out: 2})
	in := of(narrow(2), r.Intn(50), r.Intn(50))
	slot, other := r.Intn(3), r.Intn(4)
	switch r.Intn(12) {
	case 0:
		return api.PutGraph, cell.Body(slot, g)
	case 1:
		return api.PutPlan, cell.Body(slot, ring())
	case 2, 3:
		return api.PutWeight, cell.Body(slot, in)
	case 4, 5:
		return api.Submit, cell.Body(slot, 1, r.Intn(4), uint32(r.Intn(20)), in)
	case 6:
		return api.Submit, cell.Body(slot, 0, uint32(r.Intn(4000)), of(narrow(), 1))
	case 7:
		return api.Free, cell.Body(r.Intn(2), slot)
	case 8, 9:
		return api.Offer, cell.Body(slot, other)
	case 10:
		return api.Accept, cell.Body(other, slot, 3)
	}
	return api.Revoke, cell.Body(slot)
}

const tenants = 4

// play plays a script, and tells what happened.
func play(t *testing.T, r *rand.Rand, fixed bool) (*Host, []event) {
	h := start(t, 10000, fixed)
	var counters [tenants]uint64
	for id := range tenants {
		h.Admit(id, key(id), 300+100*id, 1024+500*id, 3)
	}
	var log []event
	for range 300 {
		if r.Intn(4) == 0 {
			var before [tenants]int
			for id := range before {
				before[id] = h.Deficit(id) + 1024 + 500*id
			}
			if id, _ := h.Step(); id >= 0 {
				log = append(log, event{id: id, deficit: before[id], step: h.Steps() - 1})
			}
			continue
		}
		id := r.Intn(tenants)
		kind, body := bodies(r)
		counters[id] += uint64(r.Intn(3))
		b := seal(id, counters[id], kind, body)
		if r.Intn(8) == 0 {
			b[r.Intn(len(b))]++
		}
		if got := h.Frame(b); got.Code != wire.Code(api.ErrTag) {
			f, _ := wire.Open(b)
			log = append(log, event{id: id, frame: &f})
		}
	}
	return h, log
}

// P29.4, P0.10: each cell in an arena of its own is told the same.
func TestApart(t *testing.T) {
	r := rand.New(rand.NewSource(1))
	answers := 0
	for i := range 60 {
		h, log := play(t, r, i%2 == 0)
		s := caps.New()
		var cells [tenants]*cell.Cell
		var told [tenants][]api.Reply
		for id := range cells {
			a, _ := arena.New(300 + 100*id)
			a.Add(id, 300+100*id)
			cells[id], _ = cell.New(id, 3, s, a)
		}
		for _, e := range log {
			if e.frame != nil {
				told[e.id] = append(told[e.id], cells[e.id].Do(*e.frame))
				continue
			}
			_, replies := cells[e.id].Run(e.deficit, e.step)
			told[e.id] = append(told[e.id], replies...)
		}
		for id := range cells {
			if !sameAll(told[id], h.Replies(id)) {
				t.Fatal(id)
			}
			for _, x := range told[id] {
				if len(x.Bytes) > 0 {
					answers++
				}
			}
		}
	}
	if answers < 20 {
		t.Error("too few", answers)
	}
}

// P29.4, P0.11: of what others do nothing is seen, where turns are fixed.
func TestUnseen(t *testing.T) {
	r := rand.New(rand.NewSource(2))
	for range 40 {
		var hosts [2]*Host
		for i := range hosts {
			hosts[i] = start(t, 10000, true)
		}
		for id := range tenants {
			hosts[0].Admit(id, key(id), 300, 1024, 3)
			hosts[1].Admit(tenants-1-id, key(tenants-1-id), 300, 1024, 3)
		}
		for n := range 200 {
			id := r.Intn(tenants)
			kind, body := bodies(r)
			b := seal(id, uint64(n+1), kind, body)
			switch {
			case r.Intn(3) == 0:
				hosts[0].Step()
				hosts[1].Step()
			case id >= 2:
				hosts[r.Intn(2)].Frame(b)
			case kind != api.Accept:
				hosts[0].Frame(b)
				hosts[1].Frame(b)
			}
		}
		for id := range 2 {
			for _, x := range hosts[0].Replies(id) {
				if x.Code == wire.Code(api.ErrStale) {
					t.Fatal("something was accepted")
				}
			}
			if !sameAll(hosts[0].Replies(id), hosts[1].Replies(id)) || hosts[0].Used(id) != hosts[1].Used(id) {
				t.Fatal(id)
			}
		}
	}
}

// P29.4, P0.11: nor who had the part before.
func TestUnseenBefore(t *testing.T) {
	r := rand.New(rand.NewSource(5))
	for range 20 {
		used, fresh := start(t, 10000, true), start(t, 10000, true)
		used.Admit(1, key(1), 700, 1024, 3)
		for n := range 40 {
			kind, body := bodies(r)
			used.Frame(seal(1, uint64(n+1), kind, body))
		}
		used.Retire(1)
		for _, h := range []*Host{used, fresh} {
			if err := h.Admit(2, key(2), 600, 1024, 3); err != nil {
				t.Fatal(err)
			}
		}
		for n := range 100 {
			kind, body := bodies(r)
			b := seal(2, uint64(n+1), kind, body)
			if x, y := used.Frame(b), fresh.Frame(b); !same(x, y) {
				t.Fatal(x, y)
			}
			used.Step()
			fresh.Step()
		}
		if !sameAll(used.Replies(2), fresh.Replies(2)) || used.Used(2) != fresh.Used(2) {
			t.Fatal("seen")
		}
	}
}

// P29.4, P0.13
func TestTurns(t *testing.T) {
	r := rand.New(rand.NewSource(3))
	for i := range 40 {
		h := start(t, 100000, i%2 == 0)
		n := 1 + r.Intn(5)
		var quanta, costs []int
		for id := range n {
			quanta, costs = append(quanta, 1024+r.Intn(2000)), append(costs, 0)
			h.Admit(id, key(id), 4000, quanta[id], 64)
			h.Frame(seal(id, 1, api.PutPlan, cell.Body(0, ring())))
		}
		bound := map[[2]int]int{}
		for k := range 60 {
			for id := range n {
				if id != 0 && r.Intn(3) == 0 {
					continue
				}
				fuel := 1 + r.Intn(3000)
				costs[id] += fuel
				h.Frame(seal(id, uint64(k+2), api.Submit, spin(fuel)))
				bound[[2]int{id, k + 2}] = ((costs[id]+quanta[id]-1)/quanta[id] + 1) * n
			}
		}
		for busy := true; busy; {
			h.Step()
			busy = false
			for id := range n {
				busy = busy || h.Waiting(id) > 0
			}
		}
		for id := range n {
			for _, x := range h.Replies(id) {
				if most, ok := bound[[2]int{id, int(x.Counter)}]; ok && x.Step >= 0 && x.Step >= most {
					t.Fatal(id, x, most)
				}
			}
		}
	}
}

// P29.3
func TestDigestAndClone(t *testing.T) {
	r := rand.New(rand.NewSource(4))
	h, _ := play(t, r, false)
	again, _ := play(t, rand.New(rand.NewSource(4)), false)
	if h.Digest() != again.Digest() {
		t.Error("told the same")
	}
	for i, change := range []func(h *Host){
		func(h *Host) { h.Step() }, func(h *Host) { h.Frame(seal(0, 9999, 99, nil)) }, func(h *Host) { h.Retire(2) }, func(h *Host) { h.Admit(7, nil, 10, 1024, 1) },
		func(h *Host) { h.Retire(1); h.Admit(1, key(1), 10, 1024, 1) },
	} {
		before := h.Digest()
		c := h.Clone()
		if c.Digest() != before {
			t.Error(i, "Clone")
		}
		change(c)
		if c.Digest() == before || h.Digest() != before {
			t.Error(i, "Digest")
		}
	}
	before := h.Digest()
	h.Admit(0, nil, 10, 1024, 1)
	h.Retire(9)
	h.Frame(nil)
	h.Steps()
	h.Replies(0)
	h.Used(0)
	if h.Digest() != before {
		t.Error("a call that changes nothing")
	}
	a, b := h.Clone(), h.Clone()
	for n := range 50 {
		id := r.Intn(tenants)
		kind, body := bodies(r)
		f := seal(id, uint64(10000+n), kind, body)
		if x, y := a.Frame(f), b.Frame(f); !same(x, y) {
			t.Fatal(x, y)
		}
		a.Step()
		b.Step()
		if a.Digest() != b.Digest() {
			t.Fatal("clones go apart")
		}
	}
	if h.Digest() != before {
		t.Error("shared")
	}
	c, d := h.Clone(), h.Clone()
	c.Frame(seal(0, 20000, 98, nil))
	d.Frame(seal(0, 20001, 99, nil))
	h.Frame(seal(0, 20002, 97, nil))
	for i, x := range []*Host{c, d, h} {
		if l := x.Replies(0); l[len(l)-1].Counter != uint64(20000+i) {
			t.Error(i, "the clones' replies")
		}
	}
}
