package vm

import (
	"bytes"
	"math"
	"math/rand"
	"testing"

	"lodge/api"
	"lodge/check"
	"lodge/op"
	"lodge/plan"
	"lodge/tens"
)

func narrow(l ...int) api.Desc { return api.Desc{Shape: l} }
func wide(l ...int) api.Desc   { return api.Desc{Shape: l, Wide: true} }

func of(d api.Desc, data ...int) api.Tensor { return api.Tensor{Desc: d, Data: data} }

// told tells whether err is want around place, or alone, if place is -1.
func told(err, want error, place int) bool {
	if at, ok := err.(*api.At); ok {
		return at.Pos == place && at.Err == want
	}
	return err == want && place < 0
}

// sample adds a constant and a weight to the input, in pieces, and widens the answer.
func sample() (api.Plan, []api.Tensor, api.Tensor) {
	p := api.Plan{
		Size:    40,
		Views:   []api.View{{Off: 1, Desc: narrow(4)}, {Off: 5, Desc: narrow(4)}, {Off: 9, Desc: narrow(4)}, {Off: 20, Desc: wide(4)}},
		Consts:  []api.Tensor{of(narrow(4), 1, 2, 3, 4)},
		Weights: []api.Desc{narrow(4)},
		Code: []api.Instr{
			{Op: api.Const, Dst: 1, Args: []int{0}, From: 0, To: 3},
			{Op: api.Add, Dst: 2, Ins: []int{0, 1}, From: 0, To: 2},
			{Op: api.Add, Dst: 2, Ins: []int{0, 1}, From: 2, To: 4},
			{Op: api.Weight, Dst: 1, Args: []int{0}, From: 1, To: 4},
			{Op: api.Add, Dst: 0, Ins: []int{2, 1}, From: 0, To: 4},
			{Op: api.Widen, Dst: 3, Ins: []int{0}, Args: []int{-1}, From: 1, To: 4},
			{Op: api.Halt},
		},
		Input:  0,
		Output: 3,
	}
	return p, []api.Tensor{of(narrow(4), 100, 110, 120, -5)}, of(narrow(4), 10, 20, 30, -40)
}

// P16.1
func TestNewRefuses(t *testing.T) {
	bad := of(narrow(4), 1, 2, 3, 400)
	for i, x := range []struct {
		change func(p *api.Plan, w *[]api.Tensor, in *api.Tensor, fuel *int)
		err    error
		place  int
	}{
		{func(p *api.Plan, w *[]api.Tensor, in *api.Tensor, fuel *int) { p.Code[6].Op, *w = 99, nil }, api.ErrKind, 6},
		{func(p *api.Plan, w *[]api.Tensor, in *api.Tensor, fuel *int) { p.Size, *w = -1, nil }, api.ErrRange, -1},
		{func(p *api.Plan, w *[]api.Tensor, in *api.Tensor, fuel *int) { *w, *in = nil, bad }, api.ErrShape, -1},
		{func(p *api.Plan, w *[]api.Tensor, in *api.Tensor, fuel *int) { *w = []api.Tensor{bad, bad} }, api.ErrShape, -1},
		{func(p *api.Plan, w *[]api.Tensor, in *api.Tensor, fuel *int) {
			*w, *in = []api.Tensor{bad}, of(narrow(0))
		}, api.ErrRange, 0},
		{func(p *api.Plan, w *[]api.Tensor, in *api.Tensor, fuel *int) {
			*w, *in = []api.Tensor{of(narrow(1), 1)}, bad
		}, api.ErrShape, 0},
		{func(p *api.Plan, w *[]api.Tensor, in *api.Tensor, fuel *int) { *in, *fuel = bad, -1 }, api.ErrRange, 3},
		{func(p *api.Plan, w *[]api.Tensor, in *api.Tensor, fuel *int) { *in, *fuel = of(narrow(0)), -1 }, api.ErrRange, -1},
		{func(p *api.Plan, w *[]api.Tensor, in *api.Tensor, fuel *int) {
			*in, *fuel = of(wide(4), 1, 2, 3, 4), -1
		}, api.ErrShape, -1},
		{func(p *api.Plan, w *[]api.Tensor, in *api.Tensor, fuel *int) { *fuel = -1 }, api.ErrRange, -1},
		{func(p *api.Plan, w *[]api.Tensor, in *api.Tensor, fuel *int) { *fuel = api.MaxFuel + 1 }, api.ErrRange, -1},
		{func(p *api.Plan, w *[]api.Tensor, in *api.Tensor, fuel *int) { *fuel = math.MaxInt }, api.ErrRange, -1},
	} {
		p, w, in := sample()
		fuel := 5
		x.change(&p, &w, &in, &fuel)
		if m, err := New(p, w, in, fuel); !told(err, x.err, x.place) || m != nil {
			t.Error(i, err)
		}
	}
	p, w, in := sample()
	for _, fuel := range []int{0, api.MaxFuel} {
		if _, err := New(p, w, in, fuel); err != nil {
			t.Error(err)
		}
	}
}

// P16.1, P16.2, P16.3
func TestSample(t *testing.T) {
	p, w, in := sample()
	m, err := New(p, w, in, 100)
	if err != nil {
		t.Fatal(err)
	}
	before := make([]byte, 40)
	copy(before[1:], []byte{10, 20, 30, 216})
	if !bytes.Equal(m.Memory(), before) || m.At() != 0 || m.Used() != 0 || m.State() != Running {
		t.Error(m.Memory())
	}
	p.Code[0].Op, w[0].Data[1], in.Data[0] = 99, 7, 7 // nothing of it is kept
	m.Memory()[0] = 9
	for i, cost := range []int{3, 2, 2, 3, 4, 3} {
		used := m.Used()
		if m.At() != i || m.Next() != cost || !m.Step() || m.Used() != used+cost {
			t.Error(i, m.At(), m.Next(), m.Used())
		}
		if _, ok := m.Out(); ok {
			t.Error(i, "an answer too early")
		}
	}
	if m.Next() != 0 || m.State() != Running || !m.Step() || m.State() != Done || m.At() != 6 || m.Used() != 17 || m.Step() || m.Next() != 0 {
		t.Error(m.State(), m.At(), m.Used())
	}
	out, ok := m.Out()
	if !ok || !tens.Same(out, of(wide(4), 0, 127+1, 127+1, -45+1)) {
		t.Error(out, ok)
	}
	want := make([]byte, 40)
	copy(want[1:], []byte{12, 127, 127, 211, 1, 110, 120, 251, 11, 22, 33, 216})
	copy(want[24:], []byte{128, 0, 0, 0, 128, 0, 0, 0, 212, 255, 255, 255})
	if !bytes.Equal(m.Memory(), want) {
		t.Error(m.Memory())
	}
	out.Data[0], out.Shape[0] = 5, 5
	if again, _ := m.Out(); again.Data[0] != 0 || again.Shape[0] != 4 {
		t.Error("shared")
	}
}

// P16.2
func TestEnds(t *testing.T) {
	if Running != 0 || Done != 1 || Spent != 2 {
		t.Error("the states")
	}
	one := []api.View{{Desc: narrow(1)}, {Off: 1, Desc: narrow(1)}}
	in := of(narrow(1), 3)
	start := func(fuel int, code ...api.Instr) *Machine {
		m, err := New(api.Plan{Size: 2, Views: one, Code: code, Output: 1}, nil, in, fuel)
		if err != nil {
			t.Fatal(err)
		}
		return m
	}
	m := start(0)
	if m.Next() != 0 || !m.Step() || m.State() != Done || m.Step() || m.At() != 0 {
		t.Error("no code")
	}
	relu := api.Instr{Op: api.Relu, Dst: 1, Ins: []int{0}, To: 1}
	m = start(1, relu, relu)
	if m.Next() != 1 || m.Run(5) != 1 || m.State() != Spent || m.At() != 1 || m.Used() != 1 || m.Step() || m.Next() != 0 {
		t.Error("spent", m.State(), m.At())
	}
	if _, ok := m.Out(); ok {
		t.Error("an answer of a spent one")
	}
	m = start(7, api.Instr{Op: api.Jump, Args: []int{0}})
	if m.Run(3) != 3 || m.State() != Running || m.Run(100) != 4 || m.State() != Spent || m.Used() != 7 {
		t.Error("a ring", m.State(), m.Used())
	}
	m = start(7, api.Instr{Op: api.Jump, Args: []int{1}})
	if m.Run(1) != 1 || m.State() != Done || m.At() != 1 {
		t.Error("a jump to the end", m.State(), m.At())
	}
	// View 1 is 0 at first: the first JumpZero jumps, the one over the input does not.
	m = start(9, api.Instr{Op: api.JumpZero, Ins: []int{1}, Args: []int{2}}, relu, api.Instr{Op: api.JumpZero, Ins: []int{0}, Args: []int{0}}, api.Instr{Op: api.Halt}, relu)
	if m.Run(99) != 2 || m.State() != Done || m.At() != 3 || m.Memory()[1] != 0 {
		t.Error("JumpZero", m.At(), m.Memory())
	}
}

// P16.2
func TestBudgets(t *testing.T) {
	p, w, in := sample()
	m, _ := New(p, w, in, 100)
	for i, x := range [][3]int{{-1, 0, 0}, {math.MinInt, 0, 0}, {0, 0, 0}, {2, 0, 0}, {4, 3, 1}, {4, 4, 3}, {9, 7, 5}, {2, 0, 5}, {3, 3, 6}} {
		if got := m.Run(x[0]); got != x[1] || m.At() != x[2] {
			t.Error(i, got, m.At())
		}
	}
	if m.State() != Done || m.Run(9) != 0 {
		t.Error("steps that use nothing are done")
	}
	m, _ = New(p, w, in, 2)
	if m.Run(-1) != 0 || m.State() != Running || m.Run(0) != 0 || m.State() != Spent {
		t.Error("the end of the fuel uses nothing")
	}
}

// P16.3
func TestSameAndClone(t *testing.T) {
	p, w, in := sample()
	start := func() *Machine { m, _ := New(p, w, in, 100); return m }
	a, b := start(), start()
	if !a.Same(b) || !a.Same(a.Clone()) {
		t.Error("alike")
	}
	c := a.Clone()
	for a.Step() {
		if c.Same(a) || !c.Same(b) {
			t.Error("further")
		}
	}
	c.Run(99)
	if !c.Same(a) {
		t.Error("as far")
	}
	other, _ := New(p, w, in, 99)
	if b.Same(other) {
		t.Error("other fuel")
	}
	p.Output = 2
	if b.Same(start()) {
		t.Error("another plan")
	}
	p.Output = 3
	w[0].Data[0]++
	if b.Same(start()) {
		t.Error("other weights")
	}
	w[0].Data[0]--
	in.Data[0]++
	if b.Same(start()) {
		t.Error("another memory")
	}
}

// random is a plan that may run, over views that lie as they fall.
func random(r *rand.Rand) api.Plan {
	p := api.Plan{Size: 64, Consts: []api.Tensor{of(narrow(4), 1, -2, 3, 127)}, Weights: []api.Desc{wide(2, 2)}}
	descs := []api.Desc{narrow(4), narrow(4), wide(2, 2), wide(2, 2), narrow(2, 2), wide(2), wide()}
	for range 12 {
		d := descs[r.Intn(len(descs))]
		p.Views = append(p.Views, api.View{Off: r.Intn(48), Desc: d})
	}
	for len(p.Code) < 12 {
		n := api.Instr{Op: 2 + r.Intn(23), From: r.Intn(3), To: 2 + r.Intn(3)}
		for range op.Ins(n.Op) {
			n.Ins = append(n.Ins, r.Intn(12))
		}
		for range op.Args(n.Op) {
			n.Args = append(n.Args, 1+r.Intn(3))
		}
		n.Dst = r.Intn(12)
		switch n.Op {
		case api.Const, api.Weight:
			n.Args = []int{0}
		case api.Reshape:
			n.Args = []int{2, 2}
		case api.Jump, api.JumpZero, api.Halt:
			n = api.Instr{Op: n.Op}
			if n.Op != api.Halt {
				n.Args = []int{r.Intn(len(p.Code) + 1)}
			}
			if n.Op == api.JumpZero {
				n.Ins = []int{r.Intn(12)}
			}
		}
		if p.Code = append(p.Code, n); check.Instr(p, len(p.Code)-1) != nil {
			p.Code = p.Code[:len(p.Code)-1]
		}
	}
	return p
}

// model does the words of the chapter on a memory of its own.
func model(p api.Plan, w []api.Tensor, mem []byte, n api.Instr) {
	v := p.Views[n.Dst]
	var t api.Tensor
	switch n.Op {
	case api.Const:
		t = p.Consts[n.Args[0]]
	case api.Weight:
		t = w[n.Args[0]]
	default:
		var ins []api.Tensor
		for _, i := range n.Ins {
			u := p.Views[i]
			x, _ := tens.Of(u.Desc, mem[u.Off:u.Off+len(tens.Raw(zero(u.Desc)))])
			ins = append(ins, x)
		}
		t, _ = op.Apply(n.Op, n.Args, ins...)
	}
	raw := tens.Raw(t)
	size := len(raw) / len(t.Data)
	copy(mem[v.Off+size*n.From:], raw[size*n.From:size*n.To])
}

func zero(d api.Desc) api.Tensor { t, _ := tens.Zero(d); return t }

// P16.2, P16.4
func TestRandomPlans(t *testing.T) {
	r := rand.New(rand.NewSource(1))
	for range 300 {
		p := random(r)
		if err := check.Valid(p); err != nil {
			t.Fatal(err)
		}
		w, in := []api.Tensor{of(wide(2, 2), 1, -1, 1<<30, 5)}, zero(p.Views[0].Desc)
		for i := range in.Data {
			in.Data[i] = r.Intn(256) - 128
		}
		fuel := r.Intn(200)
		m, err := New(p, w, in, fuel)
		if err != nil {
			t.Fatal(err)
		}
		whole, pieces, read := m.Clone(), m.Clone(), m.Clone()
		if back, err := plan.Bytes(p); err == nil {
			q, _ := plan.Read(back)
			read, _ = New(q, w, in, fuel)
		}
		mem := m.Memory()
		for m.State() == Running {
			at, n := m.At(), api.Instr{Op: api.Halt}
			if at < len(p.Code) {
				n = p.Code[at]
			}
			uses := m.Next()
			m.Step()
			if uses > 0 && n.Op != api.Jump && n.Op != api.JumpZero {
				model(p, w, mem, n)
			}
			if !bytes.Equal(mem, m.Memory()) {
				t.Fatal(n, mem, m.Memory())
			}
		}
		whole.Run(fuel)
		read.Run(math.MaxInt)
		for pieces.State() == Running {
			pieces.Run(r.Intn(6))
		}
		if !whole.Same(m) || !pieces.Same(m) || !read.Same(m) || m.Used() > fuel {
			t.Fatal("in pieces it comes to another thing")
		}
	}
}
