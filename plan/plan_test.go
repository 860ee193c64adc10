package plan

import (
	"bytes"
	"math"
	"math/rand"
	"slices"
	"testing"

	"lodge/api"
)

func narrow(l ...int) api.Desc { return api.Desc{Shape: l} }
func wide(l ...int) api.Desc   { return api.Desc{Shape: l, Wide: true} }

func of(d api.Desc, data ...int) api.Tensor { return api.Tensor{Desc: d, Data: data} }

func sample() api.Plan {
	return api.Plan{
		Size:    300,
		Views:   []api.View{{Off: 4, Desc: narrow(2)}, {Off: -1, Desc: wide(2, 65535)}, {Desc: narrow()}},
		Consts:  []api.Tensor{of(narrow(), 5), of(wide(2), -1, 70000)},
		Weights: []api.Desc{wide(0, 1, 2, 3, 4, 5, 6), narrow()},
		Code:    []api.Instr{{Op: api.Add, Dst: 2, Ins: []int{0, -1}, Args: []int{math.MinInt32, math.MaxInt32}, From: -3, To: 9}, {Op: 255}},
		Input:   -7,
		Output:  math.MaxInt32,
	}
}

// told tells whether err is want around place, or alone, if place is -1.
func told(err, want error, place int) bool {
	if at, ok := err.(*api.At); ok {
		return at.Pos == place && at.Err == want
	}
	return err == want && place < 0
}

// alone is a plan of one instruction.
func alone(n api.Instr) api.Plan { return api.Plan{Code: []api.Instr{n}} }

// P14.1
func TestBytes(t *testing.T) {
	if b, err := Bytes(api.Plan{}); err != nil || !bytes.Equal(b, append([]byte("LP"), make([]byte, 20)...)) {
		t.Error(b, err)
	}
	want := []byte{
		'L', 'P', 44, 1, 0, 0,
		3, 0, 4, 0, 0, 0, 1, 2, 0, 255, 255, 255, 255, 10, 2, 0, 255, 255, 0, 0, 0, 0, 0,
		2, 0, 0, 5, 9, 2, 0, 255, 255, 255, 255, 0x70, 0x11, 1, 0,
		2, 0, 15, 0, 0, 1, 0, 2, 0, 3, 0, 4, 0, 5, 0, 6, 0, 0,
		2, 0, 4, 2, 0, 0, 0, 2, 0, 0, 0, 0, 255, 255, 255, 255, 2, 0, 0, 0, 128, 255, 255, 255, 127, 253, 255, 255, 255, 9, 0, 0, 0,
		255, 0, 0, 0, 0, 0, 0, 0, 0, 0, 0, 0, 0, 0, 0,
		249, 255, 255, 255, 255, 255, 255, 127,
	}
	got, err := Bytes(sample())
	if err != nil || !bytes.Equal(got, want) {
		t.Fatal(got, err)
	}
	code, err := Code(sample().Code...)
	if err != nil || !bytes.Equal(code, want[64:64+46]) {
		t.Error(code, err)
	}
	if code, err := Code(); len(code) != 0 || err != nil {
		t.Error(code, err)
	}
	n, size, err := Instr(append(code, 1, 2, 3))
	if err != nil || size != 31 || !Same(alone(n), alone(sample().Code[0])) {
		t.Error(n, size, err)
	}
}

// P14.1
func TestBytesRefuses(t *testing.T) {
	many := func(n int) []int { return make([]int, n) }
	instr := func(n api.Instr) api.Plan { return api.Plan{Code: []api.Instr{{}, n}} }
	wrong := api.Instr{From: 1 << 31}
	for i, x := range []struct {
		p     api.Plan
		err   error
		place int
	}{
		{api.Plan{Size: 1 << 40, Views: make([]api.View, api.MaxViews+1)}, api.ErrMany, -1},
		{api.Plan{Consts: make([]api.Tensor, api.MaxNodes+1)}, api.ErrMany, -1},
		{api.Plan{Weights: make([]api.Desc, api.MaxWeights+1)}, api.ErrMany, -1},
		{api.Plan{Code: make([]api.Instr, api.MaxCode+1)}, api.ErrMany, -1},
		{instr(api.Instr{Op: -1, Ins: many(9)}), api.ErrMany, -1}, {instr(api.Instr{Args: many(9)}), api.ErrMany, -1},
		{api.Plan{Views: []api.View{{Off: 1 << 40, Desc: narrow(many(8)...)}}}, api.ErrMany, -1}, {api.Plan{Weights: []api.Desc{narrow(many(8)...)}}, api.ErrMany, -1},
		{api.Plan{Size: 1 << 31}, api.ErrRange, -1}, {api.Plan{Input: -1<<31 - 1}, api.ErrRange, -1}, {api.Plan{Output: math.MaxInt}, api.ErrRange, -1},
		{api.Plan{Views: []api.View{{Off: 1 << 31}}}, api.ErrRange, -1}, {api.Plan{Views: []api.View{{Desc: narrow(65536)}}}, api.ErrRange, -1}, {api.Plan{Views: []api.View{{Desc: narrow(-1)}}}, api.ErrRange, -1},
		{api.Plan{Weights: []api.Desc{narrow(65536)}}, api.ErrRange, -1}, {api.Plan{Weights: []api.Desc{narrow(1, -1)}}, api.ErrRange, -1},
		{instr(api.Instr{Op: -1}), api.ErrRange, -1}, {instr(api.Instr{Op: 256}), api.ErrRange, -1}, {instr(wrong), api.ErrRange, -1}, {instr(api.Instr{To: -1 << 40}), api.ErrRange, -1}, {instr(api.Instr{Dst: 1 << 31}), api.ErrRange, -1}, {instr(api.Instr{Ins: []int{1 << 31}}), api.ErrRange, -1}, {instr(api.Instr{Args: []int{0, 1 << 31}}), api.ErrRange, -1},
		{api.Plan{Consts: []api.Tensor{of(narrow(), 500)}, Code: []api.Instr{wrong}}, api.ErrRange, -1},
		{api.Plan{Consts: []api.Tensor{of(narrow(), 5), of(narrow(2), 1, 500), of(narrow(0))}}, api.ErrRange, 1},
		{api.Plan{Consts: []api.Tensor{of(narrow(), 5), of(narrow(1)), of(narrow(2), 1, 500)}}, api.ErrShape, -1},
		{api.Plan{Consts: []api.Tensor{of(narrow(many(8)...))}}, api.ErrMany, -1},
	} {
		if b, err := Bytes(x.p); !told(err, x.err, x.place) || b != nil {
			t.Error(i, b, err)
		}
	}
	if _, err := Code(api.Instr{Ins: many(9)}); err != api.ErrMany {
		t.Error(err)
	}
	if _, err := Code(api.Instr{Ins: many(8), Args: many(8)}); err != nil {
		t.Error(err)
	}
	if _, err := Code(make([]api.Instr, api.MaxCode+1)...); err != api.ErrMany {
		t.Error(err)
	}
	if _, err := Code(wrong); err != api.ErrRange {
		t.Error(err)
	}
	if _, err := Bytes(api.Plan{Views: make([]api.View, api.MaxViews), Consts: slices.Repeat([]api.Tensor{of(narrow(), 1)}, api.MaxNodes), Weights: make([]api.Desc, api.MaxWeights), Code: make([]api.Instr, api.MaxCode)}); err != nil {
		t.Error(err)
	}
}

// P14.2
func TestReadRefuses(t *testing.T) {
	whole, _ := Bytes(sample())
	for n := range whole {
		if p, err := Read(whole[:n]); err != api.ErrEnd || !Same(p, api.Plan{}) {
			t.Error(n, err)
		}
	}
	set := func(at int, l ...byte) []byte {
		b := bytes.Clone(whole)
		copy(b[at:], l)
		return b
	}
	for i, x := range []struct {
		b     []byte
		err   error
		place int
	}{
		{[]byte("L"), api.ErrEnd, -1}, {[]byte("x"), api.ErrEnd, -1}, {nil, api.ErrEnd, -1},
		{[]byte("LG"), api.ErrKind, 0}, {[]byte("lP"), api.ErrKind, 0}, {set(0, 'P', 'L'), api.ErrKind, 0},
		{set(6, 129), api.ErrMany, 6}, {set(6, 0, 1), api.ErrMany, 6}, {set(6, 129, 0)[:8], api.ErrMany, 6}, {set(6, 129, 0)[:7], api.ErrEnd, -1},
		{set(12, 16), api.ErrKind, 12}, {set(12, 16)[:13], api.ErrKind, 12}, {set(28, 255), api.ErrKind, 28},
		{set(29, 65), api.ErrMany, 29},
		{set(31, 16), api.ErrKind, 0}, {set(33, 17), api.ErrKind, 1}, {set(33, 9, 0, 0), api.ErrRange, 1}, {set(33, 9, 1, 1), api.ErrRange, 1},
		{set(33, 13, 0, 0, 0, 0, 0, 0, 0, 0, 0, 0), api.ErrMany, 1},
		{set(44, 9), api.ErrMany, 44}, {set(46, 16), api.ErrKind, 46},
		{set(62, 1, 8), api.ErrMany, 62}, {set(69, 9), api.ErrMany, 69}, {set(78, 9), api.ErrMany, 78},
		{append(bytes.Clone(whole), 0), api.ErrMany, len(whole)}, {append(bytes.Clone(whole), 0, 9, 9), api.ErrMany, len(whole)},
	} {
		if p, err := Read(x.b); !told(err, x.err, x.place) || !Same(p, api.Plan{}) {
			t.Error(i, err)
		}
	}
}

// P14.2
func TestInstrRefuses(t *testing.T) {
	b, _ := Code(sample().Code[0])
	for n := range b {
		if got, k, err := Instr(b[:n]); err != api.ErrEnd || k != 0 || !Same(alone(got), alone(api.Instr{})) {
			t.Error(n, err)
		}
	}
	b[5] = 9
	if _, k, err := Instr(b); !told(err, api.ErrMany, 5) || k != 0 {
		t.Error(k, err)
	}
	if _, _, err := Instr(b[:6]); !told(err, api.ErrMany, 5) {
		t.Error(err)
	}
}

// P14.2
func TestSameAndClone(t *testing.T) {
	a := sample()
	c := Clone(a)
	if !Same(a, c) || !Same(api.Plan{}, api.Plan{Views: []api.View{}, Code: []api.Instr{}}) {
		t.Fatal("Clone")
	}
	for i, change := range []func(p *api.Plan){
		func(p *api.Plan) { p.Size++ }, func(p *api.Plan) { p.Input++ }, func(p *api.Plan) { p.Output-- },
		func(p *api.Plan) { p.Views[0].Off++ }, func(p *api.Plan) { p.Views[0].Wide = true }, func(p *api.Plan) { p.Views[0].Shape[0]++ }, func(p *api.Plan) { p.Views = p.Views[1:] },
		func(p *api.Plan) { p.Consts[0].Data[0]++ }, func(p *api.Plan) { p.Consts[1].Shape[0]++ }, func(p *api.Plan) { p.Weights[0].Shape[1]++ }, func(p *api.Plan) { p.Weights[1].Wide = true },
		func(p *api.Plan) { p.Code[0].Op++ }, func(p *api.Plan) { p.Code[0].Dst++ }, func(p *api.Plan) { p.Code[0].Ins[0]++ }, func(p *api.Plan) { p.Code[0].Args[1]-- }, func(p *api.Plan) { p.Code[0].From++ }, func(p *api.Plan) { p.Code[1].To++ },
	} {
		c := Clone(a)
		change(&c)
		if Same(a, c) || !Same(a, sample()) {
			t.Error(i)
		}
	}
}

// P14.3
func TestThereAndBack(t *testing.T) {
	r := rand.New(rand.NewSource(1))
	whole, _ := Bytes(sample())
	if p, err := Read(whole); err != nil || !Same(p, sample()) {
		t.Fatal(p, err)
	}
	read := 0
	for range 20000 {
		b := bytes.Clone(whole)
		for range 1 + r.Intn(3) {
			b[r.Intn(len(b))] = byte(r.Intn(20))
		}
		p, err := Read(b)
		if err != nil {
			continue
		}
		read++
		if back, err := Bytes(p); err != nil || !bytes.Equal(back, b) {
			t.Fatal(back, err)
		}
	}
	if read < 100 {
		t.Error("too few", read)
	}
}
