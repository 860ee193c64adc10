package plan

import (
	"lodge/api"
	"lodge/fault"
	"lodge/pack"
	"lodge/tens"
)

// Read is the plan of which b is the Bytes.
func Read(b []byte) (api.Plan, error) {
	r := pack.Read(b)
	if begin := r.Piece(len(magic)); string(begin) != magic {
		r.Fail(fault.At(0, api.ErrKind))
	}
	p := api.Plan{Size: r.Signed()}
	for range r.Count(pack.Two, api.MaxViews, api.ErrMany) {
		p.Views = append(p.Views, api.View{Off: r.Signed(), Desc: r.Desc()})
	}
	for i := range r.Count(pack.Two, api.MaxNodes, api.ErrMany) {
		t, n, err := tens.Read(r.Rest())
		r.Took(n, err, i)
		p.Consts = append(p.Consts, t)
	}
	for range r.Count(pack.Two, api.MaxWeights, api.ErrMany) {
		p.Weights = append(p.Weights, r.Desc())
	}
	for range r.Count(pack.Two, api.MaxCode, api.ErrMany) {
		p.Code = append(p.Code, instr(r))
	}
	p.Input = r.Signed()
	p.Output = r.Signed()
	r.End()
	if err := r.Err(); err != nil {
		return api.Plan{}, err
	}
	return p, nil
}

// Instr is the instruction at b's beginning, and how many bytes it has there.
func Instr(b []byte) (api.Instr, int, error) {
	r := pack.Read(b)
	n := instr(r)
	if err := r.Err(); err != nil {
		return api.Instr{}, 0, err
	}
	return n, r.At(), nil
}

func instr(r *pack.Reader) api.Instr {
	var n api.Instr
	n.Op = r.Number(pack.Byte)
	n.Dst = r.Signed()
	n.Ins = numbers(r)
	n.Args = numbers(r)
	n.From = r.Signed()
	n.To = r.Signed()
	return n
}

func numbers(r *pack.Reader) []int {
	var out []int
	for range r.Count(pack.Byte, api.MaxArgs, api.ErrMany) {
		out = append(out, r.Signed())
	}
	return out
}
