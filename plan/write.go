package plan

import (
	"slices"

	"lodge/api"
	"lodge/pack"
	"lodge/tens"
)

// magic is how a plan's bytes begin.
const magic = "LP"

// The bounds of what the bytes can hold.
const (
	maxDims = 7
	maxDim  = 1<<16 - 1
	maxOp   = 1<<8 - 1
)

// Bytes is p as bytes.
func Bytes(p api.Plan) ([]byte, error) {
	if err := writable(p); err != nil {
		return nil, err
	}
	b := pack.Append([]byte(magic), pack.Four, p.Size)
	b = pack.Append(b, pack.Two, len(p.Views))
	for _, v := range p.Views {
		b = pack.AppendDesc(pack.Append(b, pack.Four, v.Off), v.Desc)
	}
	b = pack.Append(b, pack.Two, len(p.Consts))
	for _, t := range p.Consts {
		b = append(b, tens.Bytes(t)...)
	}
	b = pack.Append(b, pack.Two, len(p.Weights))
	for _, d := range p.Weights {
		b = pack.AppendDesc(b, d)
	}
	b = pack.Append(b, pack.Two, len(p.Code))
	b = appendCode(b, p.Code)
	return pack.Append(pack.Append(b, pack.Four, p.Input), pack.Four, p.Output), nil
}

// Code is instructions alone as bytes.
func Code(l ...api.Instr) ([]byte, error) {
	p := api.Plan{Code: l}
	if err := writable(p); err != nil {
		return nil, err
	}
	return appendCode(nil, l), nil
}

func appendCode(b []byte, l []api.Instr) []byte {
	for _, n := range l {
		b = pack.Append(pack.Append(b, pack.Byte, n.Op), pack.Four, n.Dst)
		for _, numbers := range [][]int{n.Ins, n.Args} {
			b = pack.Append(b, pack.Byte, len(numbers))
			for _, x := range numbers {
				b = pack.Append(b, pack.Four, x)
			}
		}
		b = pack.Append(pack.Append(b, pack.Four, n.From), pack.Four, n.To)
	}
	return b
}

// writable tells why p can't be written.
func writable(p api.Plan) error {
	if tooMany(p) {
		return api.ErrMany
	}
	if !inRange(p) {
		return api.ErrRange
	}
	for _, t := range p.Consts {
		if err := tens.Valid(t); err != nil {
			return err
		}
	}
	return nil
}

// descs is what p's views and weights look like.
func descs(p api.Plan) []api.Desc {
	var out []api.Desc
	for _, v := range p.Views {
		out = append(out, v.Desc)
	}
	return append(out, p.Weights...)
}

// tooMany is whether p has more of something than there may be.
func tooMany(p api.Plan) bool {
	if len(p.Views) > api.MaxViews || len(p.Consts) > api.MaxNodes || len(p.Weights) > api.MaxWeights || len(p.Code) > api.MaxCode {
		return true
	}
	return slices.ContainsFunc(p.Code, func(n api.Instr) bool {
		return len(n.Ins) > api.MaxArgs || len(n.Args) > api.MaxArgs
	}) || slices.ContainsFunc(descs(p), func(d api.Desc) bool { return len(d.Shape) > maxDims })
}

// inRange is whether all of p's numbers have room in their bytes.
func inRange(p api.Plan) bool {
	if !fitsWide(p.Size, p.Input, p.Output) {
		return false
	}
	for _, v := range p.Views {
		if !fitsWide(v.Off) {
			return false
		}
	}
	for _, d := range descs(p) {
		if slices.ContainsFunc(d.Shape, func(n int) bool { return n < 0 || n > maxDim }) {
			return false
		}
	}
	return !slices.ContainsFunc(p.Code, func(n api.Instr) bool {
		return n.Op < 0 || n.Op > maxOp || !fitsWide(n.Dst, n.From, n.To) || !fitsWide(n.Ins...) || !fitsWide(n.Args...)
	})
}

// fitsWide is whether all of l are wide.
func fitsWide(l ...int) bool {
	return !slices.ContainsFunc(l, func(n int) bool { return tens.Wide(n) != n })
}
