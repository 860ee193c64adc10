package cells

import (
	"lodge/api"
	"lodge/quant"
	"lodge/tens"
)

// Value is what op makes of x (and y); wide tells of what kind they are.
func Value(op int, wide bool, x, y int, args []int) int {
	switch op {
	case api.Add:
		return kept(wide, x+y)
	case api.Sub:
		return kept(wide, x-y)
	case api.Mul:
		return kept(wide, x*y)
	case api.Max:
		return max(x, y)
	case api.Relu:
		return max(x, 0)
	case api.Clamp:
		return max(args[0], min(x, args[1]))
	case api.Requant:
		return quant.Requant(x, args[0], args[1], args[2])
	case api.Widen:
		return x - args[0]
	}
	return 0
}

// kept is n as a number of its kind: wide ones go round, narrow ones are cut.
func kept(wide bool, n int) int {
	if wide {
		return tens.Wide(n)
	}
	return tens.Narrow(n)
}

// pointwise fills out with what op makes of the elements of one place.
func pointwise(out []int, from, op int, args []int, ins []api.Tensor) {
	a := ins[0]
	b := ins[len(ins)-1] // of one tensor alone nobody looks at it
	for i := range out {
		out[i] = Value(op, a.Wide, a.Data[from+i], b.Data[from+i], args)
	}
}
