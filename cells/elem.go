package cells

import (
	"lodge/api"
	"lodge/quant"
	"lodge/tens"
)

// Value is what op makes of x (and y); wide tells of what kind they are.
func Value(op int, wide bool, x, y int, args []int) int {
	switch op {
	case api.Add:
		return kept(wide, x+y)
	case api.Sub:
		return kept(wide, x-y)
	case api.Mul:
		return kept(wide, x*y)
	case api.Max:
		return max(x, y)
	case api.Relu:
		return max(x, 0)
	case api.Clamp:
		return max(args[0], min(x, args[1]))
	case api.Requant:
		return quant.Requant(x, args[0], args[1], args[2])
	case api.Widen:
		return x - args[0]
	}
	return 0
}

// kept is n as a number of its kind: wide ones go round, narrow ones are cut.
func kept(wide bool, n int) int {
	if wide {
		return tens.Wide(n)
	}
	return tens.Narrow(n)
}

func pointwise(op int, args []int, i int, ins []api.Tensor) int {
	a := ins[0]
	y := 0
	if len(ins) > 1 {
		y = ins[1].Data[i]
	}
	return Value(op, a.Wide, a.Data[i], y, args)
}
