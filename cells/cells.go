// Package cells: what the elements of an operation's answer come to, whether all are asked for or a few.
//
// Its callers have seen to it that the op, args and ins may be; but for Looks, nothing is looked at again here.
package cells

import (
	"lodge/api"
	"lodge/shape"
	"lodge/tens"
)

// Looks is what tensors look like, or the error of the first that may not be.
func Looks(ins ...api.Tensor) ([]api.Desc, error) {
	var out []api.Desc
	for _, t := range ins {
		if err := tens.Valid(t); err != nil {
			return nil, err
		}
		out = append(out, t.Desc)
	}
	return out, nil
}

// All is the whole answer, that looks like d, and has d's shape.
func All(d api.Desc, op int, args []int, ins ...api.Tensor) api.Tensor {
	return api.Tensor{Desc: d, Data: Of(op, args, 0, shape.Elems(d.Shape...), ins...)}
}

// One is the element i of the answer, that looks like d; of a place that is none 0.
func One(d api.Desc, i, op int, args []int, ins ...api.Tensor) int {
	if i < 0 || i >= shape.Elems(d.Shape...) {
		return 0
	}
	return Of(op, args, i, i+1, ins...)[0]
}

// Pointwise is whether each element hangs on those of its own place alone.
func Pointwise(op int) bool { return op >= api.Add && op <= api.Widen || op == api.Reshape }

// Of is the elements from from to below to of the answer.
func Of(op int, args []int, from, to int, ins ...api.Tensor) []int {
	out := make([]int, to-from)
	fill(out, from, op, args, ins)
	return out
}

// fill lays the elements from from on into out, as many as it has.
func fill(out []int, from, op int, args []int, ins []api.Tensor) {
	switch op {
	case api.MatMul:
		matmul(out, from, ins[0], ins[1], args[0], args[1])
	case api.Turn:
		turn(out, from, ins[0])
	case api.Conv:
		conv(out, from, ins[0], ins[1], args[0], args[1], args[2])
	case api.MaxPool, api.AvgPool:
		pool(out, from, op == api.AvgPool, ins[0], args[0], args[1])
	case api.Softmax:
		softmax(out, from, ins[0], ins[1])
	case api.ArgMax:
		argmax(out, from, ins[0])
	case api.Sum:
		sum(out, from, ins[0])
	case api.Gather:
		gather(out, from, ins[0], ins[1])
	case api.Reshape:
		copy(out, ins[0].Data[from:])
	default:
		pointwise(out, from, op, args, ins)
	}
}
