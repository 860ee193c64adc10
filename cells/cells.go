// Package cells: what the elements of an operation's answer come to, whether all are asked for or a few.
//
// Its callers have seen to it that the op, args and ins may be; nothing is looked at again here.
package cells

import (
	"lodge/api"
	"lodge/shape"
)

// All is the whole answer, that looks like d.
func All(d api.Desc, op int, args []int, ins ...api.Tensor) api.Tensor {
	return api.Tensor{Desc: shape.Clone(d), Data: Of(op, args, 0, shape.Elems(d.Shape...), ins...)}
}

// One is the element i of the answer, that looks like d; of a place that is none 0.
func One(d api.Desc, i, op int, args []int, ins ...api.Tensor) int {
	if i < 0 || i >= shape.Elems(d.Shape...) {
		return 0
	}
	return Of(op, args, i, i+1, ins...)[0]
}

// Of is the elements from from to below to of the answer.
func Of(op int, args []int, from, to int, ins ...api.Tensor) []int {
	out := make([]int, 0, to-from)
	for i := from; i < to; i++ {
		out = append(out, element(op, args, i, ins))
	}
	return out
}

// element is the element i of the answer.
func element(op int, args []int, i int, ins []api.Tensor) int {
	switch op {
	default:
		return pointwise(op, args, i, ins)
	}
}
