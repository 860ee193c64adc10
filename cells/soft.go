package cells

import (
	"slices"

	"lodge/api"
	"lodge/tens"
)

// The answer of softmax is narrow: its parts of 255 begin at the lowest number.
const (
	parts  = 255
	lowest = -128
)

// row is the elements of a that differ in the last dimension alone, those of place i.
func row(a api.Tensor, i int) []int {
	n := a.Shape[len(a.Shape)-1]
	return a.Data[i*n : (i+1)*n]
}

// softmax fills out with each element's part of its row, by the table's weights.
func softmax(out []int, from int, a, table api.Tensor) {
	n := a.Shape[len(a.Shape)-1]
elements:
	for i := range out {
		l := row(a, (from+i)/n)
		most := slices.Max(l)
		w, s := weight(table, most-l[(from+i)%n]), 0
		for k := 0; ; k++ {
			switch {
			case k < n:
				s += weight(table, most-l[k])
				continue
			case s == 0:
				out[i] = lowest
			default:
				out[i] = (parts*w+s/2)/s + lowest
			}
			continue elements
		}
	}
}

// weight is the table's number for what is by so much below the greatest.
func weight(table api.Tensor, by int) int { return max(0, table.Data[by]) }

// argmax fills out with the place of the greatest of each row, the first.
func argmax(out []int, from int, a api.Tensor) {
	for i := range out {
		l := row(a, from+i)
		out[i] = slices.Index(l, slices.Max(l))
	}
}

// sum fills out with the sum of each row.
func sum(out []int, from int, a api.Tensor) {
	for i := range out {
		s := 0
		for _, x := range row(a, from+i) {
			s += x
		}
		out[i] = tens.Wide(s)
	}
}

// gather fills out with elements of the rows of a that at names.
func gather(out []int, from int, a, at api.Tensor) {
	n, d := a.Shape[0], a.Shape[1]
	for i := range out {
		k := max(0, min(at.Data[(from+i)/d], n-1))
		out[i] = row(a, k)[(from+i)%d]
	}
}
