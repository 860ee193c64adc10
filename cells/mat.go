package cells

import (
	"lodge/api"
	"lodge/tens"
)

// matmul fills out with elements of the product of a without za and b without zb.
func matmul(out []int, from int, a, b api.Tensor, za, zb int) {
	inner, n := b.Shape[0], b.Shape[1]
elements:
	for i := range out {
		row, column := (from+i)/n, (from+i)%n
		sum := 0
		for k := 0; ; k++ {
			if k == inner {
				out[i] = tens.Wide(sum)
				continue elements
			}
			sum += (a.Data[row*inner+k] - za) * (b.Data[k*n+column] - zb)
		}
	}
}

// turn fills out with elements of a, turned.
func turn(out []int, from int, a api.Tensor) {
	m, n := a.Shape[0], a.Shape[1]
	for i := range out {
		row, column := (from+i)/m, (from+i)%m
		out[i] = a.Data[column*n+row]
	}
}
