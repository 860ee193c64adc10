package cells

import (
	"lodge/api"
	"lodge/tens"
)

// Reach is how many places a window of size k, that goes on by stride, has in n and pad on both sides.
func Reach(n, k, stride, pad int) int { return (n+2*pad-k)/stride + 1 }

// Inside is which places of a window of size k, from and below to, lie in n at the answer's o.
func Inside(n, k, stride, pad, o int) (int, int) {
	first := o*stride - pad
	from, to := max(0, -first), min(k, n-first)
	if from >= to {
		return 0, 0
	}
	return from, to
}

// conv fills out with elements of a without za under the kernel k.
func conv(out []int, from int, a, k api.Tensor, stride, pad, za int) {
	h, w, c, n := a.Shape[0], a.Shape[1], a.Shape[2], k.Shape[3]
	ow := Reach(w, k.Shape[1], stride, pad)
elements:
	for i := range out {
		y, x, o := (from+i)/n/ow, (from+i)/n%ow, (from+i)%n
		dy, toY := Inside(h, k.Shape[0], stride, pad, y)
		fromX, toX := Inside(w, k.Shape[1], stride, pad, x)
		sum := 0
		for ; ; dy++ {
			if dy >= toY {
				out[i] = tens.Wide(sum)
				continue elements
			}
			for dx := fromX; dx < toX; dx++ {
				at := ((y*stride-pad+dy)*w + x*stride - pad + dx) * c
				weight := (dy*k.Shape[1]+dx)*c*n + o
				for ch := range c {
					sum += (a.Data[at+ch] - za) * k.Data[weight+ch*n]
				}
			}
		}
	}
}
