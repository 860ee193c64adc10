package cells

import "lodge/api"

// pool fills out with the greatest, or the mean, of windows of a.
func pool(out []int, from int, avg bool, a api.Tensor, size, stride int) {
	w, c := a.Shape[1], a.Shape[2]
	ow := Reach(w, size, stride, 0)
elements:
	for i := range out {
		y, x, ch := (from+i)/c/ow*stride, (from+i)/c%ow*stride, (from+i)%c
		first := (y*w+x)*c + ch
		sum, greatest := 0, a.Data[first]
		for k := 0; ; k++ {
			if k == size*size {
				out[i] = greatest
				if avg {
					out[i] = mean(sum, k)
				}
				continue elements
			}
			v := a.Data[first+(k/size*w+k%size)*c]
			sum += v
			greatest = max(greatest, v)
		}
	}
}

// mean is sum by n, n above 0, the nearest whole number, of two the greater one.
func mean(sum, n int) int { return div(2*sum+n, 2*n) }

// div is the greatest whole number not above a by b, b above 0.
func div(a, b int) int {
	q := a / b
	if a%b < 0 {
		q--
	}
	return q
}
