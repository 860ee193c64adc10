package pool

import (
	"math"
	"math/rand"
	"testing"

	"lodge/api"
	"lodge/shape"
	"lodge/tens"
)

func narrow(l ...int) api.Desc { return api.Desc{Shape: l} }
func wide(l ...int) api.Desc   { return api.Desc{Shape: l, Wide: true} }

func of(d api.Desc, data ...int) api.Tensor { return api.Tensor{Desc: d, Data: data} }

// P10.1
func TestResult(t *testing.T) {
	for i, x := range []struct {
		args []int
		a    api.Desc
		want api.Desc
		err  error
	}{
		{[]int{2, 1}, narrow(4, 5, 3), narrow(3, 4, 3), nil}, {[]int{2, 2}, wide(5, 4, 3), wide(2, 2, 3), nil}, {[]int{16, 16}, narrow(16, 16, 1), narrow(1, 1, 1), nil}, {[]int{1, 16}, narrow(2, 17, 1), narrow(1, 2, 1), nil},
		{[]int{2}, narrow(0), narrow(), api.ErrShape}, {[]int{2, 1, 0}, narrow(4, 4, 1), narrow(), api.ErrShape}, {nil, narrow(4, 4, 1), narrow(), api.ErrShape},
		{[]int{0, 0}, narrow(0), narrow(), api.ErrRange}, {[]int{0, 0}, narrow(1, 1, 1, 1, 1), narrow(), api.ErrMany},
		{[]int{0, 0}, narrow(4, 4), narrow(), api.ErrShape}, {[]int{1, 1}, narrow(4, 4, 1, 1), narrow(), api.ErrShape},
		{[]int{0, 1}, narrow(4, 4, 1), narrow(), api.ErrRange}, {[]int{17, 1}, narrow(4, 4, 1), narrow(), api.ErrRange}, {[]int{1, 0}, narrow(4, 4, 1), narrow(), api.ErrRange}, {[]int{9, 17}, narrow(4, 4, 1), narrow(), api.ErrRange}, {[]int{math.MinInt, math.MaxInt}, narrow(4, 4, 1), narrow(), api.ErrRange},
		{[]int{5, 1}, narrow(4, 9, 1), narrow(), api.ErrShape}, {[]int{5, 1}, narrow(9, 4, 1), narrow(), api.ErrShape},
	} {
		if d, err := Result(x.args, x.a); err != x.err || !shape.Same(d, x.want) {
			t.Error(i, d, err)
		}
	}
}

// P10.1
func TestMaxAndAvg(t *testing.T) {
	a := of(narrow(2, 2, 1), 1, 2, 3, 4)
	if got, err := Avg(a, 2, 1); err != nil || !tens.Same(got, of(narrow(1, 1, 1), 3)) {
		t.Error(got, err)
	}
	if got, err := Max(a, 2, 1); err != nil || !tens.Same(got, of(narrow(1, 1, 1), 4)) {
		t.Error(got, err)
	}
	for i, x := range [][2]int{{-10, -2}, {-9, -2}, {-11, -3}, {10, 3}, {-2, 0}, {2, 1}, {0, 0}} { // means of four, by halves: up
		if got := Cell(true, of(narrow(2, 2, 1), x[0], 0, 0, 0), 0, 2, 1); got != x[1] {
			t.Error(i, got)
		}
	}
	low := of(wide(1, 1, 1), math.MinInt32)
	for _, avg := range []bool{false, true} {
		if Cell(avg, low, 0, 1, 1) != math.MinInt32 {
			t.Error("one of one")
		}
	}
}

// P10.1
func TestAgainstWords(t *testing.T) {
	r := rand.New(rand.NewSource(1))
	for range 200 {
		size, stride := 1+r.Intn(4), 1+r.Intn(4)
		d := api.Desc{Shape: []int{size + r.Intn(5), size + r.Intn(5), 1 + r.Intn(3)}, Wide: r.Intn(2) == 0}
		a, _ := tens.Zero(d)
		for i := range a.Data {
			a.Data[i] = r.Intn(256) - 128
			if d.Wide {
				a.Data[i] = int(int32(r.Uint32()))
			}
		}
		look, err := Result([]int{size, stride}, d)
		most, err2 := Max(a, size, stride)
		mean, err3 := Avg(a, size, stride)
		if err != nil || err2 != nil || err3 != nil || !shape.Same(look, most.Desc) || !shape.Same(look, mean.Desc) {
			t.Fatal(err, err2, err3)
		}
		for i, at := range shape.Each(look.Shape...) {
			sum, greatest := 0, math.MinInt
			for _, by := range shape.Each(size, size) {
				v, _ := tens.Get(a, at[0]*stride+by[0], at[1]*stride+by[1], at[2])
				sum += v
				greatest = max(greatest, v)
			}
			n := size * size
			want := int(math.Floor(float64(2*sum+n) / float64(2*n)))
			if most.Data[i] != greatest || Cell(false, a, i, size, stride) != greatest || mean.Data[i] != want || Cell(true, a, i, size, stride) != want {
				t.Fatal(i, most.Data[i], greatest, mean.Data[i], want)
			}
		}
		if Cell(true, a, -1, size, stride) != 0 || Cell(false, a, len(most.Data), size, stride) != 0 || Cell(false, a, 0) != 0 {
			t.Error("Cell of none")
		}
	}
}

// P10.1
func TestRefuses(t *testing.T) {
	bad := of(narrow(1, 1, 1), 128)
	for i, do := range []func(api.Tensor, ...int) (api.Tensor, error){Max, Avg} {
		if got, err := do(bad); err == nil || err.Error() != "0: "+api.ErrRange.Error() || got.Data != nil {
			t.Error(i, got, err)
		}
		if got, err := do(of(narrow(1, 1, 1), 1)); err != api.ErrShape || got.Data != nil || got.Shape != nil {
			t.Error(i, got, err)
		}
	}
	if Cell(true, bad, 0, 1, 1) != 0 {
		t.Error("Cell")
	}
}
