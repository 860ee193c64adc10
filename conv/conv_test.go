package conv

import (
	"math"
	"math/rand"
	"testing"

	"lodge/api"
	"lodge/shape"
	"lodge/tens"
)

func narrow(l ...int) api.Desc { return api.Desc{Shape: l} }
func wide(l ...int) api.Desc   { return api.Desc{Shape: l, Wide: true} }

func of(d api.Desc, data ...int) api.Tensor { return api.Tensor{Desc: d, Data: data} }

func random(r *rand.Rand, l ...int) api.Tensor {
	t, _ := tens.Zero(narrow(l...))
	for i := range t.Data {
		t.Data[i] = r.Intn(256) - 128
	}
	return t
}

// P9.1
func TestResult(t *testing.T) {
	ok := []int{1, 0, 0}
	for i, x := range []struct {
		args []int
		a, k api.Desc
		want []int
		err  error
	}{
		{ok, narrow(5, 4, 2), narrow(3, 2, 2, 7), []int{3, 3, 7}, nil},
		{[]int{2, 1, -128}, narrow(5, 4, 2), narrow(3, 2, 2, 7), []int{3, 3, 7}, nil},
		{[]int{16, 15, 127}, narrow(1, 1, 1), narrow(31, 31, 1, 1), []int{1, 1, 1}, nil},
		{[]int{1, 0}, narrow(0), narrow(0), nil, api.ErrShape}, {nil, narrow(1, 1, 1), narrow(1, 1, 1, 1), nil, api.ErrShape}, {[]int{1, 0, 0, 0}, narrow(1, 1, 1), narrow(1, 1, 1, 1), nil, api.ErrShape},
		{[]int{0, 0, 0}, narrow(0), wide(1, 1, 1, 1, 1), nil, api.ErrRange}, {[]int{0, 0, 0}, narrow(1), narrow(1, 1, 1, 1, 1), nil, api.ErrMany},
		{[]int{0, 0, 0}, narrow(1, 1), narrow(1, 1, 1, 1), nil, api.ErrShape}, {ok, narrow(1, 1, 1), narrow(1, 1, 1), nil, api.ErrShape}, {ok, narrow(1, 1, 1, 1), narrow(1, 1, 1, 1), nil, api.ErrShape},
		{ok, wide(1, 1, 1), narrow(1, 1, 1, 1), nil, api.ErrShape}, {ok, narrow(1, 1, 1), wide(1, 1, 1, 1), nil, api.ErrShape}, {ok, narrow(1, 1, 2), narrow(1, 1, 1, 1), nil, api.ErrShape},
		{[]int{0, 0, 0}, narrow(1, 1, 1), narrow(2, 1, 1, 1), nil, api.ErrRange}, {[]int{17, 0, 0}, narrow(1, 1, 1), narrow(1, 1, 1, 1), nil, api.ErrRange}, {[]int{1, -1, 0}, narrow(1, 1, 1), narrow(1, 1, 1, 1), nil, api.ErrRange}, {[]int{1, 16, 0}, narrow(1, 1, 1), narrow(1, 1, 1, 1), nil, api.ErrRange}, {[]int{1, 0, 128}, narrow(1, 1, 1), narrow(1, 1, 1, 1), nil, api.ErrRange}, {[]int{1, 0, -129}, narrow(1, 1, 1), narrow(1, 1, 1, 1), nil, api.ErrRange},
		{ok, narrow(1, 2, 1), narrow(2, 1, 1, 1), nil, api.ErrShape}, {ok, narrow(2, 1, 1), narrow(1, 2, 1, 1), nil, api.ErrShape}, {[]int{1, 1, 0}, narrow(1, 1, 1), narrow(4, 1, 1, 1), nil, api.ErrShape}, {[]int{1, 1, 0}, narrow(1, 1, 1), narrow(1, 4, 1, 1), nil, api.ErrShape}, {ok, narrow(2, 1, 2), narrow(1, 2, 2, 1), nil, api.ErrShape}, {[]int{1, 1, 0}, narrow(9, 1, 9), narrow(1, 4, 9, 1), nil, api.ErrShape}, {ok, narrow(1, 9, 9), narrow(2, 1, 9, 1), nil, api.ErrShape},
		{[]int{1, 15, 0}, narrow(256, 1, 1), narrow(1, 1, 1, 1), nil, api.ErrRange},
		{ok, narrow(64, 64, 1), narrow(1, 1, 1, 5), nil, api.ErrMany},
	} {
		d, err := Result(x.args, x.a, x.k)
		if err != x.err || err == nil && !shape.Same(d, wide(x.want...)) || err != nil && (d.Shape != nil || d.Wide) {
			t.Error(i, d, err)
		}
	}
}

// plain is element y, x, o in the words of the chapter.
func plain(a, k api.Tensor, stride, pad, za, y, x, o int) int {
	sum := 0
	for _, at := range shape.Each(k.Shape[:3]...) {
		v, ok := tens.Get(a, y*stride-pad+at[0], x*stride-pad+at[1], at[2])
		if ok {
			u, _ := tens.Get(k, at[0], at[1], at[2], o)
			sum += (v - za) * u
		}
	}
	return sum
}

// P9.1
func TestDo(t *testing.T) {
	got, err := Do(of(narrow(1, 3, 1), 1, 2, 1), of(narrow(1, 1, 1, 1), 3), 1, 0, 0)
	if err != nil || !tens.Same(got, of(wide(1, 3, 1), 3, 6, 3)) {
		t.Error(got, err)
	}
	r := rand.New(rand.NewSource(1))
	done := 0
	for range 300 {
		c := 1 + r.Intn(3)
		a := random(r, 1+r.Intn(6), 1+r.Intn(6), c)
		k := random(r, 1+r.Intn(4), 1+r.Intn(4), c, 1+r.Intn(3))
		args := []int{1 + r.Intn(4), r.Intn(4), r.Intn(256) - 128}
		d, err := Result(args, a.Desc, k.Desc)
		got, err2 := Do(a, k, args...)
		if err != err2 || !shape.Same(d, got.Desc) {
			t.Fatal(err, err2, got)
		}
		if err != nil {
			continue
		}
		done++
		for i, at := range shape.Each(d.Shape...) {
			want := plain(a, k, args[0], args[1], args[2], at[0], at[1], at[2])
			if got.Data[i] != want || Cell(a, k, i, args...) != want {
				t.Fatal(args, i, got.Data[i], want)
			}
		}
		if Cell(a, k, -1, args...) != 0 || Cell(a, k, len(got.Data), args...) != 0 || Cell(a, k, 0) != 0 || Cell(a, k, math.MaxInt, args...) != 0 {
			t.Error("Cell of none")
		}
	}
	if done < 100 {
		t.Error("too few", done)
	}
}

// P9.1
func TestDoRefuses(t *testing.T) {
	good, bad := of(narrow(1, 1, 1), 1), of(narrow(1, 1, 1), 999)
	k, badK := of(narrow(1, 1, 1, 1), 1), of(narrow(1, 1, 1, 1), 999)
	for i, x := range []struct {
		a, k api.Tensor
		args []int
		err  string
	}{{bad, k, nil, "0: " + api.ErrRange.Error()}, {good, badK, nil, "0: " + api.ErrRange.Error()}, {good, k, nil, api.ErrShape.Error()}, {good, k, []int{0, 0, 0}, api.ErrRange.Error()}} {
		if got, err := Do(x.a, x.k, x.args...); err == nil || err.Error() != x.err || got.Data != nil || got.Wide {
			t.Error(i, got, err)
		}
		if Cell(x.a, x.k, 0, x.args...) != 0 {
			t.Error(i, "Cell")
		}
	}
}

// P9.2
func TestInside(t *testing.T) {
	for n := -1; n < 6; n++ {
		for k := -1; k < 5; k++ {
			for stride := -1; stride < 4; stride++ {
				for pad := -1; pad < 5; pad++ {
					for o := -1; o < 8; o++ {
						checkInside(t, n, k, stride, pad, o)
					}
				}
			}
		}
	}
	const most = 1 << 20
	for i, x := range [][7]int{{most, 3, 1, 0, 5, 0, 3}, {most + 1, 3, 1, 0, 5, 0, 0}, {5, most, 1, 0, 0, 0, 5}, {5, most + 1, 1, 0, 0, 0, 0}, {5, most, most, most, 1, 0, 5}, {5, 3, most + 1, 0, 0, 0, 0}, {5, most, 1, most + 1, 0, 0, 0}, {5, 3, 1, most, most, 0, 3}, {5, 3, 1, most, most + 1, 0, 0}, {math.MaxInt, 1, 1, 1, 1, 0, 0}, {1, 1, 1, 1, math.MaxInt, 0, 0}} {
		if from, to := Inside(x[0], x[1], x[2], x[3], x[4]); from != x[5] || to != x[6] {
			t.Error(i, from, to)
		}
	}
}

func checkInside(t *testing.T, n, k, stride, pad, o int) {
	from, to := 0, 0
	if n > 0 && k > 0 && stride > 0 && pad >= 0 && o >= 0 {
		for d := range k {
			if at := o*stride - pad + d; at >= 0 && at < n {
				if from == to {
					from = d
				}
				to = d + 1
			}
		}
	}
	if gotFrom, gotTo := Inside(n, k, stride, pad, o); gotFrom != from || gotTo != to {
		t.Error(n, k, stride, pad, o, gotFrom, gotTo)
	}
}
