package soft

import (
	"math"
	"math/rand"
	"slices"
	"testing"

	"lodge/api"
	"lodge/flt"
	"lodge/shape"
	"lodge/tens"
)

func narrow(l ...int) api.Desc { return api.Desc{Shape: l} }
func wide(l ...int) api.Desc   { return api.Desc{Shape: l, Wide: true} }

func of(d api.Desc, data ...int) api.Tensor { return api.Tensor{Desc: d, Data: data} }

func table(first ...int) api.Tensor {
	return of(wide(256), append(first, make([]int, 256-len(first))...)...)
}

// P11.1
func TestResult(t *testing.T) {
	one := func(d api.Desc) []api.Desc { return []api.Desc{d} }
	two := func(a, b api.Desc) []api.Desc { return []api.Desc{a, b} }
	for i, x := range []struct {
		op   int
		ins  []api.Desc
		want api.Desc
		err  error
	}{
		{api.Softmax, two(narrow(2, 3), wide(256)), narrow(2, 3), nil}, {api.Softmax, two(narrow(3), wide(256)), narrow(3), nil},
		{api.ArgMax, one(narrow(2, 3)), wide(2), nil}, {api.ArgMax, one(wide(3)), wide(), nil}, {api.Sum, one(wide(2, 3, 4)), wide(2, 3), nil}, {api.Sum, one(narrow(3)), wide(), nil},
		{api.Gather, two(narrow(5, 3), wide(2)), narrow(2, 3), nil}, {api.Gather, two(wide(5, 3), wide(2)), wide(2, 3), nil},
		{api.Relu, one(narrow(0)), narrow(), api.ErrKind}, {0, nil, narrow(), api.ErrKind}, {math.MinInt, nil, narrow(), api.ErrKind}, {api.Turn, one(narrow(2, 2)), narrow(), api.ErrKind},
		{api.Softmax, one(narrow(0)), narrow(), api.ErrShape}, {api.ArgMax, two(narrow(0), narrow(0)), narrow(), api.ErrShape}, {api.Sum, nil, narrow(), api.ErrShape}, {api.Gather, one(narrow(2, 2)), narrow(), api.ErrShape},
		{api.Softmax, two(wide(3), narrow(0)), narrow(), api.ErrRange}, {api.Softmax, two(wide(0), narrow(1, 1, 1, 1, 1)), narrow(), api.ErrRange},
		{api.Softmax, two(wide(3), wide(256)), narrow(), api.ErrShape}, {api.Softmax, two(narrow(), wide(256)), narrow(), api.ErrShape}, {api.Softmax, two(narrow(3), narrow(256)), narrow(), api.ErrShape}, {api.Softmax, two(narrow(3), wide(255)), narrow(), api.ErrShape}, {api.Softmax, two(narrow(3), wide(1, 256)), narrow(), api.ErrShape},
		{api.ArgMax, one(narrow()), narrow(), api.ErrShape}, {api.Sum, one(wide()), narrow(), api.ErrShape},
		{api.Gather, two(narrow(5), wide(2)), narrow(), api.ErrShape}, {api.Gather, two(narrow(5, 3), narrow(2)), narrow(), api.ErrShape}, {api.Gather, two(narrow(5, 3), wide(2, 1)), narrow(), api.ErrShape}, {api.Gather, two(narrow(5, 3), wide()), narrow(), api.ErrShape}, {api.Gather, two(narrow(5, 3, 1), wide(2)), narrow(), api.ErrShape},
		{api.Gather, two(narrow(1, 256), wide(65)), narrow(), api.ErrMany},
	} {
		d, err := Result(x.op, x.ins...)
		if err != x.err || !shape.Same(d, x.want) {
			t.Error(i, d, err)
		}
		for k := range d.Shape {
			if d.Shape[k] = 99; slices.Contains(x.ins[0].Shape, 99) {
				t.Error(i, "shared")
			}
		}
	}
}

// P11.2
func TestSoftmax(t *testing.T) {
	for i, x := range []struct {
		a     []int
		table api.Tensor
		want  []int
	}{
		{[]int{0, 0}, table(7), []int{0, 0}},
		{[]int{5}, table(1), []int{127}},
		{[]int{5, 4}, table(3, 1), []int{63, -64}},
		{[]int{5, 4}, table(0, -1), []int{-128, -128}},
		{[]int{5, 4}, table(0, 1), []int{-128, 127}},
		{[]int{5, 4}, table(2, math.MinInt32), []int{127, -128}},
		{[]int{127, -128}, table(slices.Repeat([]int{1}, 256)...), []int{0, 0}},
		{[]int{1, 1, 1}, table(math.MaxInt32), []int{-43, -43, -43}},
	} {
		a := of(narrow(len(x.a)), x.a...)
		got, err := Softmax(a, x.table)
		if err != nil || !tens.Same(got, of(narrow(len(x.a)), x.want...)) {
			t.Error(i, got, err)
		}
		for k := range x.a {
			if Cell(api.Softmax, k, a, x.table) != x.want[k] {
				t.Error(i, k)
			}
		}
	}
}

// words is what the chapter says of element i.
func words(op, i int, a, b api.Tensor) int {
	n := a.Shape[len(a.Shape)-1]
	switch op {
	case api.Gather:
		return a.Data[max(0, min(b.Data[i/n], a.Shape[0]-1))*n+i%n]
	case api.ArgMax:
		l := a.Data[i*n : i*n+n]
		return slices.Index(l, slices.Max(l))
	case api.Sum:
		s := 0
		for _, x := range a.Data[i*n : i*n+n] {
			s += x
		}
		return int(int32(s))
	}
	l := a.Data[i/n*n : i/n*n+n]
	s := 0
	for _, x := range l {
		s += max(0, b.Data[slices.Max(l)-x])
	}
	if s == 0 {
		return -128
	}
	return (255*max(0, b.Data[slices.Max(l)-a.Data[i]])+s/2)/s - 128
}

// P11.2
func TestAgainstWords(t *testing.T) {
	r := rand.New(rand.NewSource(1))
	random := func(d api.Desc) api.Tensor {
		a, _ := tens.Zero(d)
		for i := range a.Data {
			a.Data[i] = r.Intn(256) - 128
			if d.Wide && r.Intn(2) == 0 {
				a.Data[i] = int(int32(r.Uint32()))
			}
		}
		return a
	}
	for range 100 {
		a := random(narrow(1+r.Intn(4), 1+r.Intn(5)))
		w := random(wide(1+r.Intn(4), 1+r.Intn(5)))
		weights, at := random(wide(256)), random(wide(1+r.Intn(5)))
		for i := range at.Data {
			if r.Intn(3) > 0 {
				at.Data[i] = r.Intn(7) - 2
			}
		}
		for k, x := range []struct {
			op   int
			ins  []api.Tensor
			do   func() (api.Tensor, error)
			a, b api.Tensor
		}{
			{api.Softmax, []api.Tensor{a, weights}, func() (api.Tensor, error) { return Softmax(a, weights) }, a, weights},
			{api.ArgMax, []api.Tensor{w}, func() (api.Tensor, error) { return ArgMax(w) }, w, w},
			{api.Sum, []api.Tensor{w}, func() (api.Tensor, error) { return Sum(w) }, w, w},
			{api.Sum, []api.Tensor{a}, func() (api.Tensor, error) { return Sum(a) }, a, a},
			{api.Gather, []api.Tensor{a, at}, func() (api.Tensor, error) { return Gather(a, at) }, a, at},
			{api.Gather, []api.Tensor{w, at}, func() (api.Tensor, error) { return Gather(w, at) }, w, at},
		} {
			got, err := x.do()
			if err != nil || tens.Valid(got) != nil {
				t.Fatal(k, got, err)
			}
			for i, v := range got.Data {
				if want := words(x.op, i, x.a, x.b); v != want || Cell(x.op, i, x.ins...) != want {
					t.Fatal(k, i, v, want)
				}
			}
			if Cell(x.op, -1, x.ins...) != 0 || Cell(x.op, len(got.Data), x.ins...) != 0 || Cell(x.op, 0) != 0 || Cell(api.Add, 0, x.ins...) != 0 {
				t.Error(k, "Cell of none")
			}
		}
	}
	if got, _ := ArgMax(of(narrow(4), 1, 7, 7, 0)); got.Data[0] != 1 {
		t.Error("not the first")
	}
	if got, _ := Sum(of(wide(2), math.MaxInt32, 1)); got.Data[0] != math.MinInt32 {
		t.Error("not round")
	}
}

// P11.2
func TestRefuses(t *testing.T) {
	bad, good := of(narrow(1), 128), of(narrow(1), 1)
	want := "0: " + api.ErrRange.Error()
	if _, err := Softmax(bad, good); err == nil || err.Error() != want {
		t.Error(err)
	}
	if _, err := Gather(good, bad); err == nil || err.Error() != want {
		t.Error(err)
	}
	if got, err := Softmax(good, good); err != api.ErrShape || got.Data != nil || got.Shape != nil {
		t.Error(got, err)
	}
	if _, err := ArgMax(bad); err == nil || err.Error() != want {
		t.Error(err)
	}
	if got, err := Sum(of(wide(), 1)); err != api.ErrShape || got.Wide {
		t.Error(got, err)
	}
	if Cell(api.Sum, 0, bad) != 0 {
		t.Error("Cell")
	}
}

// P11.3
func TestTable(t *testing.T) {
	for _, by := range []float64{0, 1, -0.5, math.NaN(), math.Inf(1), math.Inf(-1), 1.5} {
		if got, err := Table(by); err != api.ErrRange || got.Data != nil || got.Wide {
			t.Error(by, got, err)
		}
	}
	for _, by := range []float64{0.5, 0.9, 5e-324, math.Nextafter(1, 0), 0.999} {
		got, err := Table(by)
		if err != nil || !shape.Same(got.Desc, wide(256)) || tens.Valid(got) != nil || got.Data[0] != 1<<20 {
			t.Fatal(by, got, err)
		}
		for i, x := range got.Data[1:] {
			if x != int(flt.Round(float64(got.Data[i])*by)) {
				t.Error(by, i, x)
			}
		}
	}
	a, _ := Table(0.5)
	a.Data[0] = 1
	if b, _ := Table(0.5); b.Data[0] != 1<<20 || b.Data[20] != 1 || b.Data[21] != 0 {
		t.Error(b)
	}
}
