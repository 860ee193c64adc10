package mat

import (
	"math"
	"math/rand"
	"testing"

	"lodge/api"
	"lodge/shape"
	"lodge/tens"
)

func narrow(l ...int) api.Desc { return api.Desc{Shape: l} }
func wide(l ...int) api.Desc   { return api.Desc{Shape: l, Wide: true} }

func of(d api.Desc, data ...int) api.Tensor { return api.Tensor{Desc: d, Data: data} }

func random(r *rand.Rand, d api.Desc) api.Tensor {
	t, _ := tens.Zero(d)
	for i := range t.Data {
		t.Data[i] = r.Intn(256) - 128
	}
	return t
}

// P8.1
func TestResult(t *testing.T) {
	d, err := Result(-128, 127, narrow(2, 3), narrow(3, 4))
	if err != nil || !shape.Same(d, wide(2, 4)) {
		t.Error(d, err)
	}
	for i, x := range []struct {
		za, zb int
		a, b   api.Desc
		err    error
	}{
		{999, 0, narrow(2, 2, 2, 2, 2), narrow(0), api.ErrMany},
		{999, 0, narrow(2, 3), narrow(0), api.ErrRange},
		{999, 0, narrow(2, 3), narrow(2, 3), api.ErrShape},
		{0, 0, wide(2, 3), narrow(3, 2), api.ErrShape}, {0, 0, narrow(2, 3), wide(3, 2), api.ErrShape},
		{0, 0, narrow(3), narrow(3, 2), api.ErrShape}, {0, 0, narrow(2, 3), narrow(3), api.ErrShape}, {0, 0, narrow(1, 2, 3), narrow(3, 2), api.ErrShape}, {0, 0, narrow(), narrow(), api.ErrShape},
		{128, 0, narrow(2, 3), narrow(3, 2), api.ErrRange}, {0, -129, narrow(2, 3), narrow(3, 2), api.ErrRange}, {math.MinInt, 0, narrow(2, 3), narrow(3, 2), api.ErrRange},
		{0, 0, narrow(256, 1), narrow(1, 256), api.ErrMany},
	} {
		if d, err := Result(x.za, x.zb, x.a, x.b); err != x.err || d.Shape != nil || d.Wide {
			t.Error(i, d, err)
		}
	}
}

// P8.1
func TestMul(t *testing.T) {
	got, err := Mul(of(narrow(1, 2), 1, 2), of(narrow(2, 1), 3, 4), 0, 0)
	if err != nil || !tens.Same(got, of(wide(1, 1), 11)) {
		t.Error(got, err)
	}
	r := rand.New(rand.NewSource(1))
	for range 60 {
		m, k, n := 1+r.Intn(6), 1+r.Intn(6), 1+r.Intn(6)
		a, b, za, zb := random(r, narrow(m, k)), random(r, narrow(k, n)), r.Intn(256)-128, r.Intn(256)-128
		got, err := Mul(a, b, za, zb)
		if err != nil || !shape.Same(got.Desc, wide(m, n)) {
			t.Fatal(got, err)
		}
		for i, at := range shape.Each(m, n) {
			sum := 0
			for j := range k {
				x, _ := tens.Get(a, at[0], j)
				y, _ := tens.Get(b, j, at[1])
				sum += (x - za) * (y - zb)
			}
			if got.Data[i] != sum || Cell(a, b, za, zb, i) != sum {
				t.Fatal(i, got.Data[i], sum)
			}
		}
		if Cell(a, b, za, zb, -1) != 0 || Cell(a, b, za, zb, m*n) != 0 || Cell(a, b, 128, zb, 0) != 0 {
			t.Error("Cell of none")
		}
	}
	most := random(r, narrow(1, 256))
	for i := range most.Data {
		most.Data[i] = -128
	}
	column := of(narrow(256, 1), most.Data...)
	if Cell(most, column, 127, 127, 0) != 256*255*255 {
		t.Error("the greatest sum")
	}
}

// P8.1
func TestMulRefuses(t *testing.T) {
	good, bad := of(narrow(1, 1), 1), of(narrow(1, 1), 128)
	for i, x := range []struct {
		a, b  api.Tensor
		za    int
		err   string
		place bool
	}{{bad, good, 999, "0: " + api.ErrRange.Error(), true}, {good, bad, 999, "0: " + api.ErrRange.Error(), true}, {good, of(narrow(2, 1), 1, 2), 999, api.ErrShape.Error(), false}, {good, good, 999, api.ErrRange.Error(), false}} {
		got, err := Mul(x.a, x.b, x.za, 0)
		if err == nil || err.Error() != x.err || got.Data != nil || got.Shape != nil || got.Wide {
			t.Error(i, got, err)
		}
		if Cell(x.a, x.b, x.za, 0, 0) != 0 {
			t.Error(i, "Cell")
		}
	}
}

// P8.2
func TestTurn(t *testing.T) {
	got, err := Turn(of(wide(2, 3), 1, 2, 3, 4, 5, 600))
	if err != nil || !tens.Same(got, of(wide(3, 2), 1, 4, 2, 5, 3, 600)) {
		t.Error(got, err)
	}
	got, err = Turn(of(narrow(1, 3), 1, 2, 3))
	if err != nil || !tens.Same(got, of(narrow(3, 1), 1, 2, 3)) {
		t.Error(got, err)
	}
	for i, x := range []struct {
		a   api.Tensor
		err string
	}{{of(narrow(3), 1, 2, 3), api.ErrShape.Error()}, {of(narrow(1, 1, 1), 1), api.ErrShape.Error()}, {of(narrow(), 1), api.ErrShape.Error()}, {of(narrow(2), 0, 500), "1: " + api.ErrRange.Error()}} {
		if got, err := Turn(x.a); err == nil || err.Error() != x.err || got.Data != nil {
			t.Error(i, got, err)
		}
	}
}
