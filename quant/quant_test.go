package quant

import (
	"math"
	"math/big"
	"math/rand"
	"slices"
	"testing"

	"lodge/api"
	"lodge/flt"
)

var (
	inf = math.Inf(1)
	nan = math.NaN()
)

// P4.1
func TestNew(t *testing.T) {
	for i, x := range []struct {
		by   float64
		zero int
		err  error
	}{{1, 0, nil}, {5e-324, -128, nil}, {math.MaxFloat64, 127, nil}, {0, 0, api.ErrRange}, {-1, 0, api.ErrRange}, {inf, 0, api.ErrRange}, {nan, 0, api.ErrRange}, {1, 128, api.ErrRange}, {1, -129, api.ErrRange}} {
		s, err := New(x.by, x.zero)
		want := Scale{x.by, x.zero}
		if err != nil {
			want = Scale{}
		}
		if err != x.err || s != want {
			t.Error(i, s, err)
		}
	}
}

// P4.1
func TestOfAndBack(t *testing.T) {
	s, low, high := Scale{0.5, 3}, Scale{1, -128}, Scale{1, 127}
	for i, x := range []struct {
		s    Scale
		x    float64
		want int
	}{{s, 0, 3}, {s, 1, 5}, {s, 0.25, 3}, {s, 0.75, 5}, {s, -0.75, 1}, {s, nan, 3}, {s, inf, 127}, {s, -inf, -128}, {s, 1e300, 127}, {s, 62, 127}, {s, 61.6, 126}, {low, 255, 127}, {low, 254, 126}, {low, -1, -128}, {high, -255, -128}, {high, -254, -127}, {Scale{5e-324, 0}, 1, 127}, {Scale{math.MaxFloat64, 9}, math.MaxFloat64, 10}} {
		if got := x.s.Of(x.x); got != x.want {
			t.Error(i, got)
		}
	}
	if s.Back(5) != 1 || s.Back(500) != 62 || s.Back(-500) != -65.5 || low.Back(127) != 255 {
		t.Error("Back")
	}
	if !slices.Equal(s.All(0, nan, inf), []int{3, 3, 127}) || len(s.All()) != 0 {
		t.Error("All")
	}
}

// P4.2
func TestFixed(t *testing.T) {
	for i, x := range []struct {
		m           float64
		mult, shift int
		err         error
	}{{1, 1 << 30, 30, nil}, {0x1p30, 1 << 30, 0, nil}, {0x1p-30, 1 << 30, 60, nil}, {0.75, 3 << 29, 31, nil}, {1 - 0x1p-31, 1<<31 - 1, 31, nil}, {math.Nextafter(1, 0), 1 << 30, 30, nil}, {1 + 0x1p-31, 1 << 30, 30, nil}, {1 + 0x3p-31, 1<<30 + 2, 30, nil}, {math.Nextafter(0x1p30, inf), 0, 0, api.ErrRange}, {math.Nextafter(0x1p-30, 0), 0, 0, api.ErrRange}, {0, 0, 0, api.ErrRange}, {-1, 0, 0, api.ErrRange}, {nan, 0, 0, api.ErrRange}, {inf, 0, 0, api.ErrRange}} {
		if mult, shift, err := Fixed(x.m); mult != x.mult || shift != x.shift || err != x.err {
			t.Error(i, mult, shift, err)
		}
	}
}

func wanted(x, mult, shift, zero int) int {
	y := new(big.Int).Mul(big.NewInt(int64(cut(x, -1<<31, 1<<31-1))), big.NewInt(int64(cut(mult, 0, 1<<31-1))))
	shift = cut(shift, 0, 62)
	if shift > 0 {
		y.Add(y, new(big.Int).Lsh(big.NewInt(1), uint(shift-1)))
	}
	y.Div(y, new(big.Int).Lsh(big.NewInt(1), uint(shift))) // Euclid's: down, of a divisor above 0
	y.Add(y, big.NewInt(int64(cut(zero, -128, 127))))
	return cut(int(y.Int64()), -128, 127)
}

// P4.2
func TestRequant(t *testing.T) {
	if Requant(3, 1<<30, 31, 0) != 2 || Requant(-3, 1<<30, 31, 0) != -1 || Requant(5, 1, 0, 9) != 14 {
		t.Error("plain")
	}
	edges := []int{math.MinInt, -1 << 32, -1 << 31, -129, -3, -1, 0, 1, 2, 3, 30, 31, 61, 62, 63, 127, 128, 1 << 30, 1<<31 - 1, 1 << 31, math.MaxInt}
	for _, x := range edges {
		for _, m := range edges {
			for _, s := range edges {
				for _, z := range edges {
					if got := Requant(x, m, s, z); got != wanted(x, m, s, z) {
						t.Fatal(x, m, s, z, got)
					}
				}
			}
		}
	}
	r := rand.New(rand.NewSource(1))
	for range 10000 {
		x, s := int(int32(r.Uint32())), r.Intn(50)
		if got := Requant(x, 1<<30+r.Intn(1<<30), s, 3); got < -128 || got > 127 {
			t.Fatal(x, s)
		}
	}
}

// P4.3
func TestFit(t *testing.T) {
	for i, x := range []struct {
		l    []float64
		want Scale
		err  error
	}{{[]float64{0, 255}, Scale{1, -128}, nil}, {[]float64{-255}, Scale{1, 127}, nil}, {[]float64{-102, 408}, Scale{2, -77}, nil}, {[]float64{math.MaxFloat64}, Scale{math.MaxFloat64 / 255, -128}, nil}, {[]float64{-100, 155, inf, nan, -inf}, Scale{1, -28}, nil}, {nil, Scale{}, api.ErrRange}, {[]float64{inf, nan}, Scale{}, api.ErrRange}, {[]float64{5e-324}, Scale{}, api.ErrRange}, {[]float64{-math.MaxFloat64, math.MaxFloat64}, Scale{}, api.ErrRange}, {[]float64{-0.5, 255 - 0.5}, Scale{1, -128}, nil}, {[]float64{-1.5, 255 - 1.5}, Scale{1, -126}, nil}} {
		if s, err := Fit(x.l...); s != x.want || err != x.err {
			t.Error(i, s, err)
		}
	}
}

// P4.3
func TestBytes(t *testing.T) {
	for _, s := range []Scale{{1, 0}, {0.1, -128}, {5e-324, 127}} {
		b := Bytes(s)
		if !slices.Equal(b[:8], flt.Bytes(s.By)) || len(b) != 9 || int(b[8]) != s.Zero+128 {
			t.Error(b)
		}
		if got, err := Read(b); got != s || err != nil {
			t.Error(got, err)
		}
		if _, err := Read(b[:8]); err != api.ErrEnd {
			t.Error(err)
		}
		if _, err := Read(append(b, 0)); err != api.ErrMany {
			t.Error(err)
		}
	}
	for _, by := range []float64{0, nan, inf, -1} {
		if s, err := Read(append(flt.Bytes(by), 128)); s != (Scale{}) || err != api.ErrRange {
			t.Error(by, s, err)
		}
	}
}
