package flt

import (
	"bytes"
	"encoding/binary"
	"math"
	"math/big"
	"math/rand"
	"strconv"
	"testing"

	"lodge/api"
)

var (
	inf   = math.Inf(1)
	minus = math.Copysign(0, -1)
	nan   = math.NaN()
	tiny  = math.SmallestNonzeroFloat64
)

// P3.1
func TestKind(t *testing.T) {
	for i, x := range []struct {
		x    float64
		kind int
		sign bool
	}{{nan, NaN, false}, {math.Float64frombits(0xfff8000000000001), NaN, false}, {math.Float64frombits(0x7ff0000000000001), NaN, false}, {inf, Infinite, false}, {-inf, Infinite, true}, {0, Zero, false}, {minus, Zero, true}, {tiny, Small, false}, {-tiny, Small, true}, {math.Float64frombits(1<<52 - 1), Small, false}, {math.Float64frombits(1 << 52), Usual, false}, {-1, Usual, true}, {math.MaxFloat64, Usual, false}} {
		if kind, sign := Kind(x.x); kind != x.kind || sign != x.sign {
			t.Error(i, kind, sign)
		}
	}
}

func TestNumbers(t *testing.T) {
	if NaN != 1 || Infinite != 2 || Zero != 3 || Small != 4 || Usual != 5 {
		t.Error("the kinds")
	}
}

// P3.1
func TestOrder(t *testing.T) {
	l := []float64{-inf, -math.MaxFloat64, -1, -tiny, minus, 0, tiny, 1, 2, math.MaxFloat64, inf, nan}
	for i, a := range l {
		for j, b := range l {
			if Less(a, b) != (i < j) || Same(a, b) != (i == j) {
				t.Error(a, b)
			}
		}
	}
	other := math.Float64frombits(0xfff8000000000007)
	if Less(nan, other) || Less(other, nan) || !Same(nan, other) {
		t.Error("NaNs")
	}
	mixed := append([]float64{}, l...)
	rand.New(rand.NewSource(1)).Shuffle(len(mixed), func(i, j int) { mixed[i], mixed[j] = mixed[j], mixed[i] })
	before := append([]float64{}, mixed...)
	for i, x := range Sort(mixed...) {
		if !Same(x, l[i]) || !Same(mixed[i], before[i]) {
			t.Error(i, x)
		}
	}
	for i, x := range Sort(2, other, 1, nan, 2) { // NaNs stay in their order
		if math.Float64bits(x) != math.Float64bits([]float64{1, 2, 2, other, nan}[i]) {
			t.Error(i, x)
		}
	}
	if !Same(Least(mixed...), -inf) || !Same(Most(mixed...), nan) || !Same(Most(mixed[:0]...), nan) || !Same(Least(), nan) || len(Sort()) != 0 {
		t.Error("Least, Most")
	}
	if !Same(Least(0, minus), minus) || !Same(Most(minus, 0, minus), 0) || !Same(Least(nan, 3), 3) {
		t.Error("Least, Most of zeros")
	}
}

// P3.1
func TestSum(t *testing.T) {
	if Sum() != 0 || !Same(Sum(minus), 0) || Sum(1, 2, 3.5) != 6.5 || !Same(Sum(inf, -inf), nan) {
		t.Error("Sum")
	}
	if Sum(1, 1e100, -1e100) != 0 || Sum(1e100, -1e100, 1) != 1 {
		t.Error("not in turn")
	}
}

// P3.2
func TestRound(t *testing.T) {
	for i, x := range []struct{ x, want float64 }{{2.5, 2}, {3.5, 4}, {-2.5, -2}, {0.5, 0}, {-0.5, minus}, {-0.4, minus}, {0.4, 0}, {minus, minus}, {0.5000000000000001, 1}, {0.49999999999999994, 0}, {1 << 52, 1 << 52}, {1<<52 - 0.5, 1 << 52}, {inf, inf}, {-inf, -inf}, {nan, nan}, {tiny, 0}, {-1.5, -2}} {
		if got := Round(x.x); !Same(got, x.want) {
			t.Error(i, got)
		}
	}
}

// P3.2: itself, to the bit.
func TestRoundKeeps(t *testing.T) {
	for _, b := range []uint64{0x7ff0000000000001, 0xfff8000000000123, 0x7ff0000000000000} {
		if got := math.Float64bits(Round(math.Float64frombits(b))); got != b {
			t.Errorf("%x", got)
		}
	}
}

// P3.2
func TestWhole(t *testing.T) {
	const low, high = math.MinInt, math.MaxInt
	for i, x := range []struct {
		x              float64
		from, to, want int
	}{{2.5, -9, 9, 2}, {9.6, -9, 9, 9}, {-9.6, -9, 9, -9}, {5, 7, 3, 7}, {nan, -9, 9, 0}, {nan, 3, 9, 3}, {nan, -9, -3, -3}, {inf, low, high, high}, {-inf, low, high, low}, {1 << 63, low, high, high}, {-(1 << 63), low, high, low}, {1e300, low, 5, 5}, {-1e300, -5, high, -5}, {1 << 62, low, high, 1 << 62}, {minus, low, high, 0}, {inf, 4, 2, 4}} {
		if got := Whole(x.x, x.from, x.to); got != x.want {
			t.Error(i, got)
		}
	}
}

// P3.3
func TestParts(t *testing.T) {
	for i, x := range []struct {
		x  float64
		m  int64
		e  int
		ok bool
	}{{6, 3, 1, true}, {0, 0, 0, true}, {minus, 0, 0, true}, {inf, 0, 0, false}, {nan, 0, 0, false}, {-0.75, -3, -2, true}, {tiny, 1, -1074, true}, {-3 * tiny, -3, -1074, true}, {1 << 60, 1, 60, true}, {math.MaxFloat64, 1<<53 - 1, 971, true}, {math.Float64frombits(1 << 52), 1, -1022, true}} {
		if m, e, ok := Parts(x.x); m != x.m || e != x.e || ok != x.ok {
			t.Error(i, m, e, ok)
		}
	}
	r := rand.New(rand.NewSource(2))
	for range 20000 {
		x := math.Float64frombits(r.Uint64())
		m, e, ok := Parts(x)
		if ok && (m%2 == 0 || !Same(Make(m, e), x)) {
			t.Fatal(x, m, e)
		}
	}
}

// wanted works m times 2^e out by strconv.
func wanted(m int64, e int) float64 {
	text := new(big.Int).SetInt64(m).Text(16)
	if m < 0 {
		text = "-0x" + text[1:]
	} else {
		text = "0x" + text
	}
	x, _ := strconv.ParseFloat(text+"p"+strconv.Itoa(e), 64)
	return x
}

// P3.3
func TestMake(t *testing.T) {
	if !Same(Make(0, 5), 0) || !Same(Make(0, math.MaxInt), 0) || Make(3, 1) != 6 {
		t.Error("plain")
	}
	for i, x := range []struct {
		m    int64
		e    int
		want float64
	}{{1, math.MaxInt, inf}, {-1, math.MaxInt, -inf}, {1, math.MinInt, 0}, {1, 1024, inf}, {1, 1023, 0x1p1023}, {1, -1074, tiny}, {1, -1075, 0}, {3, -1076, tiny}, {3, -1075, 2 * tiny}, {1<<53 + 1, 0, 1 << 53}, {1<<53 + 3, 0, 1<<53 + 4}, {math.MinInt64, 0, -(1 << 63)}, {math.MaxInt64, 0, 1 << 63}, {math.MinInt64, -1137, -tiny}, {math.MinInt64, -1138, minus}, {1<<54 - 1, 970, inf}, {1<<54 - 2, 970, math.MaxFloat64}, {math.MaxInt64, 961, inf}} {
		if got := Make(x.m, x.e); !Same(got, x.want) {
			t.Error(i, got)
		}
	}
	r := rand.New(rand.NewSource(3))
	for range 50000 {
		m := int64(r.Uint64() >> r.Intn(64))
		if r.Intn(4) == 0 {
			m = m | 1<<40 | 1<<60
		}
		for _, e := range []int{r.Intn(40) - 20, -1150 + r.Intn(160), 900 + r.Intn(140), r.Intn(6000) - 3000} {
			if want := wanted(m, e); m != 0 && !Same(Make(m, e), want) {
				t.Fatal(m, e, Make(m, e), want)
			}
		}
	}
}

// P3.4
func TestBytes(t *testing.T) {
	for _, x := range []float64{0, minus, 1, -2.5, inf, -inf, tiny, math.MaxFloat64} {
		b := Bytes(x)
		if binary.LittleEndian.Uint64(b) != math.Float64bits(x) {
			t.Error(x)
		}
		if y, err := Read(b); err != nil || !Same(x, y) {
			t.Error(x, y, err)
		}
	}
	want := []byte{1, 0, 0, 0, 0, 0, 0xf8, 0x7f}
	if !bytes.Equal(Bytes(nan), want) || !bytes.Equal(Bytes(math.Float64frombits(0xffffffffffffffff)), want) {
		t.Error("NaN")
	}
	for n := range 12 {
		x, err := Read(make([]byte, n))
		if n < 8 && err != api.ErrEnd || n > 8 && err != api.ErrMany || n == 8 && err != nil || x != 0 {
			t.Error(n, err)
		}
	}
}
