package sha

import (
	"crypto/sha256"
	"encoding/hex"
	"math/big"
	"testing"
)

func bytesOf(n int) []byte {
	b := make([]byte, n)
	for i := range b {
		b[i] = byte(i*i + 7*i + 1)
	}
	return b
}

// P1.1
func TestOf(t *testing.T) {
	if got := Text(Of()); got != "e3b0c44298fc1c149afbf4c8996fb92427ae41e4649b934ca495991b7852b855" {
		t.Error(got)
	}
	for n := range 300 {
		b := bytesOf(n)
		want := sha256.Sum256(b)
		if Of(b) != want || Of(b[:n/3], nil, b[n/3:]) != want {
			t.Error(n)
		}
		if Text(Of(b)) != hex.EncodeToString(want[:]) {
			t.Error(n, "Text")
		}
	}
	if b := bytesOf(1 << 17); Of(b) != sha256.Sum256(b) {
		t.Error("long")
	}
}

// P1.1: each constant is the first 32 bits behind the point of a prime's third root.
func TestRounds(t *testing.T) {
	k := Rounds()
	if len(k) != 64 {
		t.Fatal(len(k))
	}
	i := 0
	for p := int64(2); i < 64; p++ {
		if !big.NewInt(p).ProbablyPrime(20) {
			continue
		}
		low, high := int64(0), int64(1)<<36
		cube := new(big.Int).Lsh(big.NewInt(p), 96)
		for high-low > 1 {
			mid := (low + high) / 2
			if m := big.NewInt(mid); new(big.Int).Exp(m, big.NewInt(3), nil).Cmp(cube) > 0 {
				high = mid
			} else {
				low = mid
			}
		}
		if k[i] != uint32(low) {
			t.Errorf("%d: %x", i, k[i])
		}
		i++
	}
	k = append(k[:0], 1)
	if Rounds()[0] != 0x428a2f98 {
		t.Error("shared", k)
	}
}

// P1.2
func TestHash(t *testing.T) {
	b := bytesOf(200)
	for cut := range b {
		h := New()
		if h.Write(b[:cut]) != cut || h.Len() != cut || h.Sum() != Of(b[:cut]) || h.Sum() != Of(b[:cut]) {
			t.Error(cut)
		}
		c := h.Clone()
		h.Write(b[cut:])
		if h.Sum() != Of(b) || h.Len() != 200 || c.Sum() != Of(b[:cut]) || c.Len() != cut {
			t.Error(cut, "Clone")
		}
		c.Write([]byte("x"))
		if h.Sum() != Of(b) {
			t.Error(cut, "shared")
		}
		h.Reset()
		if h.Len() != 0 || h.Sum() != Of() {
			t.Error(cut, "Reset")
		}
	}
}

// P0.4: what is handed in is not kept.
func TestKept(t *testing.T) {
	h := New()
	b := []byte("abc")
	h.Write(b)
	b[0] = 'x'
	if h.Sum() != Of([]byte("abc")) {
		t.Error("kept")
	}
}
