package mac

import (
	"bytes"
	"crypto/hmac"
	"crypto/sha256"
	"testing"

	"lodge/sha"
)

func wanted(key, text []byte) []byte {
	h := hmac.New(sha256.New, key)
	h.Write(text)
	return h.Sum(nil)
}

// P2.1
func TestOf(t *testing.T) {
	if got := sha.Text(Of(nil)); got != "b613679a0814d9ec772f95d778c35fc5ff1697c493715653c6c712144292c5ad" {
		t.Error(got)
	}
	for n := range 140 {
		key, text := bytes.Repeat([]byte{0xa5, 1, byte(n)}, 50)[:n], bytes.Repeat([]byte("lodge"), n)
		want := wanted(key, text)
		if got := Of(key, text); !bytes.Equal(got[:], want) {
			t.Error(n)
		}
		if got := Of(key, text[:n], nil, text[n:]); !bytes.Equal(got[:], want) {
			t.Error(n, "parts")
		}
	}
	key := make([]byte, 3, 99)
	Of(key)
	if !bytes.Equal(key[:99], make([]byte, 99)) {
		t.Error("the key was written")
	}
}

// P2.2
func TestSameAndDiffer(t *testing.T) {
	for i, x := range []struct {
		a, b string
		same bool
		n    int
	}{{"", "", true, 0}, {"a", "a", true, 0}, {"a", "b", false, 1}, {"abc", "abd", false, 1}, {"xbc", "abc", false, 1}, {"ab", "abc", false, 1}, {"abc", "xy", false, 3}, {"", "abc", false, 3}, {"\x01\x01", "\x02\x02", false, 2}} {
		if Same([]byte(x.a), []byte(x.b)) != x.same || Same([]byte(x.b), []byte(x.a)) != x.same {
			t.Error(i, "Same")
		}
		if Differ([]byte(x.a), []byte(x.b)) != x.n || Differ([]byte(x.b), []byte(x.a)) != x.n {
			t.Error(i, "Differ")
		}
	}
	if !Same(nil, []byte{}) {
		t.Error("nil")
	}
}

// P2.2
func TestSub(t *testing.T) {
	key := []byte("desk")
	a := Sub(key, "7")
	if !bytes.Equal(a, wanted(key, []byte("7"))) {
		t.Error(a)
	}
	a[0]++
	if bytes.Equal(a, Sub(key, "7")) {
		t.Error("shared")
	}
}
