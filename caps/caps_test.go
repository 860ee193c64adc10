package caps

import (
	"math"
	"slices"
	"testing"

	"lodge/api"
	"lodge/tens"
)

func of(n int) api.Tensor { return api.Tensor{Desc: api.Desc{Shape: []int{1}}, Data: []int{n}} }

// has checks what Get answers: a number, or an error.
func has(t *testing.T, s *Store, who, slot, n int, want error) {
	t.Helper()
	got, err := s.Get(who, slot)
	if err != want || err == nil && !tens.Same(got, of(n)) || err != nil && (got.Data != nil || got.Shape != nil) {
		t.Error(who, slot, got, err)
	}
}

// P26.1, P26.2: places that are none, ahead of all else.
func TestRange(t *testing.T) {
	s := New()
	bad := of(999)
	for _, x := range []int{-1, 16, math.MaxInt, math.MinInt} {
		for i, err := range []error{
			s.Put(x, 0, bad), s.Put(0, x, bad), s.Drop(x, 0), s.Drop(0, x), s.Offer(x, 0, 0), s.Offer(0, x, 0), s.Offer(0, 0, x),
			s.Accept(x, 0, 0, 0), s.Accept(0, x, 0, 0), s.Accept(0, 0, x, 0), s.Accept(0, 0, 0, x), s.Revoke(x, 0), s.Revoke(0, x),
		} {
			if err != api.ErrRange {
				t.Error(x, i, err)
			}
		}
		has(t, s, x, 0, 0, api.ErrRange)
		has(t, s, 0, x, 0, api.ErrRange)
		if w, n, ok := s.Has(x, 0); w != 0 || n != 0 || ok {
			t.Error(x)
		}
		if _, _, ok := s.Has(0, x); ok {
			t.Error(x)
		}
		s.Clear(x)
		for range s.Slots(x) {
			t.Error(x)
		}
	}
}

// P26.1
func TestOwn(t *testing.T) {
	s := New()
	if err := s.Put(1, 2, of(999)); err == nil || err.Error() != "0: "+api.ErrRange.Error() {
		t.Error(err)
	}
	if s.Put(1, 2, api.Tensor{}) != api.ErrShape {
		t.Error("no tensor")
	}
	has(t, s, 1, 2, 0, api.ErrNone)
	if s.Drop(1, 2) != api.ErrNone {
		t.Error("Drop of none")
	}
	x := of(5)
	if s.Put(1, 2, x) != nil || s.Put(1, 15, of(6)) != nil || s.Put(1, 0, of(7)) != nil {
		t.Error("Put")
	}
	x.Data[0] = 9
	has(t, s, 1, 2, 5, nil)
	got, _ := s.Get(1, 2)
	got.Data[0] = 9
	has(t, s, 1, 2, 5, nil)
	if w, n, ok := s.Has(1, 15); w != 1 || n != 15 || !ok {
		t.Error(w, n, ok)
	}
	seq := s.Slots(1)
	for range 2 {
		if got := slices.Collect(seq); !slices.Equal(got, []int{0, 2, 15}) {
			t.Error(got)
		}
		for at := range seq {
			if at == 2 {
				break
			}
		}
	}
	if s.Drop(1, 2) != nil || s.Drop(1, 2) != api.ErrNone {
		t.Error("Drop")
	}
	has(t, s, 1, 2, 0, api.ErrNone)
	s.Clear(1)
	if len(slices.Collect(s.Slots(1))) != 0 {
		t.Error("Clear")
	}
}

// P26.2
func TestLent(t *testing.T) {
	s := New()
	s.Put(0, 3, of(5))
	for i, x := range []struct{ got, want error }{
		{s.Offer(0, 4, 0), api.ErrNone}, {s.Offer(0, 3, 0), api.ErrCap}, {s.Accept(1, 0, 3, 7), api.ErrCap}, {s.Offer(0, 3, 1), nil},
		{s.Accept(2, 0, 3, 7), api.ErrCap}, {s.Accept(1, 0, 4, 7), api.ErrCap}, {s.Accept(1, 2, 3, 7), api.ErrCap}, {s.Accept(0, 0, 3, 7), api.ErrCap},
		{s.Accept(1, 0, 3, 7), nil}, {s.Accept(1, 0, 3, 7), api.ErrRoom}, {s.Accept(1, 0, 3, 8), nil},
		{s.Offer(1, 7, 2), api.ErrCap}, {s.Offer(1, 7, 1), api.ErrCap}, {s.Revoke(1, 7), api.ErrCap}, {s.Revoke(1, 6), api.ErrNone},
	} {
		if x.got != x.want {
			t.Error(i, x.got)
		}
	}
	has(t, s, 1, 7, 5, nil)
	if w, n, ok := s.Has(1, 7); w != 0 || n != 3 || !ok {
		t.Error(w, n, ok)
	}
	if s.Revoke(0, 3) != nil {
		t.Error("Revoke")
	}
	has(t, s, 1, 7, 0, api.ErrStale)
	has(t, s, 0, 3, 5, nil)
	if s.Accept(1, 0, 3, 9) != api.ErrCap {
		t.Error("a stale offer")
	}
	if w, n, ok := s.Has(1, 7); w != 0 || n != 3 || !ok {
		t.Error("stale", w, n, ok)
	}
	if s.Offer(0, 3, 1) != nil || s.Accept(1, 0, 3, 9) != nil || s.Drop(1, 7) != nil {
		t.Error("again")
	}
	has(t, s, 1, 9, 5, nil)
	has(t, s, 1, 8, 0, api.ErrStale)
	has(t, s, 1, 7, 0, api.ErrNone)
	s.Drop(0, 3)
	has(t, s, 1, 9, 0, api.ErrStale)
	s.Put(0, 3, of(6))
	has(t, s, 1, 9, 0, api.ErrStale)
	if s.Accept(1, 0, 3, 0) != api.ErrCap {
		t.Error("an offer of what is gone")
	}
	s.Put(1, 9, of(8))
	has(t, s, 1, 9, 8, nil)
	if w, n, ok := s.Has(1, 9); w != 1 || n != 9 || !ok {
		t.Error("a lent slot that got its own", w, n, ok)
	}
}

// P26.1, P26.2: whatever makes a new generation makes what was lent stale.
func TestStale(t *testing.T) {
	for i, change := range []func(s *Store){
		func(s *Store) { s.Put(0, 0, of(5)) }, func(s *Store) { s.Revoke(0, 0) }, func(s *Store) { s.Drop(0, 0) }, func(s *Store) { s.Clear(0) },
		func(s *Store) { s.Clear(0); s.Put(0, 0, of(5)) },
		func(s *Store) { s.Put(2, 2, of(5)); s.Offer(2, 2, 0); s.Drop(0, 0); s.Accept(0, 2, 2, 0) },
	} {
		s := New()
		s.Put(0, 0, of(5))
		s.Offer(0, 0, 1)
		s.Accept(1, 0, 0, 1)
		has(t, s, 1, 1, 5, nil)
		change(s)
		has(t, s, 1, 1, 0, api.ErrStale)
		if s.Accept(1, 0, 0, 2) != api.ErrCap {
			t.Error(i, "a stale offer")
		}
	}
}

// P26.2
func TestClear(t *testing.T) {
	s := New()
	s.Put(0, 0, of(5))
	s.Put(1, 0, of(6))
	s.Offer(0, 0, 1)
	s.Offer(1, 0, 0)
	s.Accept(1, 0, 0, 5)
	s.Clear(1)
	if len(slices.Collect(s.Slots(1))) != 0 || s.Accept(0, 1, 0, 5) != api.ErrCap {
		t.Error("what it had")
	}
	if s.Accept(1, 0, 0, 5) != nil {
		t.Error("what others offered stays")
	}
	has(t, s, 1, 5, 5, nil)
}

func TestClone(t *testing.T) {
	s := New()
	s.Put(0, 0, of(5))
	s.Offer(0, 0, 1)
	c := s.Clone()
	c.Accept(1, 0, 0, 0)
	c.Put(0, 1, of(7))
	c.Revoke(0, 0)
	has(t, s, 1, 0, 0, api.ErrNone)
	has(t, s, 0, 1, 0, api.ErrNone)
	if s.Accept(1, 0, 0, 3) != nil {
		t.Error("shared")
	}
	has(t, c, 1, 0, 0, api.ErrStale)
}
