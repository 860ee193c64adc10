package drr

import (
	"math"
	"math/rand"
	"slices"
	"testing"

	"lodge/api"
)

// P25.1
func TestJoinAndLeave(t *testing.T) {
	r := New(false)
	for _, quantum := range []int{-1, 0, api.MaxCost - 1, api.MaxQuantum + 1, math.MaxInt} {
		if place, err := r.Join(quantum); err != api.ErrRange || place != 0 {
			t.Error(quantum, place, err)
		}
	}
	if len(r.Places()) != 0 || r.Leave(0) {
		t.Error("somebody's")
	}
	for i := range api.MaxTenants {
		if place, err := r.Join(api.MaxQuantum); place != i || err != nil {
			t.Error(i, place, err)
		}
	}
	if place, err := r.Join(api.MaxCost); err != api.ErrMany || place != 0 {
		t.Error(place, err)
	}
	if _, err := r.Join(1); err != api.ErrRange {
		t.Error(err)
	}
	r.Push(3, 5)
	if !r.Leave(7) || !r.Leave(3) || r.Leave(3) || r.Leave(-1) || r.Leave(16) || r.Leave(math.MaxInt) {
		t.Error("Leave")
	}
	if got := r.Places(); !slices.Equal(got, []int{0, 1, 2, 4, 5, 6, 8, 9, 10, 11, 12, 13, 14, 15}) {
		t.Error(got)
	}
	for _, want := range []int{3, 7} {
		if place, err := r.Join(api.MaxCost); place != want || err != nil || len(r.Waiting(place)) != 0 {
			t.Error(place, err)
		}
	}
}

// P25.1
func TestPush(t *testing.T) {
	r := New(false)
	r.Join(2000)
	for _, place := range []int{-1, 1, 16, math.MinInt} {
		if err := r.Push(place, 0); err != api.ErrNone {
			t.Error(place, err)
		}
	}
	for _, cost := range []int{0, -1, api.MaxCost + 1, math.MaxInt} {
		if err := r.Push(0, 1, cost, 2); err != api.ErrRange {
			t.Error(cost, err)
		}
	}
	if len(r.Waiting(0)) != 0 {
		t.Error("an error has changed something")
	}
	l := []int{1, api.MaxCost}
	if r.Push(0, l...) != nil || r.Push(0) != nil || r.Push(0, 7) != nil {
		t.Error("Push")
	}
	l[0] = 9
	got := r.Waiting(0)
	if !slices.Equal(got, []int{1, api.MaxCost, 7}) {
		t.Error(got)
	}
	got[0] = 9
	if r.Waiting(0)[0] != 1 {
		t.Error("shared")
	}
}

func expect(t *testing.T, r *Ring, place, total int, each ...int) {
	t.Helper()
	gotPlace, gotTotal, gotEach := r.Turn()
	if gotPlace != place || gotTotal != total || !slices.Equal(gotEach, each) {
		t.Error(gotPlace, gotTotal, gotEach)
	}
}

// P25.2
func TestTurnsOfTheBusy(t *testing.T) {
	r := New(false)
	expect(t, r, -1, 0)
	for range 3 {
		r.Join(1024)
	}
	expect(t, r, -1, 0)
	r.Push(2, 600, 600, 600, 600)
	r.Push(0, 1024, 1)
	expect(t, r, 0, 1024, 1024)
	if r.Deficit(0) != 0 || r.Served(0) != 1024 || len(r.Waiting(0)) != 1 {
		t.Error(r.Deficit(0), r.Served(0))
	}
	expect(t, r, 2, 600, 600)
	if r.Deficit(2) != 424 {
		t.Error(r.Deficit(2))
	}
	expect(t, r, 0, 1, 1)
	if r.Deficit(0) != 0 || r.Served(0) != 1025 {
		t.Error("the deficit of who has nothing stays", r.Deficit(0))
	}
	expect(t, r, 2, 1200, 600, 600)
	if r.Deficit(2) != 248 {
		t.Error(r.Deficit(2))
	}
	expect(t, r, 2, 600, 600)
	if r.Deficit(2) != 0 || r.Served(2) != 2400 {
		t.Error(r.Deficit(2), r.Served(2))
	}
	expect(t, r, -1, 0)
	r.Push(1, 5)
	r.Push(2, 5)
	expect(t, r, 1, 5, 5)
	expect(t, r, 2, 5, 5)
	r.Leave(2)
	if r.Served(2) != 0 || r.Deficit(2) != 0 || r.Waiting(2) != nil || r.Served(-1) != 0 || r.Deficit(99) != 0 || r.Waiting(99) != nil {
		t.Error("nobody's")
	}
}

// P25.2
func TestTurnsOfTheFixed(t *testing.T) {
	r := New(true)
	expect(t, r, -1, 0)
	for range 3 {
		r.Join(1024)
	}
	r.Push(1, 900, 900)
	expect(t, r, 0, 0)
	expect(t, r, 1, 900, 900)
	expect(t, r, 2, 0)
	if r.Deficit(0) != 0 || r.Deficit(1) != 124 {
		t.Error(r.Deficit(0), r.Deficit(1))
	}
	r.Leave(0)
	expect(t, r, 1, 900, 900)
	r.Join(1024)
	expect(t, r, 2, 0)
	expect(t, r, 0, 0)
	r.Leave(0)
	r.Leave(1)
	expect(t, r, 2, 0)
	expect(t, r, 2, 0)
}

// P0.4
func TestShared(t *testing.T) {
	r := New(false)
	r.Join(1024)
	r.Push(0, 1000, 7, 1000, 9)
	_, _, each := r.Turn()
	if each = append(each, 99); len(each) != 3 || !slices.Equal(r.Waiting(0), []int{1000, 9}) {
		t.Error(each, r.Waiting(0))
	}
}

func TestClone(t *testing.T) {
	r := New(false)
	r.Join(1024)
	r.Join(1024)
	r.Push(0, 1, 2)
	r.Push(1, 3)
	c := r.Clone()
	expect(t, c, 0, 3, 1, 2)
	c.Push(1, 4)
	expect(t, r, 0, 3, 1, 2)
	expect(t, r, 1, 3, 3)
	expect(t, c, 1, 7, 3, 4)
	for _, cost := range []int{5, 6, 7} { // room behind the list must not be shared
		r.Push(1, cost)
	}
	d := r.Clone()
	d.Push(1, 8)
	r.Push(1, 9)
	if got := d.Waiting(1); !slices.Equal(got, []int{5, 6, 7, 8}) {
		t.Error(got)
	}
	c.Leave(1)
	if len(r.Places()) != 2 || !slices.Equal(New(true).Clone().Places(), nil) {
		t.Error("shared")
	}
}

// P25.3
func TestFair(t *testing.T) {
	dice := rand.New(rand.NewSource(1))
	for range 100 {
		r := New(dice.Intn(2) == 0)
		quanta := make([]int, 2+dice.Intn(4))
		ahead := make([]int, len(quanta))
		for i := range quanta {
			quanta[i] = api.MaxCost + dice.Intn(3000)
			r.Join(quanta[i])
			for range 200 {
				cost := 1 + dice.Intn(api.MaxCost)
				r.Push(i, cost)
				ahead[i] += cost
			}
		}
		turns := make([]int, len(quanta))
		for waiting := true; waiting; {
			place, _, _ := r.Turn()
			turns[place]++
			for i := range quanta {
				waiting = waiting && len(r.Waiting(i)) > 0
			}
			for i := range quanta {
				for k := range i {
					apart := float64(r.Served(i))/float64(quanta[i]) - float64(r.Served(k))/float64(quanta[k])
					if bound := 1 + api.MaxCost/float64(quanta[i]) + api.MaxCost/float64(quanta[k]); waiting && math.Abs(apart) > bound {
						t.Fatal(apart, bound)
					}
				}
			}
		}
		for len(r.Places()) > 0 {
			place, _, _ := r.Turn()
			if place < 0 {
				break
			}
			turns[place]++
			if len(r.Waiting(place)) == 0 {
				if bound := (ahead[place]+quanta[place]-1)/quanta[place] + 1; turns[place] > bound {
					t.Fatal(turns[place], bound)
				}
				r.Leave(place)
			}
		}
	}
}
