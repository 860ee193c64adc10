package arena

import (
	"bytes"
	"maps"
	"math"
	"math/rand"
	"slices"
	"testing"

	"lodge/api"
)

func fresh(t *testing.T, size int) *Arena {
	t.Helper()
	a, err := New(size)
	if err != nil {
		t.Fatal(err)
	}
	return a
}

// P13.1
func TestNew(t *testing.T) {
	for _, size := range []int{0, -1, api.MaxArena + 1, math.MaxInt, math.MinInt} {
		if a, err := New(size); err != api.ErrRange || a != nil {
			t.Error(size, err)
		}
	}
	one := fresh(t, 1)
	if p, err := one.Add(4, 1); p != (Part{4, 0, 1}) || err != nil {
		t.Error(p, err)
	}
	if at, err := one.Take(4, 1); at != 0 || err != nil {
		t.Error(at, err)
	}
	a := fresh(t, api.MaxArena)
	if !bytes.Equal(a.Raw(0, api.MaxArena), make([]byte, api.MaxArena)) || len(a.Parts()) != 0 {
		t.Error("not empty")
	}
}

// P13.1
func TestParts(t *testing.T) {
	a := fresh(t, 100)
	for i, x := range []struct {
		id, size, off int
		err           error
	}{{5, 0, 0, api.ErrRange}, {5, -1, 0, api.ErrRange}, {5, 101, 0, api.ErrRoom}, {5, math.MaxInt, 0, api.ErrRoom}, {5, 40, 0, nil}, {5, 999, 0, api.ErrRange}, {-3, 30, 40, nil}, {7, 30, 70, nil}, {8, 1, 0, api.ErrRoom}} {
		p, err := a.Add(x.id, x.size)
		want := Part{}
		if x.err == nil {
			want = Part{x.id, x.off, x.size}
		}
		if err != x.err || p != want {
			t.Error(i, p, err)
		}
	}
	if !a.Remove(-3) || a.Remove(-3) || a.Remove(9) {
		t.Error("Remove")
	}
	if _, err := a.Add(8, 31); err != api.ErrRoom {
		t.Error(err)
	}
	if p, err := a.Add(8, 10); p != (Part{8, 40, 10}) || err != nil {
		t.Error(p, err)
	}
	if p, err := a.Add(9, 20); p != (Part{9, 50, 20}) || err != nil {
		t.Error(p, err)
	}
	want := []Part{{5, 0, 40}, {8, 40, 10}, {9, 50, 20}, {7, 70, 30}}
	got := a.Parts()
	if !slices.Equal(got, want) {
		t.Error(got)
	}
	got[0].Size = 0
	if !slices.Equal(a.Parts(), want) {
		t.Error("shared")
	}
}

// P13.2
func TestBlocks(t *testing.T) {
	a := fresh(t, 100)
	a.Add(1, 10)
	a.Add(2, 20)
	for i, x := range []struct {
		id, n, at int
		err       error
	}{{3, 0, 0, api.ErrNone}, {2, 0, 0, api.ErrRange}, {2, -1, 0, api.ErrRange}, {2, 21, 0, api.ErrRoom}, {2, math.MaxInt, 0, api.ErrRoom}, {2, 4, 0, nil}, {2, 4, 4, nil}, {1, 10, 0, nil}, {1, 1, 0, api.ErrRoom}} {
		if at, err := a.Take(x.id, x.n); at != x.at || err != x.err {
			t.Error(i, at, err)
		}
	}
	a.Write(2, 0, []byte{1, 2, 3, 4})
	if !a.Drop(2, 0) || a.Drop(2, 0) || a.Drop(2, 5) || a.Drop(9, 0) || a.Drop(2, -1) {
		t.Error("Drop")
	}
	if at, err := a.Take(2, 2); at != 0 || err != nil {
		t.Error(at, err)
	}
	if b, ok := a.Read(2, 0, 2); !ok || !bytes.Equal(b, []byte{0, 0}) {
		t.Error("what was dropped stays", b)
	}
	if at, err := a.Take(2, 3); at != 8 || err != nil {
		t.Error(at, err)
	}
	if a.Used(2) != 9 || a.Used(1) != 10 || a.Used(3) != 0 {
		t.Error("Used")
	}
	want := map[int]int{0: 2, 4: 4, 8: 3}
	seq := a.Blocks(2)
	for range 2 {
		if got := maps.Collect(seq); !maps.Equal(got, want) {
			t.Error(got)
		}
		for off := range seq {
			if off == 4 {
				break
			}
		}
	}
	for off := range seq {
		a.Drop(2, off)
	}
	if a.Used(2) != 0 || len(maps.Collect(a.Blocks(2))) != 0 || len(maps.Collect(a.Blocks(77))) != 0 {
		t.Error("dropped on the way")
	}
}

// P13.2
func TestWriteAndRead(t *testing.T) {
	a := fresh(t, 100)
	a.Add(1, 10)
	a.Add(2, 50)
	a.Take(2, 4)
	a.Take(2, 4)
	a.Take(2, 4)
	a.Drop(2, 4)
	for i, x := range []struct {
		id, off, n int
		ok         bool
	}{{2, 0, 4, true}, {2, 1, 3, true}, {2, 1, 4, false}, {2, 0, 0, true}, {2, 4, 0, true}, {2, 5, 0, false}, {2, 8, 0, true}, {2, 8, 4, true}, {2, 12, 0, true}, {2, 13, 0, false}, {2, 4, 1, false}, {2, -1, 1, false}, {2, -1, 0, false}, {1, 0, 0, false}, {3, 0, 0, false}, {2, math.MaxInt, 1, false}, {2, math.MinInt, 1, false}} {
		b := bytes.Repeat([]byte{byte(i + 1)}, x.n)
		if a.Write(x.id, x.off, b) != x.ok {
			t.Error(i, "Write")
		}
		got, ok := a.Read(x.id, x.off, x.n)
		if ok != x.ok || ok && !bytes.Equal(got, b) || !ok && len(got) != 0 {
			t.Error(i, got, ok)
		}
	}
	for _, n := range []int{-1, math.MinInt, math.MaxInt} {
		if _, ok := a.Read(2, 1, n); ok {
			t.Error(n)
		}
	}
	got, _ := a.Read(2, 0, 4)
	got[0] = 99
	if again, _ := a.Read(2, 0, 4); again[0] == 99 {
		t.Error("shared")
	}
}

// P13.2
func TestRaw(t *testing.T) {
	a := fresh(t, 10)
	a.Add(1, 10)
	a.Take(1, 10)
	a.Write(1, 0, []byte{0, 1, 2, 3, 4, 5, 6, 7, 8, 9})
	for i, x := range []struct {
		off, n int
		want   []byte
	}{{0, 3, []byte{0, 1, 2}}, {8, 5, []byte{8, 9}}, {-2, 5, []byte{0, 1, 2}}, {-5, 5, nil}, {-5, 3, nil}, {10, 1, nil}, {3, 0, nil}, {3, -1, nil}, {math.MaxInt, math.MaxInt, nil}, {math.MinInt, math.MaxInt, nil}, {-3, math.MaxInt, []byte{0, 1, 2, 3, 4, 5, 6, 7, 8, 9}}, {9, math.MaxInt, []byte{9}}, {math.MinInt, math.MinInt, nil}} {
		if got := a.Raw(x.off, x.n); !bytes.Equal(got, x.want) {
			t.Error(i, got)
		}
	}
	a.Raw(0, 3)[0] = 9
	if a.Raw(0, 1)[0] != 0 {
		t.Error("shared")
	}
}

// P13.1 to P13.3: what no block has is 0, least places, nothing over another; by a plain model.
func TestRandom(t *testing.T) {
	r := rand.New(rand.NewSource(1))
	for range 30 {
		a := fresh(t, 64)
		blocks := map[[2]int]int{} // of id and place: length
		for range 200 {
			id := r.Intn(4)
			switch r.Intn(8) {
			case 0:
				a.Add(id, 1+r.Intn(30))
			case 1:
				if r.Intn(4) == 0 && a.Remove(id) {
					maps.DeleteFunc(blocks, func(k [2]int, _ int) bool { return k[0] == id })
				}
			case 2, 3, 4:
				n := 1 + r.Intn(8)
				if at, err := a.Take(id, n); err == nil {
					blocks[[2]int{id, at}] = n
					a.Write(id, at, bytes.Repeat([]byte{0xff}, n))
				}
			default:
				at := r.Intn(30)
				_, ok := blocks[[2]int{id, at}]
				if a.Drop(id, at) != ok {
					t.Fatal("Drop")
				}
				delete(blocks, [2]int{id, at})
			}
			want := make([]byte, 64)
			for _, p := range a.Parts() {
				for k, n := range blocks {
					for i := range n {
						if k[0] == p.ID {
							want[p.Off+k[1]+i]++
						}
					}
				}
			}
			for i, x := range a.Raw(0, 64) {
				if want[i] > 1 || x != 0 && want[i] == 0 || x == 0 && want[i] == 1 {
					t.Fatal(i, x, want[i])
				}
			}
		}
	}
}

func TestClone(t *testing.T) {
	a := fresh(t, 20)
	a.Add(1, 10)
	a.Take(1, 4)
	a.Take(1, 4)
	c := a.Clone()
	c.Write(1, 0, []byte{7})
	c.Drop(1, 4)
	c.Add(2, 5)
	if a.Raw(0, 1)[0] != 0 || a.Used(1) != 8 || len(a.Parts()) != 1 || c.Used(1) != 4 || len(c.Parts()) != 2 {
		t.Error("shared")
	}
}
