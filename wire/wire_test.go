package wire

import (
	"bytes"
	"errors"
	"go/ast"
	"go/parser"
	"go/token"
	"math"
	"testing"

	"lodge/api"
	"lodge/mac"
)

func same(a, b api.Frame) bool {
	return a.Tenant == b.Tenant && a.Counter == b.Counter && a.Kind == b.Kind && bytes.Equal(a.Body, b.Body)
}

func sameReply(a, b api.Reply) bool {
	return a.Counter == b.Counter && a.Code == b.Code && a.Number == b.Number && a.Step == b.Step && bytes.Equal(a.Bytes, b.Bytes)
}

func frame() api.Frame {
	return api.Frame{Tenant: 0x0102, Counter: 0x8000000000000003, Kind: 255, Body: []byte{9, 8, 7}}
}

// P27.1
func TestSeal(t *testing.T) {
	key := []byte("key")
	b, err := Seal(key, frame())
	want := []byte{2, 1, 3, 0, 0, 0, 0, 0, 0, 0x80, 255, 3, 0, 0, 0, 9, 8, 7}
	tag := mac.Of(key, want)
	if err != nil || !bytes.Equal(b, append(want, tag[:]...)) {
		t.Error(b, err)
	}
	if b, err := Seal(nil, api.Frame{}); len(b) != 47 || err != nil {
		t.Error(len(b), err)
	}
	for i, x := range []struct {
		f   api.Frame
		err error
	}{
		{api.Frame{Tenant: -1, Body: make([]byte, api.MaxBody+1)}, api.ErrRange}, {api.Frame{Tenant: 65536}, api.ErrRange}, {api.Frame{Kind: -1}, api.ErrRange}, {api.Frame{Kind: 256}, api.ErrRange},
		{api.Frame{Body: make([]byte, api.MaxBody+1)}, api.ErrMany}, {api.Frame{Tenant: 65535, Kind: 255, Body: make([]byte, api.MaxBody)}, nil},
	} {
		b, err := Seal(key, x.f)
		if err != x.err || (b == nil) != (err != nil) {
			t.Error(i, err)
		}
		if f, err2 := Open(b); err == nil && (err2 != nil || !same(f, x.f)) {
			t.Error(i, err2)
		}
	}
}

// P27.1
func TestOpen(t *testing.T) {
	b, _ := Seal([]byte("key"), frame())
	for n := range b {
		if f, err := Open(b[:n]); err != api.ErrEnd || !same(f, api.Frame{}) {
			t.Error(n, err)
		}
	}
	b[len(b)-1]++ // whatever its tag
	f, err := Open(b)
	if err != nil || !same(f, frame()) {
		t.Error(f, err)
	}
	f.Body[0] = 0
	if b[15] != 9 {
		t.Error("shared")
	}
	if f, err := Open(append(bytes.Clone(b), 0)); err != api.ErrMany || !same(f, api.Frame{}) {
		t.Error(err)
	}
	long := bytes.Clone(b[:15])
	long[11], long[12], long[13] = 1, 0, 1
	if _, err := Open(long); err != api.ErrMany {
		t.Error(err)
	}
	if _, err := Open(long[:14]); err != api.ErrEnd {
		t.Error(err)
	}
	long[11] = 0
	if _, err := Open(long); err != api.ErrEnd {
		t.Error(err)
	}
	copy(long[11:], []byte{255, 255, 255, 255})
	if _, err := Open(long); err != api.ErrMany {
		t.Error(err)
	}
}

// P27.1
func TestCheck(t *testing.T) {
	key := []byte("key")
	b, _ := Seal(key, frame())
	c := frame().Counter
	for i, x := range []struct {
		key  []byte
		last uint64
		b    []byte
		err  error
	}{
		{key, 0, b, nil}, {key, c - 1, b, nil}, {key, c, b, api.ErrOld}, {key, c + 1, b, api.ErrOld}, {key, math.MaxUint64, b, api.ErrOld},
		{[]byte("kez"), c, b, api.ErrTag}, {nil, 0, b, api.ErrTag}, {nil, c, b[:20], api.ErrEnd}, {nil, c, append(bytes.Clone(b), 1), api.ErrMany},
	} {
		f, err := Check(x.key, x.last, x.b)
		if err != x.err || err == nil && !same(f, frame()) || err != nil && !same(f, api.Frame{}) {
			t.Error(i, f, err)
		}
	}
	for i := range b {
		for bit := range 8 {
			turned := bytes.Clone(b)
			turned[i] ^= 1 << bit
			if _, err := Check(key, 0, turned); err == nil {
				t.Error(i, bit)
			}
		}
	}
}

// P27.2
func TestReply(t *testing.T) {
	if r := Reject(); !sameReply(r, api.Reply{Code: 17}) {
		t.Error(r)
	}
	r := api.Reply{Counter: 1<<63 | 5, Code: 0x0102, Number: -2, Bytes: []byte{7, 6}, Step: -1}
	want := []byte{5, 0, 0, 0, 0, 0, 0, 0x80, 2, 1, 254, 255, 255, 255, 255, 255, 255, 255, 2, 0, 0, 0, 7, 6}
	b := Reply(r)
	if !bytes.Equal(b, want) {
		t.Error(b)
	}
	for n := range b {
		if got, err := ReadReply(b[:n]); err != api.ErrEnd || !sameReply(got, api.Reply{}) {
			t.Error(n, err)
		}
	}
	got, err := ReadReply(b)
	if err != nil || !sameReply(got, r) {
		t.Error(got, err)
	}
	if got.Bytes[0] = 0; b[22] != 7 {
		t.Error("shared")
	}
	if got, err := ReadReply(append(bytes.Clone(b), 0)); err != api.ErrMany || !sameReply(got, api.Reply{}) {
		t.Error(got, err)
	}
	big := Reply(api.Reply{Bytes: make([]byte, api.MaxArena)})
	if got, err := ReadReply(big); err != nil || len(got.Bytes) != api.MaxArena {
		t.Error(err)
	}
	big = Reply(api.Reply{Bytes: make([]byte, api.MaxArena+1)})
	if got, err := ReadReply(big); err != api.ErrMany || got.Bytes != nil {
		t.Error(err)
	}
	cut, _ := ReadReply(Reply(api.Reply{Code: 1<<16 + 3, Number: 1<<32 + 4, Step: 1 << 31}))
	if !sameReply(cut, api.Reply{Code: 3, Number: 4, Step: -1 << 31}) {
		t.Error(cut)
	}
}

// other is an error of another kind, that goes around one of api's.
type other struct{ err error }

func (o other) Error() string { return "other" }
func (o other) Unwrap() error { return o.err }

// P27.2: the numbers are those of api's text.
func TestCode(t *testing.T) {
	file, err := parser.ParseFile(token.NewFileSet(), "../api/api.go", nil, 0)
	if err != nil {
		t.Fatal(err)
	}
	n := 0
	for _, d := range file.Decls {
		g, ok := d.(*ast.GenDecl)
		if !ok || g.Tok != token.VAR {
			continue
		}
		for _, s := range g.Specs {
			n++
			text := s.(*ast.ValueSpec).Values[0].(*ast.CallExpr).Args[0].(*ast.BasicLit).Value
			e := Err(n)
			if e == nil || `"`+e.Error()+`"` != text || Code(e) != n || Code(&api.At{Pos: 7, Err: e}) != n {
				t.Error(n, e)
			}
		}
	}
	if n != 21 {
		t.Error(n)
	}
	ring := &api.At{}
	ring.Err = ring
	for i, e := range []error{nil, errors.New("x"), errors.New(api.ErrShape.Error()), &api.At{}, (*api.At)(nil), ring, &api.At{Err: errors.New("x")}, other{api.ErrShape}} {
		if Code(e) != 0 {
			t.Error(i, Code(e))
		}
	}
	for _, code := range []int{0, -1, 22, math.MaxInt, math.MinInt} {
		if Err(code) != nil {
			t.Error(code)
		}
	}
}
