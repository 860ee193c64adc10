package pack

import (
	"bytes"
	"slices"
	"testing"

	"lodge/api"
)

func TestNumbers(t *testing.T) {
	b := Append(Append(AppendBits(nil, Eight, 1<<63|5), Two, 0x1234), Four, -2)
	if !bytes.Equal(b, []byte{5, 0, 0, 0, 0, 0, 0, 0x80, 0x34, 0x12, 0xfe, 0xff, 0xff, 0xff}) {
		t.Fatal(b)
	}
	r := Read(b)
	if r.Bits(Eight) != 1<<63|5 || r.Number(Two) != 0x1234 || r.Signed() != -2 || r.At() != len(b) || r.Err() != nil {
		t.Error("back")
	}
	r.End()
	if r.Err() != nil {
		t.Error(r.Err())
	}
	if r.Number(Byte) != 0 || r.Err() != api.ErrEnd {
		t.Error(r.Err())
	}
	r.Fail(api.ErrKind)
	if r.Err() != api.ErrEnd {
		t.Error("the first error holds")
	}
}

func TestPlacedErrors(t *testing.T) {
	r := Read([]byte{7, 9, 0})
	r.Number(Byte)
	if r.Count(Two, 8, api.ErrMany) != 0 {
		t.Error("a count above its bound")
	}
	if at, ok := r.Err().(*api.At); !ok || at.Pos != 1 || at.Err != api.ErrMany {
		t.Error(r.Err())
	}
	r = Read([]byte{1, 2})
	r.Number(Byte)
	r.End()
	if at, ok := r.Err().(*api.At); !ok || at.Pos != 1 || at.Err != api.ErrMany {
		t.Error(r.Err())
	}
	r = Read([]byte{1, 2})
	r.Took(1, nil, 5)
	r.Took(0, api.ErrEnd, 5)
	if r.At() != 1 || r.Err() != api.ErrEnd || r.Rest() != nil {
		t.Error(r.Err())
	}
}

func TestBehindAnError(t *testing.T) {
	r := Read([]byte{1, 2, 3, 4})
	if r.Count(Byte, 1, api.ErrRange) != 1 || r.Err() != nil {
		t.Error("a count at its bound")
	}
	r.Fail(api.ErrKind)
	if r.Number(Byte) != 0 || r.At() != 1 || r.Piece(1) != nil || r.Rest() != nil || r.Err() != api.ErrKind {
		t.Error("something was read")
	}
}

func TestDesc(t *testing.T) {
	d := api.Desc{Shape: []int{1, 258}, Wide: true}
	b := AppendDesc(nil, d)
	if !bytes.Equal(b, []byte{10, 1, 0, 2, 1}) {
		t.Error(b)
	}
	r := Read(b)
	if got := r.Desc(); !got.Wide || !slices.Equal(got.Shape, d.Shape) || r.Err() != nil {
		t.Error(got)
	}
	r = Read([]byte{8, 7})
	if got := r.Desc(); !got.Wide || len(got.Shape) != 0 || r.Err() != nil {
		t.Error(got)
	}
	r = Read([]byte{7, 1, 0, 1, 0, 1, 0, 1, 0, 1, 0, 1, 0, 1, 0})
	if got := r.Desc(); got.Wide || len(got.Shape) != 7 || r.Err() != nil {
		t.Error(got)
	}
	r = Read([]byte{16})
	r.Desc()
	if at, ok := r.Err().(*api.At); !ok || at.Pos != 0 || at.Err != api.ErrKind {
		t.Error(r.Err())
	}
}
