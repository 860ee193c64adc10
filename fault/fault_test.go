package fault

import (
	"errors"
	"testing"

	"lodge/api"
)

func TestAlone(t *testing.T) {
	other := errors.New("other")
	ring := &api.At{}
	ring.Err = ring
	for i, x := range []struct{ in, want error }{{nil, nil}, {api.ErrEnd, api.ErrEnd}, {other, other}, {&api.At{Pos: 1, Err: api.ErrEnd}, api.ErrEnd}, {&api.At{Pos: 1, Err: &api.At{Pos: 2, Err: api.ErrKind}}, api.ErrKind}, {(*api.At)(nil), nil}, {&api.At{}, nil}, {ring, nil}} {
		if got := Alone(x.in); got != x.want {
			t.Error(i, got)
		}
	}
}

func TestAt(t *testing.T) {
	if At(3, nil) != nil {
		t.Error("nil")
	}
	at, ok := At(3, &api.At{Pos: 9, Err: api.ErrRange}).(*api.At)
	if !ok || at.Pos != 3 || at.Err != api.ErrRange {
		t.Error(at)
	}
}
