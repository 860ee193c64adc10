// Package fault: errors with the place where they were met.
package fault

import "lodge/api"

// depth is how many errors may stand around one another.
const depth = 1 << 16

// Alone is the error that stands within all of api's At around it; of an At around nothing nil.
func Alone(err error) error {
	for range depth {
		at, ok := err.(*api.At)
		if !ok {
			return err
		}
		if at == nil {
			return nil
		}
		err = at.Err
	}
	return nil
}

// At is err, alone, around a place; nil of nil.
func At(pos int, err error) error {
	if err == nil {
		return nil
	}
	return &api.At{Pos: pos, Err: Alone(err)}
}
