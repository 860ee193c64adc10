package cell

import (
	"lodge/api"
	"lodge/check"
	"lodge/comp"
	"lodge/pack"
	"lodge/plan"
	"lodge/tens"
	"lodge/vm"
)

// What a Free is of.
const (
	freeWeight = 0
	freePlan   = 1
)

// act does what f says: a number that is told, or an error.
func (c *Cell) act(f api.Frame) (int, error) {
	r := pack.Read(f.Body)
	switch f.Kind {
	case api.PutWeight:
		return c.putWeight(r)
	case api.PutGraph, api.PutPlan:
		return c.putPlan(r, f.Kind)
	case api.Submit:
		return c.submit(r, f.Counter)
	case api.Free:
		return c.free(r)
	case api.Offer, api.Accept, api.Revoke:
		return 0, c.rights(r, f.Kind)
	}
	return 0, api.ErrKind
}

// slot reads a slot.
func slot(r *pack.Reader) int { return r.Count(pack.Byte, api.MaxSlots-1, api.ErrRange) }

// tensor reads a tensor, behind which nothing stands.
func tensor(r *pack.Reader) api.Tensor {
	t, n, err := tens.Read(r.Rest())
	r.Took(n, err, r.At())
	r.End()
	return t
}

func (c *Cell) putWeight(r *pack.Reader) (int, error) {
	at, t := slot(r), tensor(r)
	if err := r.Err(); err != nil {
		return 0, err
	}
	b := tens.Bytes(t)
	to, err := c.take(len(b))
	if err != nil {
		return 0, err
	}
	if err := c.store.Put(c.id, at, t); err != nil {
		c.drop(&to)
		return 0, err
	}
	c.lay(b, to, &c.weights[at])
	return c.used(), nil
}

// lay writes b into a new block, that stands for the one there was.
func (c *Cell) lay(b []byte, to block, was *block) {
	c.drop(was)
	c.arena.Write(c.id, to.off, b)
	*was = to
}

func (c *Cell) putPlan(r *pack.Reader, kind int) (int, error) {
	at := slot(r)
	if err := r.Err(); err != nil {
		return 0, err
	}
	read := plan.Read
	if kind == api.PutGraph {
		read = comp.Bytes
	}
	p, err := read(r.Rest())
	if err != nil {
		return 0, err
	}
	total, err := check.Total(p)
	if err != nil {
		return 0, err
	}
	b, err := plan.Bytes(p)
	if err != nil {
		return 0, err
	}
	to, err := c.take(len(b))
	if err != nil {
		return 0, err
	}
	c.lay(b, to, &c.plans[at])
	return total, nil
}

// job is what a Submit says.
type job struct {
	plan    int
	weights []int
	fuel    int
	in      api.Tensor
}

func readJob(r *pack.Reader) job {
	j := job{plan: slot(r)}
	for range r.Count(pack.Byte, api.MaxWeights, api.ErrRange) {
		j.weights = append(j.weights, slot(r))
	}
	j.fuel = r.Number(pack.Four)
	j.in = tensor(r)
	return j
}

func (c *Cell) submit(r *pack.Reader, counter uint64) (int, error) {
	j := readJob(r)
	if err := r.Err(); err != nil {
		return 0, err
	}
	p, err := c.plan(j.plan)
	if err != nil {
		return 0, err
	}
	var weights []api.Tensor
	for _, at := range j.weights {
		t, err := c.store.Get(c.id, at)
		if err != nil {
			return 0, err
		}
		weights = append(weights, t)
	}
	m, err := vm.New(p, weights, j.in, j.fuel)
	if err != nil {
		return 0, err
	}
	if len(c.waiting) >= c.queue {
		return 0, api.ErrFull
	}
	at, err := c.take(max(1, p.Size+len(tens.Raw(j.in))))
	if err != nil {
		return 0, err
	}
	c.waiting = append(c.waiting, request{counter, m, at})
	return len(c.waiting) - 1, nil
}

func (c *Cell) free(r *pack.Reader) (int, error) {
	what := r.Count(pack.Byte, freePlan, api.ErrKind)
	at := slot(r)
	r.End()
	if err := r.Err(); err != nil {
		return 0, err
	}
	if what == freeWeight {
		if err := c.store.Drop(c.id, at); err != nil {
			return 0, err
		}
		c.drop(&c.weights[at])
		return c.used(), nil
	}
	if !c.plans[at].is {
		return 0, api.ErrNone
	}
	c.drop(&c.plans[at])
	return c.used(), nil
}

// rights does an Offer, an Accept, a Revoke.
func (c *Cell) rights(r *pack.Reader, kind int) error {
	from := 0
	if kind == api.Accept {
		from = r.Number(pack.Byte)
	}
	at := slot(r)
	to, into := 0, 0
	switch kind {
	case api.Offer:
		to = r.Number(pack.Byte)
	case api.Accept:
		into = slot(r)
	}
	r.End()
	if err := r.Err(); err != nil {
		return err
	}
	switch kind {
	case api.Offer:
		return c.store.Offer(c.id, at, to)
	case api.Accept:
		return c.store.Accept(c.id, from, at, into)
	}
	return c.store.Revoke(c.id, at)
}

// Body is parts one behind the other: an int as a byte, a uint32 as four, bytes, a tensor.
func Body(parts ...any) []byte {
	var b []byte
	for _, p := range parts {
		b = append(b, piece(p)...)
	}
	return b
}

// piece is one part of a body.
func piece(part any) []byte {
	switch x := part.(type) {
	case int:
		return pack.Append(nil, pack.Byte, x)
	case uint32:
		return pack.Append(nil, pack.Four, int(x))
	case []byte:
		return x
	case api.Tensor:
		return tens.Bytes(x)
	}
	return nil
}
