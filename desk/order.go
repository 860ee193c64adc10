package desk

import "lodge/api"

// The forms of a line, by their places in forms.
const (
	hostFixed = iota
	hostBusy
	admit
	retire
	weight
	nodes
	run
	runWith
	freeWeight
	freePlan
	offer
	accept
	revoke
	step
	used
	tenants
)

// What stands in a form for a number, for numbers up to the end, for a tensor, for nodes up to the end.
const (
	aNumber  = "N"
	someMore = "N.."
	aTensor  = "T"
	someWord = "G.."
)

var forms = [...]string{
	hostFixed:  "host N fixed",
	hostBusy:   "host N busy",
	admit:      "admit N part N quantum N queue N",
	retire:     "retire N",
	weight:     "weight N N T",
	nodes:      "graph N N G..",
	run:        "run N N fuel N T",
	runWith:    "run N N fuel N T with N..",
	freeWeight: "free N weight N",
	freePlan:   "free N plan N",
	offer:      "offer N N to N",
	accept:     "accept N from N N into N",
	revoke:     "revoke N N",
	step:       "step N",
	used:       "used N",
	tenants:    "tenants",
}

// order is a line that was read: which form it has, and what stands in it.
type order struct {
	form   int
	n      []int
	tensor api.Tensor
	graph  []byte
}

// blank is what stands in a line where its form leaves room.
type blank struct {
	numbers []string
	tensor  string
	nodes   []string
}

// fill is what stands in l, if it is of the form.
func fill(form string, l []string) (blank, bool) {
	var b blank
	for _, want := range words(form) {
		if len(l) == 0 {
			return blank{}, false
		}
		n := 1
		switch want {
		case aNumber:
			b.numbers = append(b.numbers, l[0])
		case someMore:
			b.numbers, n = append(b.numbers, l...), len(l)
		case aTensor:
			b.tensor = l[0]
		case someWord:
			b.nodes, n = l, len(l)
		default:
			if l[0] != want {
				return blank{}, false
			}
		}
		l = l[n:]
	}
	return b, len(l) == 0
}

// read is the order that a line's words are.
func read(l []string) (order, error) {
	for form, text := range forms {
		if b, ok := fill(text, l); ok {
			return b.parse(form)
		}
	}
	return order{}, api.ErrWord
}

// parse is the order of that form.
func (b blank) parse(form int) (order, error) {
	o := order{form: form}
	var err error
	if o.n, err = numbers(b.numbers, maxDigits); err != nil {
		return order{}, err
	}
	if form == step && (o.n[0] < 0 || o.n[0] > maxSteps) {
		return order{}, api.ErrNumber
	}
	if b.tensor != "" {
		o.tensor, err = Tensor(b.tensor)
	}
	if len(b.nodes) > 0 {
		o.graph, err = graphOf(b.nodes)
	}
	if err != nil {
		return order{}, err
	}
	return o, nil
}
