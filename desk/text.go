package desk

import (
	"slices"
	"strconv"
	"strings"

	"lodge/api"
	"lodge/fault"
	"lodge/op"
	"lodge/shape"
	"lodge/tens"
)

// How many digits a number has at most, and a dimension.
const (
	maxDigits    = 10
	maxDimDigits = 3
)

// words is the words of s, that stand apart by spaces.
func words(s string) []string {
	return strings.FieldsFunc(s, func(r rune) bool { return r == ' ' })
}

// number is the number that s is, of so many digits at most; its `-` is none of them.
func number(s string, most int) (int, bool) {
	digits, below := strings.CutPrefix(s, "-")
	n, ok := natural(digits, most)
	if below {
		return -n, ok && n > 0
	}
	return n, ok
}

// natural is the number that s is, without a `-`.
func natural(s string, most int) (int, bool) {
	if len(s) < 1 || len(s) > most || len(s) > 1 && s[0] == '0' {
		return 0, false
	}
	n := 0
	for i := range len(s) {
		if s[i] < '0' || s[i] > '9' {
			return 0, false
		}
		n = n*10 + int(s[i]-'0')
	}
	return n, true
}

// numbers is the numbers that l is, of so many digits each at most.
func numbers(l []string, most int) ([]int, error) {
	var out []int
	for _, s := range l {
		n, ok := number(s, most)
		if !ok {
			return nil, api.ErrNumber
		}
		out = append(out, n)
	}
	return out, nil
}

// list is the numbers of s with commas between; of an empty text none.
func list(s string) ([]int, error) {
	if s == "" {
		return nil, nil
	}
	return numbers(strings.Split(s, ","), maxDigits)
}

// Tensor is the tensor that s is.
func Tensor(s string) (api.Tensor, error) {
	head, tail, ok := strings.Cut(s, "]")
	dims, narrow := strings.CutPrefix(head, "n[")
	wide := false
	if !narrow {
		dims, wide = strings.CutPrefix(head, "w[")
	}
	data, colon := strings.CutPrefix(tail, ":")
	if !ok || !narrow && !wide || !colon {
		return api.Tensor{}, api.ErrWord
	}
	t := api.Tensor{Desc: api.Desc{Wide: wide}}
	var err error
	if t.Shape, err = dimensions(dims); err != nil {
		return api.Tensor{}, err
	}
	if t.Data, err = numbers(strings.Split(data, ","), maxDigits); err != nil {
		return api.Tensor{}, err
	}
	if err := tens.Valid(t); err != nil {
		return api.Tensor{}, err
	}
	return t, nil
}

// dimensions is the dimensions that s is, with x between.
func dimensions(s string) ([]int, error) {
	if s == "" {
		return nil, nil
	}
	return numbers(strings.Split(s, "x"), maxDimDigits)
}

// Show is t as Tensor has it; of one that may not be empty.
func Show(t api.Tensor) string {
	if tens.Valid(t) != nil {
		return ""
	}
	var data []string
	for _, n := range t.Data {
		data = append(data, strconv.Itoa(n))
	}
	return shape.Text(t.Desc) + ":" + strings.Join(data, ",")
}

// Graph is the graph that s is: a word a node, the last one the answer.
func Graph(s string) (api.Graph, error) {
	var g api.Graph
	for i, word := range words(s) {
		n, err := node(word)
		if err != nil {
			return api.Graph{}, fault.At(i, err)
		}
		g.Nodes = append(g.Nodes, n)
		g.Out = i
	}
	if len(g.Nodes) == 0 {
		return api.Graph{}, api.ErrWord
	}
	return g, nil
}

// node is the node that a word is.
func node(word string) (api.Node, error) {
	name, inner, ok := strings.Cut(word, "(")
	inner, closed := strings.CutSuffix(inner, ")")
	kind, known := named(name)
	if !ok || !closed || !known {
		return api.Node{}, api.ErrWord
	}
	ins, rest, _ := strings.Cut(inner, ";")
	n := api.Node{Op: kind}
	var err error
	if n.Ins, err = list(ins); err != nil {
		return api.Node{}, err
	}
	if kind == api.Const {
		n.T, err = Tensor(rest)
	} else {
		n.Args, err = list(rest)
	}
	if err != nil {
		return api.Node{}, err
	}
	return n, nil
}

// named is the kind of a node of that name.
func named(name string) (int, bool) {
	i := slices.Index([]string{"input", "const", "weight"}, name)
	if i >= 0 {
		return api.Input + i, true
	}
	return op.Named(name)
}
