// Package check finds the first fault of a program's names and types.
package check

import (
	"lease/api"
	"lease/tree"
)

type checker struct {
	table typeTable
	types []int // of the expressions looked at so far
}

// Program answers the first fault and the place of its expression, or OK and 0.
func Program(t tree.Tree) (api.Errno, int) {
	if t.Pairs() > api.MaxPairs {
		return api.ErrMany, t.PairAt(api.MaxPairs)
	}
	c := checker{}
	for i := 0; i < t.Len(); i++ {
		node := t.Node(i)
		kind, e := c.typeOf(node)
		if e != api.OK {
			return e, node.At
		}
		c.types = append(c.types, kind)
	}
	return api.OK, 0
}

// known gives the type of an expression that came earlier.
func (c *checker) known(i int) int {
	if i < 0 || i >= len(c.types) {
		return number
	}
	return c.types[i]
}

func (c *checker) typeOf(n tree.Node) (int, api.Errno) {
	first := c.known(n.Parts[0])
	second := c.known(n.Parts[1])
	third := c.known(n.Parts[2])
	switch n.Form {
	case tree.Name:
		return c.typeOfName(n)
	case tree.Let:
		return second, api.OK
	case tree.Pair:
		return c.typeOfPair(first, second)
	case tree.Fst, tree.Snd:
		return c.typeOfPart(n.Form, first)
	case tree.If, tree.Loop:
		return second, typeErrorUnless(first == number && second == third)
	case tree.Add, tree.Sub, tree.Less:
		return number, typeErrorUnless(first == number && second == number)
	}
	return number, api.OK
}

func (c *checker) typeOfName(n tree.Node) (int, api.Errno) {
	if n.Source == tree.None {
		return number, api.ErrName
	}
	return c.known(n.Source), api.OK
}

func (c *checker) typeOfPair(first, second int) (int, api.Errno) {
	kind := c.table.pair(first, second)
	pair := c.table.at(kind)
	if pair.size > api.MaxType {
		return number, api.ErrBig
	}
	return kind, api.OK
}

func (c *checker) typeOfPart(form tree.Form, whole int) (int, api.Errno) {
	if whole == number {
		return number, api.ErrType
	}
	pair := c.table.at(whole)
	if form == tree.Fst {
		return pair.first, api.OK
	}
	return pair.second, api.OK
}

func typeErrorUnless(right bool) api.Errno {
	if right {
		return api.OK
	}
	return api.ErrType
}
