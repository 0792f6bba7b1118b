// Package check finds the first fault of a program's names and types, in which regions do not matter.
package check

import (
	"lease/api"
	"lease/tree"
	"lease/types"
)

// noRegion is the region of every pair here.
const noRegion = 0

type checker struct {
	table types.Table
	types []int // of the expressions looked at so far
}

// Program answers the first fault and the place of its expression, or OK and 0.
func Program(t tree.Tree) (api.Errno, int) {
	e, at := manyPairs(t)
	if e != api.OK {
		return e, at
	}
	c := checker{}
	for i := 0; i < t.Len(); i++ {
		node := t.Node(i)
		kind, fault := c.typeOf(node)
		if fault != api.OK {
			return fault, node.At
		}
		c.types = append(c.types, kind)
	}
	return api.OK, 0
}

func manyPairs(t tree.Tree) (api.Errno, int) {
	count := 0
	for i := 0; i < t.Len(); i++ {
		node := t.Opened(i)
		if node.Form == tree.Pair {
			count++
		}
		if count > api.MaxPairs {
			return api.ErrMany, node.At
		}
	}
	return api.OK, 0
}

// known gives the type of an expression that came earlier.
func (c *checker) known(i int) int {
	if i < 0 || i >= len(c.types) {
		return types.Number
	}
	return c.types[i]
}

func (c *checker) typeOf(n tree.Node) (int, api.Errno) {
	first := c.known(n.Parts[0])
	second := c.known(n.Parts[1])
	third := c.known(n.Parts[2])
	switch n.Form {
	case tree.Name:
		return c.typeOfName(n)
	case tree.New:
		return first, api.OK
	case tree.Let:
		return second, api.OK
	case tree.Pair:
		return c.typeOfPair(first, second)
	case tree.Fst, tree.Snd:
		return c.typeOfPart(n.Form, first)
	case tree.If, tree.Loop:
		return second, typeErrorUnless(first == types.Number && second == third)
	case tree.Add, tree.Sub, tree.Less:
		return types.Number, typeErrorUnless(first == types.Number && second == types.Number)
	}
	return types.Number, api.OK
}

func (c *checker) typeOfName(n tree.Node) (int, api.Errno) {
	if n.Source == tree.None {
		return types.Number, api.ErrName
	}
	return c.known(n.Source), api.OK
}

func (c *checker) typeOfPair(first, second int) (int, api.Errno) {
	kind := c.table.Pair(noRegion, first, second)
	pair := c.table.At(kind)
	if pair.Size > api.MaxType {
		return types.Number, api.ErrBig
	}
	return kind, api.OK
}

func (c *checker) typeOfPart(form tree.Form, whole int) (int, api.Errno) {
	if whole == types.Number {
		return types.Number, api.ErrType
	}
	pair := c.table.At(whole)
	if form == tree.Fst {
		return pair.First, api.OK
	}
	return pair.Second, api.OK
}

func typeErrorUnless(right bool) api.Errno {
	if right {
		return api.OK
	}
	return api.ErrType
}
