// Package check finds the first fault of a program's names and types, in which regions do not matter.
package check

import (
	"lease/api"
	"lease/tree"
	"lease/types"
)

// noRegion is the region of every pair here.
const noRegion = 0

// Program answers the first fault and the place of its expression, or OK and 0.
func Program(t tree.Tree) (api.Errno, int) {
	e, at := manyPairs(t)
	if e != api.OK {
		return e, at
	}
	typing := types.Typing{}
	for i := 0; i < t.Len(); i++ {
		node := t.Node(i)
		kind := typing.Add(node, noRegion)
		fault := faultOf(node, kind, &typing)
		if fault != api.OK {
			return fault, node.At
		}
	}
	return api.OK, 0
}

func manyPairs(t tree.Tree) (api.Errno, int) {
	count := 0
	for i := 0; i < t.Len(); i++ {
		node := t.Opened(i)
		if node.Form == tree.Pair {
			count++
		}
		if count > api.MaxPairs {
			return api.ErrMany, node.At
		}
	}
	return api.OK, 0
}

func faultOf(n tree.Node, kind int, typing *types.Typing) api.Errno {
	first := typing.Of(n.Parts[0])
	second := typing.Of(n.Parts[1])
	third := typing.Of(n.Parts[2])
	whole := typing.Table.At(kind)
	wrong := false
	switch n.Form {
	case tree.Name:
		if n.Source == tree.None {
			return api.ErrName
		}
	case tree.Pair:
		if whole.Size > api.MaxType {
			return api.ErrBig
		}
	case tree.Fst, tree.Snd:
		wrong = first == types.Number
	case tree.If, tree.Loop:
		wrong = first != types.Number || second != third
	case tree.Add, tree.Sub, tree.Less:
		wrong = first != types.Number || second != types.Number
	}
	if wrong {
		return api.ErrType
	}
	return api.OK
}
