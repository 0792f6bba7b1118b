// Package vet finds the first fault of a placed program's regions, if check has found none in it.
package vet

import (
	"lease/api"
	"lease/tree"
	"lease/types"
)

// Program answers the first fault and the place of its expression, or OK and 0.
func Program(t tree.Tree) (api.Errno, int) {
	news, e, at := newsOf(t)
	if e != api.OK {
		return e, at
	}
	e, at = outside(t, news)
	if e != api.OK {
		return e, at
	}
	return placedTypes(t)
}

// newsOf gives the news by the places of their brackets, or the first whose region an earlier one has.
func newsOf(t tree.Tree) ([]tree.Node, api.Errno, int) {
	news := []tree.Node{}
	for i := 0; i < t.Len(); i++ {
		node := t.Opened(i)
		if node.Form != tree.New {
			continue
		}
		_, found := newOf(news, node.Region)
		if found {
			return news, api.ErrTwice, node.At
		}
		news = append(news, node)
	}
	return news, api.OK, 0
}

func newOf(news []tree.Node, region int) (tree.Node, bool) {
	for i := 0; i < len(news); i++ {
		if news[i].Region == region {
			return news[i], true
		}
	}
	return tree.Node{}, false
}

// outside finds the first pair that lies outside of its region's new.
func outside(t tree.Tree, news []tree.Node) (api.Errno, int) {
	for i := 0; i < t.Len(); i++ {
		node := t.Opened(i)
		if node.Form != tree.Pair {
			continue
		}
		owner, found := newOf(news, node.Region)
		if found && (node.At < owner.At || node.At >= owner.Behind) {
			return api.ErrScope, node.At
		}
	}
	return api.OK, 0
}

type typer struct {
	table types.Table
	types []int // the placed types of the expressions looked at so far
}

func placedTypes(t tree.Tree) (api.Errno, int) {
	y := typer{}
	for i := 0; i < t.Len(); i++ {
		node := t.Node(i)
		kind, e := y.typeOf(node)
		if e != api.OK {
			return e, node.At
		}
		y.types = append(y.types, kind)
	}
	return api.OK, 0
}

// known gives the placed type of an expression that came earlier.
func (y *typer) known(i int) int {
	if i < 0 || i >= len(y.types) {
		return types.Number
	}
	return y.types[i]
}

func (y *typer) typeOf(n tree.Node) (int, api.Errno) {
	first := y.known(n.Parts[0])
	second := y.known(n.Parts[1])
	third := y.known(n.Parts[2])
	whole := y.table.At(first)
	switch n.Form {
	case tree.Name:
		return y.known(n.Source), api.OK
	case tree.Let:
		return second, api.OK
	case tree.Pair:
		return y.table.Pair(n.Region, first, second), api.OK
	case tree.Fst:
		return whole.First, api.OK
	case tree.Snd:
		return whole.Second, api.OK
	case tree.If, tree.Loop:
		return second, errorIf(second != third, api.ErrMatch)
	case tree.New:
		escapes := y.table.Mentions(first, n.Region)
		return first, errorIf(escapes, api.ErrEscape)
	}
	return types.Number, api.OK
}

func errorIf(wrong bool, e api.Errno) api.Errno {
	if wrong {
		return e
	}
	return api.OK
}
