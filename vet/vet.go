// Package vet finds the first fault of a placed program's regions, if check has found none in it.
package vet

import (
	"lease/api"
	"lease/tree"
	"lease/types"
)

// Program answers the first fault and the place of its expression, or OK and 0.
func Program(t tree.Tree) (api.Errno, int) {
	news, e, at := newsOf(t)
	if e != api.OK {
		return e, at
	}
	e, at = outside(t, news)
	if e != api.OK {
		return e, at
	}
	return placedTypes(t)
}

// newsOf gives the news by the places of their brackets, or the first whose region an earlier one has.
func newsOf(t tree.Tree) ([]tree.Node, api.Errno, int) {
	news := []tree.Node{}
	for i := 0; i < t.Len(); i++ {
		node := t.Opened(i)
		if node.Form != tree.New {
			continue
		}
		_, found := newOf(news, node.Region)
		if found {
			return news, api.ErrTwice, node.At
		}
		news = append(news, node)
	}
	return news, api.OK, 0
}

func newOf(news []tree.Node, region int) (tree.Node, bool) {
	for i := 0; i < len(news); i++ {
		if news[i].Region == region {
			return news[i], true
		}
	}
	return tree.Node{}, false
}

// outside finds the first pair that lies outside of its region's new.
func outside(t tree.Tree, news []tree.Node) (api.Errno, int) {
	for i := 0; i < t.Len(); i++ {
		node := t.Opened(i)
		if node.Form != tree.Pair {
			continue
		}
		owner, found := newOf(news, node.Region)
		if found && (node.At < owner.At || node.At >= owner.Behind) {
			return api.ErrScope, node.At
		}
	}
	return api.OK, 0
}

func placedTypes(t tree.Tree) (api.Errno, int) {
	typing := types.Typing{}
	for i := 0; i < t.Len(); i++ {
		node := t.Node(i)
		typing.Add(node, node.Region)
		e := faultOf(node, &typing)
		if e != api.OK {
			return e, node.At
		}
	}
	return api.OK, 0
}

func faultOf(n tree.Node, typing *types.Typing) api.Errno {
	first := typing.Of(n.Parts[0])
	second := typing.Of(n.Parts[1])
	third := typing.Of(n.Parts[2])
	switch n.Form {
	case tree.If, tree.Loop:
		if second != third {
			return api.ErrMatch
		}
	case tree.New:
		if typing.Table.Mentions(first, n.Region) {
			return api.ErrEscape
		}
	}
	return api.OK
}
