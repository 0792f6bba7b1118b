package types

import "lease/tree"

// Typing has the types of a program's expressions, as if nothing were wrong in it. They are to be added in their order, for the type of each hangs on those of its parts.
type Typing struct {
	Table Table
	types []int
}

// Add types the next expression; the region is that of its pair, if it is one.
func (y *Typing) Add(n tree.Node, region int) int {
	kind := y.typeOf(n, region)
	y.types = append(y.types, kind)
	return kind
}

// Of gives the type of an expression that was added.
func (y *Typing) Of(i int) int {
	if i < 0 || i >= len(y.types) {
		return Number
	}
	return y.types[i]
}

func (y *Typing) typeOf(n tree.Node, region int) int {
	first := y.Of(n.Parts[0])
	second := y.Of(n.Parts[1])
	whole := y.Table.At(first)
	switch n.Form {
	case tree.Name:
		return y.Of(n.Source)
	case tree.New:
		return first
	case tree.Let, tree.If, tree.Loop:
		return second
	case tree.Pair:
		return y.Table.Pair(region, first, second)
	case tree.Fst:
		return whole.First
	case tree.Snd:
		return whole.Second
	}
	return Number
}
