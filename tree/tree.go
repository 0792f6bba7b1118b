// Package tree holds a program as a row of expressions.
package tree

// Form tells expressions apart.
type Form int

const (
	Nothing Form = iota
	Number
	Name
	Let
	Pair
	Fst
	Snd
	If
	Add
	Sub
	Less
	Loop
)

// None stands where there is no expression.
const None = -1

// Node is one expression. Parts are its expressions from left to right.
type Node struct {
	Form   Form
	At     int // the place of its first byte
	Number int // of a Number
	Source int // of a Name: the expression that it is bound to, or None
	Parts  [3]int
}

// Tree is a program. Its nodes stand in the order of expressions, so that the parts of a node, and what a name is bound to, have lower indices than itself.
type Tree struct {
	nodes []Node
	pairs []int
}

// Len tells how many expressions there are.
func (t Tree) Len() int { return len(t.nodes) }

// Root is the expression that is the whole program.
func (t Tree) Root() int { return len(t.nodes) - 1 }

// Node gives an expression; outside of the tree there is a node of the form Nothing.
func (t Tree) Node(i int) Node {
	if i < 0 || i >= len(t.nodes) {
		return Node{Source: None, Parts: noParts()}
	}
	return t.nodes[i]
}

// Pairs tells how many pairs there are.
func (t Tree) Pairs() int { return len(t.pairs) }

// PairAt gives the place of a pair's bracket; pairs are counted from 0 on by these places.
func (t Tree) PairAt(i int) int {
	if i < 0 || i >= len(t.pairs) {
		return 0
	}
	return t.pairs[i]
}

func noParts() [3]int { return [3]int{None, None, None} }
