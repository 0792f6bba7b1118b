// Package tree holds a program as a row of expressions.
package tree

// Form tells expressions apart.
type Form int

const (
	Nothing Form = iota
	Number
	Name
	Let
	Pair
	Fst
	Snd
	If
	Add
	Sub
	Less
	Loop
	New
)

// None stands where there is no expression.
const None = -1

// Node is one expression: its bytes are those from At up to, but not with, Behind. Parts are its expressions from left to right.
type Node struct {
	Form       Form
	At, Behind int
	Number     int    // of a Number
	Word       string // of a Name; of a Let or a Loop: the name that it binds
	Region     int    // of a New, and of a Pair of a placed program
	Source     int    // of a Name: the expression that it is bound to, or None
	Parts      [3]int
}

// Tree is a program. Its nodes stand in the order of expressions, so that the parts of a node, and what a name is bound to, have lower indices than itself.
type Tree struct {
	nodes  []Node
	opened []int // the indices of the nodes, by the places of their first bytes
}

// Len tells how many expressions there are.
func (t Tree) Len() int { return len(t.nodes) }

// Root is the expression that is the whole program.
func (t Tree) Root() int { return len(t.nodes) - 1 }

// Node gives an expression; outside of the tree there is a node of the form Nothing.
func (t Tree) Node(i int) Node {
	if i < 0 || i >= len(t.nodes) {
		return Node{Source: None, Parts: noParts()}
	}
	return t.nodes[i]
}

// Opened gives an expression too, but here they are counted by the places of their first bytes.
func (t Tree) Opened(i int) Node {
	if i < 0 || i >= len(t.opened) {
		return t.Node(None)
	}
	return t.Node(t.opened[i])
}

func noParts() [3]int { return [3]int{None, None, None} }
