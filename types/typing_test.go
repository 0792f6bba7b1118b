package types

import (
	"testing"

	"lease/tree"
)

// typed gives the types of all expressions of a placed program.
func typed(t *testing.T, placed string) (tree.Tree, *Typing) {
	t.Helper()
	program, _, ok := tree.ParsePlaced(placed)
	if !ok {
		t.Fatalf("%q is no placed program", placed)
	}
	typing := &Typing{}
	for i := 0; i < program.Len(); i++ {
		node := program.Node(i)
		if kind := typing.Add(node, node.Region); kind != typing.Of(i) {
			t.Errorf("%q: the type of %d is %d, when it was added it was %d", placed, i, typing.Of(i), kind)
		}
	}
	return program, typing
}

func TestTypesOfForms(t *testing.T) {
	pair := "(pair #1 1 (pair #2 3 4))"
	for _, c := range []struct {
		placed string
		size   int
		has    []int
		hasNot []int
	}{
		{"7", 0, nil, []int{0, 1, 2}}, {"x", 0, nil, []int{0, 1, 2}}, {pair, 2, []int{1, 2}, []int{0, 3}}, {"(fst " + pair + ")", 0, nil, []int{1, 2}}, {"(snd " + pair + ")", 1, []int{2}, []int{1}},
		{"(let x " + pair + " x)", 2, []int{1, 2}, nil}, {"(let x " + pair + " (snd x))", 1, []int{2}, []int{1}}, {"(loop 1 x " + pair + " x)", 2, []int{1, 2}, nil}, {"(if 1 " + pair + " " + pair + ")", 2, []int{1, 2}, nil},
		{"(new #3 " + pair + ")", 2, []int{1, 2}, []int{3}}, {"(add 1 2)", 0, nil, []int{0}}, {"(sub 1 2)", 0, nil, []int{0}}, {"(less 1 2)", 0, nil, []int{0}}, {"(fst 1)", 0, nil, []int{0}},
	} {
		program, typing := typed(t, c.placed)
		kind := typing.Of(program.Root())
		if size := typing.Table.At(kind).Size; size != c.size {
			t.Errorf("the type of %q has the size %d, want %d", c.placed, size, c.size)
		}
		for _, region := range c.has {
			if !typing.Table.Mentions(kind, region) {
				t.Errorf("the type of %q does not mention %d", c.placed, region)
			}
		}
		for _, region := range c.hasNot {
			if typing.Table.Mentions(kind, region) {
				t.Errorf("the type of %q mentions %d", c.placed, region)
			}
		}
	}
}

func TestTypesOfNothing(t *testing.T) {
	_, typing := typed(t, "(pair #1 2 3)")
	for _, i := range []int{-1, 3, 99} {
		if kind := typing.Of(i); kind != Number {
			t.Errorf("the type of %d is %d", i, kind)
		}
	}
}
