package tree

import "testing"

func TestNodesStandInTheOrderOfExpressions(t *testing.T) {
	program, at, ok := Parse("(loop 3 x (pair 1 2) (if 0 x (let x x x)))")
	if !ok || at != 0 {
		t.Fatalf("Parse answers %v at %d", ok, at)
	}
	none := noParts()
	want := []Node{
		{Form: Number, At: 6, Number: 3, Source: None, Parts: none},
		{Form: Number, At: 16, Number: 1, Source: None, Parts: none},
		{Form: Number, At: 18, Number: 2, Source: None, Parts: none},
		{Form: Pair, At: 10, Source: None, Parts: [3]int{1, 2, None}},
		{Form: Number, At: 25, Source: None, Parts: none},
		{Form: Name, At: 27, Source: 3, Parts: none},
		{Form: Name, At: 36, Source: 3, Parts: none},
		{Form: Name, At: 38, Source: 6, Parts: none},
		{Form: Let, At: 29, Source: None, Parts: [3]int{6, 7, None}},
		{Form: If, At: 21, Source: None, Parts: [3]int{4, 5, 8}},
		{Form: Loop, At: 0, Source: None, Parts: [3]int{0, 3, 9}},
	}
	if program.Len() != len(want) || program.Root() != len(want)-1 {
		t.Fatalf("%d nodes with the root %d, want %d", program.Len(), program.Root(), len(want))
	}
	for i := range want {
		if got := program.Node(i); got != want[i] {
			t.Errorf("node %d is %v, want %v", i, got, want[i])
		}
	}
}

func TestPairsAreCountedByTheirBrackets(t *testing.T) {
	program, _, ok := Parse(" (pair (pair 1 2) (fst (pair 3 4)))")
	if !ok || program.Pairs() != 3 {
		t.Fatalf("%v, %d pairs, want 3", ok, program.Pairs())
	}
	for i, want := range []int{1, 7, 23} {
		if got := program.PairAt(i); got != want {
			t.Errorf("pair %d is at %d, want %d", i, got, want)
		}
	}
}

func TestWhereNothingIs(t *testing.T) {
	program, _, _ := Parse("(pair 1 2)")
	for _, i := range []int{-1, 3, 1 << 30} {
		if got := program.Node(i); got.Form != Nothing {
			t.Errorf("node %d is %v", i, got)
		}
		if got := program.PairAt(i); got != 0 {
			t.Errorf("pair %d is at %d", i, got)
		}
	}
}

func TestNoProgramGivesNoTree(t *testing.T) {
	for _, c := range []struct {
		text string
		at   int
	}{{"", 0}, {"(add 1 2", 8}, {"(add 1 2) 3", 10}, {"(pair 1 2 ) )", 12}, {"(new #0 1)", 1}, {"(add ! (", 5}} {
		program, at, ok := Parse(c.text)
		if ok || at != c.at || program.Len() != 0 || program.Pairs() != 0 {
			t.Errorf("Parse(%q) answers %v at %d with %d nodes, want a fault at %d", c.text, ok, at, program.Len(), c.at)
		}
	}
}
