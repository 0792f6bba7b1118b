package tree

import "testing"

func compareNodes(t *testing.T, program Tree, want []Node) {
	t.Helper()
	if program.Len() != len(want) || program.Root() != len(want)-1 {
		t.Fatalf("%d nodes with the root %d, want %d", program.Len(), program.Root(), len(want))
	}
	for i := range want {
		if got := program.Node(i); got != want[i] {
			t.Errorf("node %d is %v, want %v", i, got, want[i])
		}
	}
}

func TestNodesStandInTheOrderOfExpressions(t *testing.T) {
	program, at, ok := ParsePlain("(loop 3 x (pair 1 2) (if 0 x (let yy x x)))")
	if !ok || at != 0 {
		t.Fatalf("ParsePlain answers %v at %d", ok, at)
	}
	none := noParts()
	compareNodes(t, program, []Node{
		{Form: Number, At: 6, Behind: 7, Number: 3, Source: None, Parts: none},
		{Form: Number, At: 16, Behind: 17, Number: 1, Source: None, Parts: none},
		{Form: Number, At: 18, Behind: 19, Number: 2, Source: None, Parts: none},
		{Form: Pair, At: 10, Behind: 20, Source: None, Parts: [3]int{1, 2, None}},
		{Form: Number, At: 25, Behind: 26, Source: None, Parts: none},
		{Form: Name, At: 27, Behind: 28, Word: "x", Source: 3, Parts: none},
		{Form: Name, At: 37, Behind: 38, Word: "x", Source: 3, Parts: none},
		{Form: Name, At: 39, Behind: 40, Word: "x", Source: 3, Parts: none},
		{Form: Let, At: 29, Behind: 41, Word: "yy", Source: None, Parts: [3]int{6, 7, None}},
		{Form: If, At: 21, Behind: 42, Source: None, Parts: [3]int{4, 5, 8}},
		{Form: Loop, At: 0, Behind: 43, Word: "x", Source: None, Parts: [3]int{0, 3, 9}},
	})
}

func TestInnermostBindingCounts(t *testing.T) {
	program, _, ok := ParsePlain("(let x 1 (let x x x))")
	if !ok || program.Node(1).Source != 0 || program.Node(2).Source != 1 {
		t.Errorf("%v: the names are bound to %d and %d, want 0 and 1", ok, program.Node(1).Source, program.Node(2).Source)
	}
}

func TestPlacedNodesHaveRegions(t *testing.T) {
	program, at, ok := ParsePlaced(" (new #42 (fst (pair #999 1 2 ) ))")
	if !ok || at != 0 {
		t.Fatalf("ParsePlaced answers %v at %d", ok, at)
	}
	none := noParts()
	compareNodes(t, program, []Node{
		{Form: Number, At: 26, Behind: 27, Number: 1, Source: None, Parts: none},
		{Form: Number, At: 28, Behind: 29, Number: 2, Source: None, Parts: none},
		{Form: Pair, At: 15, Behind: 31, Region: 999, Source: None, Parts: [3]int{0, 1, None}},
		{Form: Fst, At: 10, Behind: 33, Source: None, Parts: [3]int{2, None, None}},
		{Form: New, At: 1, Behind: 34, Region: 42, Source: None, Parts: [3]int{3, None, None}},
	})
}

func TestOpenedCountsByFirstBytes(t *testing.T) {
	program, _, ok := ParsePlain(" (pair (pair 1 2) (fst (pair 3 4)))")
	if !ok {
		t.Fatal("no program")
	}
	for i, want := range []int{1, 7, 13, 15, 18, 23, 29, 31} {
		if got := program.Opened(i); got.At != want || got.Form == Nothing {
			t.Errorf("expression %d is %v, want one at %d", i, got, want)
		}
	}
}

func TestWhereNothingIs(t *testing.T) {
	program, _, _ := ParsePlain("(pair 1 2)")
	for _, i := range []int{-1, 3, 1 << 30} {
		if got := program.Node(i); got.Form != Nothing || got.Source != None || got.Parts != noParts() {
			t.Errorf("node %d is %v", i, got)
		}
		if got := program.Opened(i); got.Form != Nothing || got.Source != None || got.Parts != noParts() {
			t.Errorf("expression %d is %v", i, got)
		}
	}
}

type badText struct {
	text string
	at   int
}

func TestNoPlainProgramGivesNoTree(t *testing.T) {
	for _, c := range []badText{{"", 0}, {"(add 1 2", 8}, {"(add 1 2) 3", 10}, {"(pair 1 2 ) )", 12}, {"(new #0 1)", 1}, {"(pair #0 1 2)", 6}, {"(add ! (", 5}} {
		program, at, ok := ParsePlain(c.text)
		if ok || at != c.at || program.Len() != 0 || program.Opened(0).Form != Nothing {
			t.Errorf("ParsePlain(%q) answers %v at %d with %d nodes, want a fault at %d", c.text, ok, at, program.Len(), c.at)
		}
	}
}

func TestNoPlacedProgramGivesNoTree(t *testing.T) {
	for _, c := range []badText{{"", 0}, {"(pair 1 2)", 6}, {"(pair #0 #0 2)", 9}, {"(new 1 2)", 5}, {"(new #0)", 7}, {"(new #0 1 2)", 10}, {"(fst #0 1)", 5}, {"(new #0 1) 3", 11}} {
		program, at, ok := ParsePlaced(c.text)
		if ok || at != c.at || program.Len() != 0 || program.Opened(0).Form != Nothing {
			t.Errorf("ParsePlaced(%q) answers %v at %d with %d nodes, want a fault at %d", c.text, ok, at, program.Len(), c.at)
		}
	}
}
