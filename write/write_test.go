package write

import (
	"testing"

	"lease/place"
	"lease/tree"
)

func TestPlain(t *testing.T) {
	for _, c := range []struct{ placed, want string }{
		{" 0\n", "0"}, {"x", "x"},
		{"(let x(pair #1 1 2)( if(less(fst x)(snd x))(add 1 2)(sub 3 4)))", "(let x (pair 1 2) (if (less (fst x) (snd x)) (add 1 2) (sub 3 4)))"},
		{"(loop 10 abc(new #7 5)(new #8(new #9 abc)))", "(loop 10 abc 5 abc)"},
	} {
		program, _, ok := tree.ParsePlaced(c.placed)
		if got := Plain(program); !ok || got != c.want {
			t.Errorf("Plain of %q is %q, want %q", c.placed, got, c.want)
		}
	}
}

func TestPlaced(t *testing.T) {
	for _, c := range []struct{ plain, want string }{
		{" 0\n", "0"}, {"(pair 1(pair 2 3))", "(pair #0 1 (pair #1 2 3))"},
		{"(let x(pair 1 2)( if(less(fst x)(snd x))(add 1 2)(sub 3 4)))", "(new #0 (let x (pair #0 1 2) (if (less (fst x) (snd x)) (add 1 2) (sub 3 4))))"},
		{"(loop 10 abc(snd(pair(pair 1 2)3))abc)", "(loop 10 abc (new #0 (new #1 (snd (pair #0 (pair #1 1 2) 3)))) abc)"},
	} {
		program, _, ok := tree.ParsePlain(c.plain)
		if got := Placed(program, place.Program(program)); !ok || got != c.want {
			t.Errorf("%q is written as %q, want %q", c.plain, got, c.want)
		}
	}
}
