package write

import (
	"testing"

	"lease/tree"
)

func TestPlain(t *testing.T) {
	for _, c := range []struct{ placed, want string }{
		{" 0\n", "0"}, {"x", "x"},
		{"(let x(pair #1 1 2)( if(less(fst x)(snd x))(add 1 2)(sub 3 4)))", "(let x (pair 1 2) (if (less (fst x) (snd x)) (add 1 2) (sub 3 4)))"},
		{"(loop 10 abc(new #7 5)(new #8(new #9 abc)))", "(loop 10 abc 5 abc)"},
	} {
		program, _, ok := tree.ParsePlaced(c.placed)
		if got := Plain(program); !ok || got != c.want {
			t.Errorf("Plain of %q is %q, want %q", c.placed, got, c.want)
		}
	}
}
