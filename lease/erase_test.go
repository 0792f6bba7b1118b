package lease

import (
	"strings"
	"testing"

	"lease/api"
)

type eraseCase struct {
	placed, want string
	e            api.Errno
}

func eraseAll(t *testing.T, cases []eraseCase) {
	t.Helper()
	for _, c := range cases {
		got, e := Erase(c.placed)
		if got != c.want || e != c.e {
			t.Errorf("P6: Erase(%.70q) = %.70q, %d, want %.70q, %d", c.placed, got, e, c.want, c.e)
		}
	}
}

func TestEraseEveryForm(t *testing.T) {
	eraseAll(t, []eraseCase{
		{"( new #3 (fst (pair #3 1  2 ) ))", "(fst (pair 1 2))", api.OK},
		{"0", "0", api.OK}, {"\n9999 ", "9999", api.OK}, {"abcdefgh", "abcdefgh", api.OK},
		{"(let x(new #1 1)(new #2 x))", "(let x 1 x)", api.OK}, {"(loop 1 x(new #1 2)(new #2 x))", "(loop 1 x 2 x)", api.OK}, {"(loop(new #0 y)x 2 3)", "(loop y x 2 3)", api.OK},
		{"(pair #0(pair #1 1 2)(pair #2 3 4))", "(pair (pair 1 2) (pair 3 4))", api.OK}, {"(fst(new #5 x))", "(fst x)", api.OK}, {"(snd(snd x))", "(snd (snd x))", api.OK},
		{"(if\n1(add 2 3)\n(if(sub 4 5)(less 6 7)8))", "(if 1 (add 2 3) (if (sub 4 5) (less 6 7) 8))", api.OK},
		{"(new #0 (new #1 (new #0 x)))", "x", api.OK}, {"(new #0 (add 1 (new #1 2)))", "(add 1 2)", api.OK},
	})
}

func TestEraseRegions(t *testing.T) {
	eraseAll(t, []eraseCase{
		{"(new #0 1)", "1", api.OK}, {"(new #10 1)", "1", api.OK}, {"(new #999 1)", "1", api.OK}, {"(pair #999(pair #100 1 2)3)", "(pair (pair 1 2) 3)", api.OK}, {"(pair#7 1 2)", "(pair 1 2)", api.OK}, {"(new#7x)", "x", api.OK},
		{"(new #1000 1)", "", api.ErrForm}, {"(pair #1000 1 2)", "", api.ErrForm}, {"(pair #00 1 2)", "", api.ErrForm}, {"(new #01 1)", "", api.ErrForm}, {"(pair # 1 2 3)", "", api.ErrForm}, {"(new #x 1)", "", api.ErrForm}, {"(pair #0 #1 2)", "", api.ErrForm},
	})
}

func TestEraseNoPlacedProgram(t *testing.T) {
	eraseAll(t, []eraseCase{
		{"", "", api.ErrForm}, {" ", "", api.ErrForm}, {"(", "", api.ErrForm}, {"#0", "", api.ErrForm}, {"new", "", api.ErrForm}, {"\xff", "", api.ErrForm}, {"1\x00", "", api.ErrForm},
		{"(pair 1 2)", "", api.ErrForm}, {"(pair #0 1)", "", api.ErrForm}, {"(pair #0 1 2 3)", "", api.ErrForm}, {"(pair 1 #0 2)", "", api.ErrForm}, {"(fst (pair 1 2))", "", api.ErrForm},
		{"(new 1)", "", api.ErrForm}, {"(new #0)", "", api.ErrForm}, {"(new #0 1 2)", "", api.ErrForm}, {"(new #0 1", "", api.ErrForm}, {"(new #0 1))", "", api.ErrForm}, {"(let new 1 2)", "", api.ErrForm}, {"1 1", "", api.ErrForm},
	})
}

func TestEraseLength(t *testing.T) {
	blanks := func(n int) string { return strings.Repeat(" ", n) }
	eraseAll(t, []eraseCase{
		{"7" + blanks(api.MaxPlaced-1), "7", api.OK}, {"7" + blanks(api.MaxPlaced), "", api.ErrLong}, {blanks(api.MaxPlaced), "", api.ErrForm}, {blanks(api.MaxPlaced + 1), "", api.ErrLong},
		{strings.Repeat("!", api.MaxPlaced), "", api.ErrForm}, {strings.Repeat("!", api.MaxPlaced+1), "", api.ErrLong},
		{strings.Repeat("(new#1", 1285) + "x" + strings.Repeat(")", 1285), "x", api.OK},
		{strings.Repeat("(fst", 1799) + " x" + strings.Repeat(")", 1799), strings.Repeat("(fst ", 1799) + "x" + strings.Repeat(")", 1799), api.OK},
	})
}

// Erase asks for the form alone: no other error of Vet is one of Erase's.
func TestEraseOtherFaults(t *testing.T) {
	many := strings.Repeat("(fst (pair #0 ", 150) + "0" + strings.Repeat(" 1))", 150)
	eraseAll(t, []eraseCase{
		{many, unused(150), api.OK}, {strings.ReplaceAll(chain(99), "pair", "pair #12"), chain(99), api.OK},
		{"(add x y)", "(add x y)", api.OK}, {"(fst 1)", "(fst 1)", api.OK}, {"(if (pair #1 1 2) 1 (pair #2 3 4))", "(if (pair 1 2) 1 (pair 3 4))", api.OK},
		{"(new #0 (new #0 (pair #0 1 2)))", "(pair 1 2)", api.OK}, {"(add (new #0 1) (fst (pair #0 1 2)))", "(add 1 (fst (pair 1 2)))", api.OK}, {"(if 1 (pair #0 1 2) (pair #1 1 2))", "(if 1 (pair 1 2) (pair 1 2))", api.OK},
	})
}
