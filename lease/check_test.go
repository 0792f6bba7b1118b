package lease

import (
	"strings"
	"testing"

	"lease/api"
)

type checkCase struct {
	src string
	e   api.Errno
	at  int
}

func checkAll(t *testing.T, cases []checkCase) {
	t.Helper()
	for _, c := range cases {
		e, at := Check(c.src)
		if e != c.e || at != c.at {
			t.Errorf("P3: Check(%.70q) = %d, %d, want %d, %d", c.src, e, at, c.e, c.at)
		}
	}
}

// unused gives a program with n pairs whose own type is a number.
func unused(n int) string {
	return strings.Repeat("(fst (pair ", n) + "0" + strings.Repeat(" 1))", n)
}

// chain gives a program whose type's size is n.
func chain(n int) string {
	return strings.Repeat("(pair 1 ", n) + "2" + strings.Repeat(")", n)
}

// doubled gives a program whose type's size is one more than twice that of the one before it, n times.
func doubled(n int) string {
	return "(let x 1 " + strings.Repeat("(let x (pair x x) ", n) + "x" + strings.Repeat(")", n+1)
}

func TestCheckExamples(t *testing.T) {
	checkAll(t, []checkCase{
		{"(pair 1 2)", api.OK, 0}, {"(pair 1", api.ErrForm, 7}, {"(pair #0 1 2)", api.ErrForm, 6},
		{"(add 1 x)", api.ErrName, 7}, {"(add 1 (pair 1 2))", api.ErrType, 0}, {"(fst (add 1 (snd 2)))", api.ErrType, 12},
		{"07", api.ErrForm, 0}, {"new", api.ErrForm, 0}, {"", api.ErrForm, 0}, {"1 2", api.ErrForm, 2},
	})
}

func TestCheckEveryForm(t *testing.T) {
	checkAll(t, []checkCase{
		{"0", api.OK, 0}, {"(let a 1 a)", api.OK, 0}, {"(pair 1 (pair 2 3))", api.OK, 0},
		{"(fst (pair 1 2))", api.OK, 0}, {"(snd (pair 1 (pair 2 3)))", api.OK, 0},
		{"(if (less 1 2) (add 1 2) (sub 1 2))", api.OK, 0}, {"(loop 3 a (pair 1 2) (pair (snd a) (fst a)))", api.OK, 0},
	})
}

func TestCheckLength(t *testing.T) {
	blanks := func(n int) string { return strings.Repeat(" ", n) }
	checkAll(t, []checkCase{
		{"7" + blanks(api.MaxText-1), api.OK, 0}, {"7" + blanks(api.MaxText), api.ErrLong, 0},
		{blanks(api.MaxText-1) + "7", api.OK, 0}, {blanks(api.MaxText) + "7", api.ErrLong, 0},
		{blanks(api.MaxText), api.ErrForm, api.MaxText}, {blanks(api.MaxText + 1), api.ErrLong, 0},
		{strings.Repeat("\xff", api.MaxText), api.ErrForm, 0}, {strings.Repeat("\xff", api.MaxText+1), api.ErrLong, 0},
		{strings.Repeat("(fst(", 1<<20), api.ErrLong, 0},
	})
}

func TestCheckTokens(t *testing.T) {
	checkAll(t, []checkCase{
		{"(let abcdefgh 1 abcdefgh)", api.OK, 0}, {"(let abcdefghi 1 2)", api.ErrForm, 5}, {"(let a 1 abcdefghi)", api.ErrForm, 9},
		{"(let a 1 a )\n\n ", api.OK, 0}, {"(let a1a)", api.OK, 0}, {"(add(add 1 2)3)", api.OK, 0}, {"(leta 1 a)", api.ErrForm, 1},
		{"9999", api.OK, 0}, {"10000", api.ErrForm, 0}, {" 1000", api.OK, 0}, {"(add 1 99999)", api.ErrForm, 7},
		{"0", api.OK, 0}, {"00", api.ErrForm, 0}, {"(add 01 2)", api.ErrForm, 5}, {"(add 0 010)", api.ErrForm, 7},
		{"#0", api.ErrForm, 0}, {"(pair #x 1 2)", api.ErrForm, 6}, {"(add 1 #)", api.ErrForm, 7}, {"(add 1 #1000)", api.ErrForm, 7},
		{"1\t", api.ErrForm, 1}, {"\r1", api.ErrForm, 0}, {"1 \x00", api.ErrForm, 2}, {"(add -1 2)", api.ErrForm, 5}, {"(Add 1 2)", api.ErrForm, 1}, {"[1 2]", api.ErrForm, 0},
	})
}

func TestCheckWhatCannotStandThere(t *testing.T) {
	checkAll(t, []checkCase{
		{" ", api.ErrForm, 1}, {"\n\n", api.ErrForm, 2}, {"(", api.ErrForm, 1}, {"( ", api.ErrForm, 2}, {"()", api.ErrForm, 1}, {")", api.ErrForm, 0},
		{"(7 1)", api.ErrForm, 1}, {"(x 1)", api.ErrForm, 1}, {"((fst 1))", api.ErrForm, 1}, {"(new #0 1)", api.ErrForm, 1}, {"(add new 1)", api.ErrForm, 5}, {"(add pair 1)", api.ErrForm, 5},
		{"(let 1 1 1)", api.ErrForm, 5}, {"(let (x) 1 1)", api.ErrForm, 5}, {"(let loop 1 1)", api.ErrForm, 5}, {"(let new 1 1)", api.ErrForm, 5}, {"(let x 1)", api.ErrForm, 8}, {"(let x 1 2 3)", api.ErrForm, 11},
		{"(loop x 1 2 3)", api.ErrForm, 8}, {"(loop 1 if 2 3)", api.ErrForm, 8}, {"(loop 1 x 2)", api.ErrForm, 11}, {"(loop 1 x 2 3 4)", api.ErrForm, 14}, {"(loop 1 x", api.ErrForm, 9},
		{"(fst)", api.ErrForm, 4}, {"(snd 1 2)", api.ErrForm, 7}, {"(pair 1)", api.ErrForm, 7}, {"(pair 1 2 3)", api.ErrForm, 10}, {"(if 1 2)", api.ErrForm, 7}, {"(if 1 2 3 4)", api.ErrForm, 10},
		{"(add 1)", api.ErrForm, 6}, {"(sub 1 2 3)", api.ErrForm, 9}, {"(less 1 2", api.ErrForm, 9}, {"(less 1 2 ", api.ErrForm, 10},
		{"(add 1 2) )", api.ErrForm, 10}, {"(add 1 2)(add 1 2)", api.ErrForm, 9}, {"x y", api.ErrForm, 2}, {"1 !", api.ErrForm, 2},
		{strings.Repeat("(fst", 750), api.ErrForm, 3000}, {strings.Repeat("(fst", 700) + "!", api.ErrForm, 2800},
	})
}

func TestCheckPairs(t *testing.T) {
	nested := strings.Repeat("(pair ", 101) + "1" + strings.Repeat(" 2)", 101)
	checkAll(t, []checkCase{
		{unused(api.MaxPairs), api.OK, 0}, {unused(api.MaxPairs + 1), api.ErrMany, 100*11 + 5}, {unused(api.MaxPairs + 9), api.ErrMany, 100*11 + 5},
		{nested, api.ErrMany, 600},
		{"(add (fst (pair 1 2)) " + unused(99) + ")", api.OK, 0}, {"(add (fst (pair 1 2)) " + unused(100) + ")", api.ErrMany, 22 + 99*11 + 5},
	})
}

func TestCheckNames(t *testing.T) {
	checkAll(t, []checkCase{
		{"x", api.ErrName, 0}, {"\n x ", api.ErrName, 2}, {"abcdefgh", api.ErrName, 0},
		{"(let x x 1)", api.ErrName, 7}, {"(let x 1 y)", api.ErrName, 9}, {"(let x 1 xx)", api.ErrName, 9}, {"(pair (let x 1 x) x)", api.ErrName, 18},
		{"(loop x x 1 1)", api.ErrName, 6}, {"(loop 1 x x 1)", api.ErrName, 10}, {"(pair (loop 1 x 1 x) x)", api.ErrName, 21},
		{"(let x 1 (let y 2 (add x y)))", api.OK, 0}, {"(let x (pair 1 2) (let x (fst x) (add x 1)))", api.OK, 0},
		{"(let x 1 (add (fst (let x (pair 1 2) x)) x))", api.OK, 0}, {"(let x 1 (loop x x (pair x x) (pair (fst x) 1)))", api.OK, 0},
	})
}

func TestCheckTypes(t *testing.T) {
	checkAll(t, []checkCase{
		{"(fst 1)", api.ErrType, 0}, {"(snd 1)", api.ErrType, 0}, {"(fst (fst (pair 1 2)))", api.ErrType, 0}, {"(snd (snd (pair (pair 1 2) 3)))", api.ErrType, 0},
		{"(if (pair 1 2) 1 1)", api.ErrType, 0}, {"(if 1 (pair 1 2) 1)", api.ErrType, 0}, {"(if 1 (pair 1 (pair 2 3)) (pair (pair 1 2) 3))", api.ErrType, 0}, {"(if 1 (pair 1 2) (pair 3 4))", api.OK, 0},
		{"(add (pair 1 2) 1)", api.ErrType, 0}, {"(add 1 (pair 1 2))", api.ErrType, 0}, {"(sub (pair 1 2) 1)", api.ErrType, 0}, {"(sub 1 (pair 1 2))", api.ErrType, 0}, {"(less (pair 1 2) 1)", api.ErrType, 0}, {"(less 1 (pair 1 2))", api.ErrType, 0},
		{"(loop (pair 1 2) x 1 x)", api.ErrType, 0}, {"(loop 1 x 1 (pair x x))", api.ErrType, 0}, {"(loop 1 x (pair 1 2) (fst x))", api.ErrType, 0},
		{"(let x (pair 1 2) (add x 1))", api.ErrType, 18}, {"(let x 1 (fst x))", api.ErrType, 9}, {"(add (let x 1 (pair x x)) 1)", api.ErrType, 0},
	})
}

func TestCheckTypeSizes(t *testing.T) {
	checkAll(t, []checkCase{
		{chain(api.MaxType), api.OK, 0}, {chain(api.MaxType + 1), api.ErrBig, 0}, {chain(api.MaxType + 3), api.ErrBig, 16}, {chain(api.MaxPairs), api.ErrBig, 37*8 - 8},
		{doubled(6), api.OK, 0}, {doubled(7), api.ErrBig, 9 + 6*18 + 7}, {doubled(80), api.ErrBig, 9 + 6*18 + 7},
		{"(pair " + chain(31) + " " + chain(31) + ")", api.OK, 0}, {"(pair " + chain(32) + " " + chain(31) + ")", api.ErrBig, 0},
		{"(fst " + chain(api.MaxType+1) + ")", api.ErrBig, 5}, {"(add " + chain(api.MaxType) + " 1)", api.ErrType, 0},
	})
}

func TestCheckFirstOfSeveral(t *testing.T) {
	checkAll(t, []checkCase{
		{strings.Repeat("(", api.MaxText+1), api.ErrLong, 0},
		{unused(101) + " 1", api.ErrForm, len(unused(101)) + 1}, {"(add x !", api.ErrForm, 7}, {"(add (fst 1) x", api.ErrForm, 14},
		{"(add x " + unused(101) + ")", api.ErrMany, 7 + 1105}, {"(add (fst 1) " + unused(101) + ")", api.ErrMany, 13 + 1105}, {chain(101), api.ErrMany, 800},
		{"(add x (fst 1))", api.ErrName, 5}, {"(add (fst 1) x)", api.ErrType, 5}, {"(fst (add x 1))", api.ErrName, 10}, {"(add (pair 1 2) x)", api.ErrName, 16},
		{"(pair " + chain(64) + " x)", api.ErrBig, 6}, {"(pair x " + chain(64) + ")", api.ErrName, 6}, {"(pair (fst 1) " + chain(64) + ")", api.ErrType, 6},
		{"(if (pair 1 2) (fst 1) (snd x))", api.ErrType, 15}, {"(loop (pair 1 2) x y (fst 1))", api.ErrName, 19}, {"(let x (fst 1) y)", api.ErrType, 7},
	})
}
