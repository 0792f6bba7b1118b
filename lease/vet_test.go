package lease

import (
	"strings"
	"testing"

	"lease/api"
)

type vetCase struct {
	placed string
	e      api.Errno
	at     int
}

func vetAll(t *testing.T, cases []vetCase) {
	t.Helper()
	for _, c := range cases {
		e, at := Vet(c.placed)
		if e != c.e || at != c.at {
			t.Errorf("P7: Vet(%.70q) = %d, %d, want %d, %d", c.placed, e, at, c.e, c.at)
		}
	}
}

// at0 gives every pair of a plain program the region 0.
func at0(plain string) string { return strings.ReplaceAll(plain, "(pair", "(pair #0") }

func TestVetExamples(t *testing.T) {
	vetAll(t, []vetCase{
		{"(new #0 (pair #0 1 2))", api.ErrEscape, 0}, {"(if 1 (pair #0 1 2) (pair #1 1 2))", api.ErrMatch, 0}, {"(add (new #0 1) (fst (pair #0 1 2)))", api.ErrScope, 21}, {"(add (new #0 1) (new #0 2))", api.ErrTwice, 16}, {"(fst (pair #7 1 2))", api.OK, 0},
		{"(new #0 (fst (pair #0 1 2)))", api.OK, 0}, {"(new #0 (new #2 (fst (pair #0 (new #1 (fst (pair #1 1 2))) (pair #2 3 4)))))", api.OK, 0}, {"(loop 3 x 0 (add x (new #0 (fst (pair #0 1 x)))))", api.OK, 0}, {"(loop 2 x (pair #0 0 0) (pair #0 (fst x) (add (snd x) 1)))", api.OK, 0},
	})
}

func TestVetLength(t *testing.T) {
	blanks := func(n int) string { return strings.Repeat(" ", n) }
	vetAll(t, []vetCase{
		{"7" + blanks(api.MaxPlaced-1), api.OK, 0}, {"7" + blanks(api.MaxPlaced), api.ErrLong, 0}, {blanks(api.MaxPlaced-1) + "7", api.OK, 0}, {blanks(api.MaxPlaced) + "7", api.ErrLong, 0},
		{blanks(api.MaxPlaced), api.ErrForm, api.MaxPlaced}, {blanks(api.MaxPlaced + 1), api.ErrLong, 0}, {blanks(api.MaxText + 1), api.ErrForm, api.MaxText + 1},
		{strings.Repeat("\xff", api.MaxPlaced), api.ErrForm, 0}, {strings.Repeat("\xff", api.MaxPlaced+1), api.ErrLong, 0}, {strings.Repeat("(new #1 ", 1<<20), api.ErrLong, 0},
	})
}

func TestVetForm(t *testing.T) {
	vetAll(t, []vetCase{
		{"", api.ErrForm, 0}, {"(pair 1 2)", api.ErrForm, 6}, {"(pair", api.ErrForm, 5}, {"(pair #0", api.ErrForm, 8}, {"(pair #0 1", api.ErrForm, 10}, {"(pair #0 1 2", api.ErrForm, 12}, {"(pair #0 1)", api.ErrForm, 10}, {"(pair #0 1 2 3)", api.ErrForm, 13}, {"(pair #0 #1 2)", api.ErrForm, 9}, {"(pair x 1 2)", api.ErrForm, 6}, {"(pair (pair #0 1 2) 3)", api.ErrForm, 6},
		{"(new", api.ErrForm, 4}, {"(new #0", api.ErrForm, 7}, {"(new #0)", api.ErrForm, 7}, {"(new #0 1", api.ErrForm, 9}, {"(new #0 1 2)", api.ErrForm, 10}, {"(new 0 1)", api.ErrForm, 5}, {"(new (new #0 1))", api.ErrForm, 5}, {"(new x #0 1)", api.ErrForm, 5}, {"new", api.ErrForm, 0}, {"(let new 1 2)", api.ErrForm, 5}, {"(loop 1 new 2 3)", api.ErrForm, 8},
		{"#0", api.ErrForm, 0}, {"(fst #0 1)", api.ErrForm, 5}, {"(if #1 1 2 3)", api.ErrForm, 4}, {"(new #0 1) #0", api.ErrForm, 11}, {"(add 1 2) 3", api.ErrForm, 10}, {"(pairs #0 1 2)", api.ErrForm, 1}, {"(news #0 1)", api.ErrForm, 1},
		{"(new #0 1)\t", api.ErrForm, 10}, {"(new #0 07)", api.ErrForm, 8}, {"(new #0 abcdefghi)", api.ErrForm, 8}, {"(new #0 12345)", api.ErrForm, 8},
	})
}

func TestVetRegions(t *testing.T) {
	vetAll(t, []vetCase{
		{"(new #0 1)", api.OK, 0}, {"(new #10 1)", api.OK, 0}, {"(new #999 (fst (pair #999 1 2)))", api.OK, 0}, {"(new#7(fst(pair#7(pair#8 1 2)3)))", api.OK, 0}, {"(new #999 (pair #999 1 2))", api.ErrEscape, 0},
		{"(new #1000 1)", api.ErrForm, 5}, {"(new #01 1)", api.ErrForm, 5}, {"(new #00 1)", api.ErrForm, 5}, {"(new # 1 1)", api.ErrForm, 5}, {"(new #x 1)", api.ErrForm, 5}, {"(new ##1 1)", api.ErrForm, 5}, {"(new #-1 1)", api.ErrForm, 5},
		{"(pair #1000 1 2)", api.ErrForm, 6}, {"(pair #1234 1 2)", api.ErrForm, 6}, {"(pair #010 1 2)", api.ErrForm, 6}, {"(pair #", api.ErrForm, 6}, {"(pair #100 1 2)", api.OK, 0},
	})
}

func TestVetPairs(t *testing.T) {
	nested := strings.Repeat("(pair #0 ", 101) + "1" + strings.Repeat(" 2)", 101)
	vetAll(t, []vetCase{
		{at0(unused(api.MaxPairs)), api.OK, 0}, {at0(unused(api.MaxPairs + 1)), api.ErrMany, 100*14 + 5}, {at0(unused(api.MaxPairs + 50)), api.ErrMany, 100*14 + 5}, {nested, api.ErrMany, 900},
		{"(new #0 " + at0(unused(api.MaxPairs)) + ")", api.OK, 0}, {"(new #0 " + at0(unused(api.MaxPairs+1)) + ")", api.ErrMany, 8 + 100*14 + 5},
		{strings.Repeat("(new #0 ", 101) + "1" + strings.Repeat(")", 101), api.ErrTwice, 8},
	})
}

func TestVetNamesAndTypes(t *testing.T) {
	vetAll(t, []vetCase{
		{"(new #0 x)", api.ErrName, 8}, {"(let x (new #0 x) 1)", api.ErrName, 15}, {"(let x 1 (new #0 x))", api.OK, 0}, {"(loop 2 x 1 (new #0 x))", api.OK, 0}, {"(add (new #0 (let x 1 x)) x)", api.ErrName, 26},
		{"(fst (new #1 2))", api.ErrType, 0}, {"(new #1 (fst 2))", api.ErrType, 8}, {"(add (new #1 (pair #2 1 2)) 1)", api.ErrType, 0}, {"(if (pair #0 1 2) 1 1)", api.ErrType, 0}, {"(if 1 (pair #0 1 2) (new #1 1))", api.ErrType, 0}, {"(loop 1 x (pair #0 1 2) (new #1 1))", api.ErrType, 0},
		{at0(chain(api.MaxType)), api.OK, 0}, {at0(chain(api.MaxType + 1)), api.ErrBig, 0}, {"(new #1 " + at0(chain(api.MaxType)) + ")", api.OK, 0}, {"(new #1 " + at0(chain(api.MaxType+1)) + ")", api.ErrBig, 8}, {at0(doubled(6)), api.OK, 0}, {at0(doubled(7)), api.ErrBig, 9 + 6*21 + 7},
		{"(pair #1 " + at0(chain(31)) + " " + at0(chain(31)) + ")", api.OK, 0}, {"(pair #1 " + at0(chain(32)) + " " + at0(chain(31)) + ")", api.ErrBig, 0},
	})
}

func TestVetTwice(t *testing.T) {
	vetAll(t, []vetCase{
		{"(new #0 (new #0 1))", api.ErrTwice, 8}, {"(new #0 (new #1 1))", api.OK, 0}, {"(add (new #1 1) (new #2 (add (new #3 1) (new #2 1))))", api.ErrTwice, 40},
		{"(new #1 (add (new #2 1) (add (new #2 1) (new #1 1))))", api.ErrTwice, 29}, {"(if 1 (new #5 1) (new #5 1))", api.ErrTwice, 17}, {"(add (new #4 (new #5 (new #4 1))) (new #5 1))", api.ErrTwice, 21},
		{"(add (new #10 1) (new #100 1))", api.OK, 0}, {"(add (new #999 1) (new #999 1))", api.ErrTwice, 18},
	})
}

func TestVetScope(t *testing.T) {
	vetAll(t, []vetCase{
		{"(fst (pair #0 (new #0 1) 2))", api.ErrScope, 5}, {"(add (fst (pair #0 1 2)) (new #0 1))", api.ErrScope, 10}, {"(add (new #0 1) (fst (pair #1 1 2)))", api.OK, 0},
		{"(let x (new #0 (fst (pair #0 1 2))) (fst (pair #0 x x)))", api.ErrScope, 41}, {"(let x (pair #0 1 2) (new #0 (fst x)))", api.ErrScope, 7},
		{"(fst (pair #1 (fst (pair #0 1 2)) (new #0 (new #1 1))))", api.ErrScope, 5}, {"(add (new #0 (fst (pair #1 1 2))) (new #1 (fst (pair #0 1 2))))", api.ErrScope, 18},
		{"(new #0 (add (fst (pair #0 1 2)) (snd (pair #0 1 2))))", api.OK, 0},
	})
}

func TestVetMatch(t *testing.T) {
	vetAll(t, []vetCase{
		{"(if 0 (pair #0 1 (pair #1 2 3)) (pair #0 1 (pair #2 2 3)))", api.ErrMatch, 0}, {"(if 0 (pair #0 (pair #1 2 3) 1) (pair #0 (pair #2 2 3) 1))", api.ErrMatch, 0}, {"(if 0 (pair #0 1 (pair #1 2 3)) (pair #1 1 (pair #0 2 3)))", api.ErrMatch, 0},
		{"(if 0 (pair #0 1 (pair #0 2 3)) (pair #0 1 (pair #0 2 3)))", api.OK, 0}, {"(if 1 (pair #4 1 2) (pair #4 3 4))", api.OK, 0}, {"(add 1 (fst (if 1 (pair #4 1 2) (pair #5 3 4))))", api.ErrMatch, 12},
		{"(loop 2 x (pair #0 0 0) (pair #1 (fst x) 1))", api.ErrMatch, 0}, {"(loop 0 x (pair #0 0 0) x)", api.OK, 0}, {"(loop 2 x (pair #0 0 0) (let y (pair #1 1 2) x))", api.OK, 0}, {"(loop 2 x (pair #0 0 0) (let y (pair #1 1 2) y))", api.ErrMatch, 0},
		{"(loop 2 x (pair #0 (pair #1 1 2) (pair #1 3 4)) (pair #0 (snd x) (fst x)))", api.OK, 0}, {"(loop 2 x (pair #0 (pair #1 1 2) (pair #2 3 4)) (pair #0 (snd x) (fst x)))", api.ErrMatch, 0},
		{"(let x (pair #0 1 2) (if 1 x (pair #0 3 4)))", api.OK, 0}, {"(let x (pair #0 1 2) (if 1 x (pair #1 3 4)))", api.ErrMatch, 21}, {"(fst (if 1 (pair #0 1 (pair #1 2 3)) (pair #0 1 (pair #2 2 3))))", api.ErrMatch, 5},
	})
}

func TestVetEscape(t *testing.T) {
	vetAll(t, []vetCase{
		{"(fst (new #0 (pair #0 1 2)))", api.ErrEscape, 5}, {"(let x (new #0 (pair #0 1 2)) 5)", api.ErrEscape, 7}, {"(new #1 (pair #0 (pair #1 1 2) 3))", api.ErrEscape, 0}, {"(new #1 (pair #0 3 (pair #1 1 2)))", api.ErrEscape, 0}, {"(new #0 (let x (pair #0 1 2) x))", api.ErrEscape, 0},
		{"(new #1 (fst (pair #0 (pair #1 1 2) 3)))", api.ErrEscape, 0}, {"(new #1 (snd (pair #0 (pair #1 1 2) 3)))", api.OK, 0}, {"(new #0 (fst (pair #0 (pair #1 1 2) 3)))", api.OK, 0}, {"(new #2 (pair #1 1 2))", api.OK, 0},
		{"(new #0 (if 1 (pair #0 1 2) (pair #0 1 2)))", api.ErrEscape, 0}, {"(new #0 (loop 1 x (pair #0 1 2) x))", api.ErrEscape, 0}, {"(new #0 (new #1 (pair #0 1 2)))", api.ErrEscape, 0}, {"(new #0 (new #1 (pair #1 1 2)))", api.ErrEscape, 8}, {"(new #0 (fst (let x (pair #0 1 2) (new #1 (fst (pair #1 x 1))))))", api.OK, 0},
	})
}

func TestVetFirstOfSeveral(t *testing.T) {
	many := at0(unused(101))
	big := at0(chain(64))
	vetAll(t, []vetCase{
		{many + " #", api.ErrForm, len(many) + 1}, {"(new #0 (new #0 x)", api.ErrForm, 18}, {"(add (new #0 (pair #0 1 2)) !", api.ErrForm, 28},
		{"(add x " + many + ")", api.ErrMany, 7 + 1405}, {"(new #1 (new #1 " + many + "))", api.ErrMany, 16 + 1405},
		{"(add x (fst 1))", api.ErrName, 5}, {"(add (fst 1) x)", api.ErrType, 5}, {"(fst (add (new #0 x) 1))", api.ErrName, 18}, {"(pair #0 " + big + " x)", api.ErrBig, 9}, {"(pair #0 x " + big + ")", api.ErrName, 9}, {"(pair #0 (fst 1) " + big + ")", api.ErrType, 9}, {"(pair #0 " + big + " (fst 1))", api.ErrBig, 9},
		{"(add (new #0 1) (add (new #0 2) x))", api.ErrName, 32}, {"(add (new #0 (fst (new #0 2))) 3)", api.ErrType, 13}, {"(pair #1 (new #0 (new #0 1)) " + big + ")", api.ErrBig, 29},
		{"(fst (if 1 (new #0 (pair #0 1 2)) 3))", api.ErrType, 5}, {"(add (fst (pair #0 (new #0 1) 2)) x)", api.ErrName, 34}, {"(if 1 (pair #0 1 2) (pair #1 1 x))", api.ErrName, 31},
		{"(add (fst (pair #0 1 2)) (add (new #0 1) (new #0 2)))", api.ErrTwice, 41}, {"(add (fst (new #0 (pair #0 1 2))) (new #0 1))", api.ErrTwice, 34}, {"(add (fst (if 1 (pair #0 1 2) (pair #1 1 2))) (add (new #2 1) (new #2 1)))", api.ErrTwice, 62},
		{"(add (fst (new #1 (pair #1 1 2))) (add (new #0 1) (fst (pair #0 1 2))))", api.ErrScope, 55}, {"(add (fst (if 1 (pair #2 1 2) (pair #1 1 2))) (add (new #0 1) (fst (pair #0 1 2))))", api.ErrScope, 67},
		{"(if 1 (new #0 (pair #0 1 2)) (pair #1 1 2))", api.ErrEscape, 6}, {"(new #0 (if 1 (pair #0 1 2) (pair #1 1 2)))", api.ErrMatch, 8}, {"(new #0 (fst (if 1 (pair #0 1 2) (pair #1 1 2))))", api.ErrMatch, 13},
		{"(add (fst (new #0 (pair #0 1 2))) (fst (if 1 (pair #1 1 2) (pair #2 1 2))))", api.ErrEscape, 10}, {"(add (fst (if 1 (pair #1 1 2) (pair #2 1 2))) (fst (new #0 (pair #0 1 2))))", api.ErrMatch, 10}, {"(new #0 (pair #0 (fst (new #1 (pair #1 1 2))) 3))", api.ErrEscape, 22},
	})
}
