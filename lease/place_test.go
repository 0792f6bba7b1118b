package lease

import (
	"strconv"
	"strings"
	"testing"

	"lease/api"
)

// placeAll takes rows of a plain program and what Place is to write of it, and looks whether that keeps to P9 too.
func placeAll(t *testing.T, cases [][2]string) {
	t.Helper()
	for _, c := range cases {
		got, e := Place(c[0])
		if got != c[1] || e != api.OK {
			t.Errorf("P5: Place(%.90q) = %q, %d, want %q", c[0], got, e, c[1])
		}
		samePlaced(t, c[0], api.MaxFuel)
	}
}

// samePlaced looks whether what Place writes is taken, is the same program, and runs as it does.
func samePlaced(t *testing.T, src string, fuel int) (string, api.Result, api.Errno) {
	t.Helper()
	placed, e := Place(src)
	if e != api.OK {
		t.Fatalf("P5: Place(%q) has the error %d", src, e)
	}
	if e, at := Vet(placed); e != api.OK || at != 0 {
		t.Fatalf("P9: Vet of Place(%q), %q, = %d, %d", src, placed, e, at)
	}
	tidy := []string{}
	for _, token := range refTokens(src) {
		tidy = append(tidy, token.text)
	}
	if text, e := Erase(placed); text != refTidy(tidy) || e != api.OK {
		t.Fatalf("P9: Erase of Place(%q), %q, = %q, %d", src, placed, text, e)
	}
	plain, plainE := Eval(src, fuel)
	x, e := Run(placed, fuel)
	if e != plainE || x.Value != plain.Value || x.Steps != plain.Steps || x.Cells != plain.Cells {
		t.Fatalf("P9: Run(%q, %d) = %+v, %d, Eval(%q) = %+v, %d", placed, fuel, x, e, src, plain, plainE)
	}
	if x.Most > plain.Most || x.Left > plain.Left {
		t.Fatalf("P9: Run(%q, %d) = %+v, Eval(%q) = %+v", placed, fuel, x, src, plain)
	}
	return placed, x, e
}

func TestPlaceExamples(t *testing.T) {
	placeAll(t, [][2]string{
		{"(fst (pair 1 2))", "(new #0 (fst (pair #0 1 2)))"}, {"(pair 1 2)", "(pair #0 1 2)"},
		{"(let x (pair 1 2) (add (fst x) (snd x)))", "(new #0 (let x (pair #0 1 2) (add (fst x) (snd x))))"},
		{"(fst (pair (fst (pair 1 2)) (pair 3 4)))", "(new #0 (new #2 (fst (pair #0 (new #1 (fst (pair #1 1 2))) (pair #2 3 4)))))"},
		{"(let x (if 1 (pair 1 2) (pair 3 4)) (fst x))", "(new #0 (let x (if 1 (pair #0 1 2) (pair #0 3 4)) (fst x)))"},
		{"(loop 3 x 0 (add x (fst (pair 1 x))))", "(loop 3 x 0 (add x (new #0 (fst (pair #0 1 x)))))"},
		{"(loop 2 x (pair 0 0) (pair (fst x) (add (snd x) 1)))", "(loop 2 x (pair #0 0 0) (pair #0 (fst x) (add (snd x) 1)))"},
	})
}

func TestPlaceFewPairs(t *testing.T) {
	placeAll(t, [][2]string{
		{"0", "0"}, {"9999", "9999"}, {"(add 1 2)", "(add 1 2)"}, {"(let x 1 (sub x x))", "(let x 1 (sub x x))"}, {"(loop 3 x 0 (add x 1))", "(loop 3 x 0 (add x 1))"}, {"(if (less 1 2) 3 4)", "(if (less 1 2) 3 4)"},
		{"(snd (pair 1 2))", "(new #0 (snd (pair #0 1 2)))"}, {"(let x 1 (pair x x))", "(let x 1 (pair #0 x x))"}, {"(let x (pair 1 2) x)", "(let x (pair #0 1 2) x)"}, {"(let x (pair 1 2) 5)", "(new #0 (let x (pair #0 1 2) 5))"},
		{"(pair (pair 1 2) (pair 3 4))", "(pair #0 (pair #1 1 2) (pair #2 3 4))"},
	})
}

func TestPlaceParts(t *testing.T) {
	placeAll(t, [][2]string{
		{"(if 0 (pair 1 2) (pair 3 4))", "(if 0 (pair #0 1 2) (pair #0 3 4))"},
		{"(if 0 (if 1 (pair 1 2) (pair 3 4)) (if 1 (pair 5 6) (pair 7 8)))", "(if 0 (if 1 (pair #0 1 2) (pair #0 3 4)) (if 1 (pair #0 5 6) (pair #0 7 8)))"},
		{"(if (fst (pair 0 1)) (pair 2 3) (pair 4 5))", "(if (new #0 (fst (pair #0 0 1))) (pair #1 2 3) (pair #1 4 5))"},
		{"(if 1 (fst (pair 1 2)) (fst (pair 3 4)))", "(if 1 (new #0 (fst (pair #0 1 2))) (new #1 (fst (pair #1 3 4))))"},
		{"(if 1 (pair 1 (pair 2 3)) (pair 4 (pair 5 6)))", "(if 1 (pair #0 1 (pair #1 2 3)) (pair #0 4 (pair #1 5 6)))"},
		{"(if 1 (pair (pair 1 2) (pair 3 4)) (pair (pair 5 6) (pair 7 8)))", "(if 1 (pair #0 (pair #1 1 2) (pair #2 3 4)) (pair #0 (pair #1 5 6) (pair #2 7 8)))"},
		{"(if 1 (fst (pair (pair 1 2) (pair 3 4))) (pair 5 6))", "(if 1 (new #0 (new #2 (fst (pair #0 (pair #1 1 2) (pair #2 3 4))))) (pair #1 5 6))"},
		{"(if 1 (snd (pair (pair 1 2) (pair 3 4))) (pair 5 6))", "(if 1 (new #0 (new #1 (snd (pair #0 (pair #1 1 2) (pair #2 3 4))))) (pair #2 5 6))"},
	})
}

func TestPlaceLoops(t *testing.T) {
	placeAll(t, [][2]string{
		{"(loop 3 x (pair 1 2) x)", "(loop 3 x (pair #0 1 2) x)"}, {"(loop 3 x (pair 1 2) (pair 3 4))", "(loop 3 x (pair #0 1 2) (pair #0 3 4))"},
		{"(loop (fst (pair 2 2)) x (pair 1 2) (pair (snd x) 5))", "(loop (new #0 (fst (pair #0 2 2))) x (pair #1 1 2) (pair #1 (snd x) 5))"},
		{"(loop 3 x (pair (pair 1 2) (pair 3 4)) (pair (snd x) (fst x)))", "(loop 3 x (pair #0 (pair #1 1 2) (pair #1 3 4)) (pair #0 (snd x) (fst x)))"},
		{"(loop 3 x (pair (pair 1 2) (pair 3 4)) (pair (fst x) (snd x)))", "(loop 3 x (pair #0 (pair #1 1 2) (pair #2 3 4)) (pair #0 (fst x) (snd x)))"},
		{"(loop 3 x (pair (pair 1 2) (pair 3 4)) (pair (fst x) (fst x)))", "(loop 3 x (pair #0 (pair #1 1 2) (pair #1 3 4)) (pair #0 (fst x) (fst x)))"},
		{"(loop 3 x (pair 1 (pair 2 3)) (pair 4 (snd x)))", "(loop 3 x (pair #0 1 (pair #1 2 3)) (pair #0 4 (snd x)))"},
		{"(loop 3 x (pair 1 2) (let y (pair 3 4) x))", "(loop 3 x (pair #0 1 2) (new #1 (let y (pair #1 3 4) x)))"},
		{"(loop 3 x (pair 1 2) (let y (pair 3 4) y))", "(loop 3 x (pair #0 1 2) (let y (pair #0 3 4) y))"},
		{"(fst (loop 3 x (pair 1 2) (pair (fst (pair 3 4)) (fst x))))", "(new #0 (fst (loop 3 x (pair #0 1 2) (pair #0 (new #1 (fst (pair #1 3 4))) (fst x)))))"},
		{"(let p (pair 1 2) (loop 3 x 0 (add x (fst p))))", "(new #0 (let p (pair #0 1 2) (loop 3 x 0 (add x (fst p)))))"},
		{"(loop 2 x 0 (fst (loop 2 y (pair x 1) (pair (snd y) x))))", "(loop 2 x 0 (new #0 (fst (loop 2 y (pair #0 x 1) (pair #0 (snd y) x)))))"},
	})
}

func TestPlaceNames(t *testing.T) {
	placeAll(t, [][2]string{
		{"(let x (pair 1 2) (if 1 x (pair 3 4)))", "(let x (pair #0 1 2) (if 1 x (pair #0 3 4)))"}, {"(let x (pair 1 2) (if 1 x x))", "(let x (pair #0 1 2) (if 1 x x))"},
		{"(let a (pair 1 2) (let b (pair 3 4) (let c (pair 5 6) (if 1 a c))))", "(let a (pair #0 1 2) (new #1 (let b (pair #1 3 4) (let c (pair #0 5 6) (if 1 a c)))))"},
		{"(let x (pair 1 2) (add (fst (if 1 x (pair 3 4))) (fst (if 1 x (pair 5 6)))))", "(new #0 (let x (pair #0 1 2) (add (fst (if 1 x (pair #0 3 4))) (fst (if 1 x (pair #0 5 6))))))"},
		{"(let x (pair 1 2) (let y (pair 3 4) (add (fst x) (fst y))))", "(new #0 (let x (pair #0 1 2) (new #1 (let y (pair #1 3 4) (add (fst x) (fst y))))))"},
		{"(let x (pair 1 2) (let x (pair 3 4) (if 1 x x)))", "(new #0 (let x (pair #0 1 2) (let x (pair #1 3 4) (if 1 x x))))"},
		{"(let x (pair 1 2) (let y (let x (pair 3 4) (fst x)) (if y x x)))", "(let x (pair #0 1 2) (let y (new #1 (let x (pair #1 3 4) (fst x))) (if y x x)))"},
		{"(let a (pair 1 2) (let b (pair 3 4) (let c (pair 5 6) (if (fst (if 1 b c)) a b))))", "(let a (pair #0 1 2) (let b (pair #0 3 4) (let c (pair #0 5 6) (if (fst (if 1 b c)) a b))))"},
		{"(let a (pair 1 2) (let b (pair 3 4) (let c (pair 5 6) (let d (pair 7 8) (add (fst (if 1 d c)) (add (fst (if 1 b a)) (fst (if 1 c b))))))))", "(new #0 (let a (pair #0 1 2) (let b (pair #0 3 4) (let c (pair #0 5 6) (let d (pair #0 7 8) (add (fst (if 1 d c)) (add (fst (if 1 b a)) (fst (if 1 c b)))))))))"},
		{"(let x (pair 1 2) (let y (pair x x) (let z (pair 3 4) (if 0 (fst y) z))))", "(let x (pair #0 1 2) (new #1 (let y (pair #1 x x) (let z (pair #0 3 4) (if 0 (fst y) z)))))"},
	})
}

func TestPlacePairsOfPairs(t *testing.T) {
	placeAll(t, [][2]string{
		{"(let x (pair (pair 1 2) (pair 3 4)) (if 1 x (pair (snd x) (fst x))))", "(let x (pair #0 (pair #1 1 2) (pair #1 3 4)) (if 1 x (pair #0 (snd x) (fst x))))"},
		{"(let x (pair (pair 1 2) (pair 3 4)) (if 0 (fst x) (snd x)))", "(new #0 (let x (pair #0 (pair #1 1 2) (pair #1 3 4)) (if 0 (fst x) (snd x))))"},
		{"(let x (pair (pair 1 2) (pair 3 4)) (fst (fst x)))", "(new #0 (new #1 (new #2 (let x (pair #0 (pair #1 1 2) (pair #2 3 4)) (fst (fst x))))))"},
		{"(let x (pair (pair 1 2) 3) (let y (pair (pair 4 5) 6) (if 1 (fst x) (fst y))))", "(new #0 (let x (pair #0 (pair #1 1 2) 3) (new #2 (let y (pair #2 (pair #1 4 5) 6) (if 1 (fst x) (fst y))))))"},
		{"(pair (if 1 (pair 1 2) (pair 3 4)) (if 1 (pair 5 6) (pair 7 8)))", "(pair #0 (if 1 (pair #1 1 2) (pair #1 3 4)) (if 1 (pair #2 5 6) (pair #2 7 8)))"},
		{"(let p (pair 1 2) (pair (if 1 p (pair 3 4)) (if 1 p (pair 5 6))))", "(let p (pair #0 1 2) (pair #1 (if 1 p (pair #0 3 4)) (if 1 p (pair #0 5 6))))"},
		{"(fst (fst (if 1 (pair (pair 1 2) 3) (pair (pair 4 5) 6))))", "(new #1 (fst (new #0 (fst (if 1 (pair #0 (pair #1 1 2) 3) (pair #0 (pair #1 4 5) 6))))))"},
	})
}

func TestPlaceNumbers(t *testing.T) {
	placeAll(t, [][2]string{
		{"(pair (pair (pair 1 2) 3) 4)", "(pair #0 (pair #1 (pair #2 1 2) 3) 4)"}, {"(pair 1 (pair 2 (pair 3 4)))", "(pair #0 1 (pair #1 2 (pair #2 3 4)))"},
		{"(pair (fst (pair 1 2)) (pair 3 4))", "(pair #0 (new #1 (fst (pair #1 1 2))) (pair #2 3 4))"},
		{"(let a (pair 1 2) (let b (pair 3 4) (pair (if 1 a (pair 5 6)) (if 1 b (pair 7 8)))))", "(let a (pair #0 1 2) (let b (pair #1 3 4) (pair #2 (if 1 a (pair #0 5 6)) (if 1 b (pair #1 7 8)))))"},
		{"(let a (pair 1 2) (let b (pair 3 4) (pair (if 1 b (pair 5 6)) (if 1 a (pair 7 8)))))", "(let a (pair #0 1 2) (let b (pair #1 3 4) (pair #2 (if 1 b (pair #1 5 6)) (if 1 a (pair #0 7 8)))))"},
		{"(let a (pair 1 2) (pair (pair 3 4) (pair (if 1 (pair 5 6) a) 7)))", "(let a (pair #0 1 2) (pair #1 (pair #2 3 4) (pair #3 (if 1 (pair #0 5 6) a) 7)))"},
	})
}

func TestPlaceNews(t *testing.T) {
	placeAll(t, [][2]string{
		{"(add 1 (fst (pair 1 2)))", "(add 1 (new #0 (fst (pair #0 1 2))))"}, {"(add (fst (if 1 (pair 1 2) (pair 3 4))) 5)", "(add (new #0 (fst (if 1 (pair #0 1 2) (pair #0 3 4)))) 5)"},
		{"(let x (let y (pair 1 2) (fst y)) (add x 1))", "(let x (new #0 (let y (pair #0 1 2) (fst y))) (add x 1))"}, {"(add (let y (pair 1 2) 3) 4)", "(add (new #0 (let y (pair #0 1 2) 3)) 4)"},
		{"(let x (fst (pair 1 2)) (snd (pair x x)))", "(let x (new #0 (fst (pair #0 1 2))) (new #1 (snd (pair #1 x x))))"},
		{"(fst (pair (pair 1 2) 3))", "(new #0 (fst (pair #0 (pair #1 1 2) 3)))"}, {"(snd (pair (pair 1 2) 3))", "(new #0 (new #1 (snd (pair #0 (pair #1 1 2) 3))))"}, {"(let x (pair (pair 1 2) 3) (fst x))", "(new #0 (let x (pair #0 (pair #1 1 2) 3) (fst x)))"},
		{"(pair 1 (let x (pair 2 3) 4))", "(pair #0 1 (new #1 (let x (pair #1 2 3) 4)))"}, {"(let x (pair 1 2) (pair (fst x) (pair 3 4)))", "(new #0 (let x (pair #0 1 2) (pair #1 (fst x) (pair #2 3 4))))"},
		{"(let y (let x (pair 1 (pair 2 3)) (snd x)) (fst y))", "(new #1 (let y (new #0 (let x (pair #0 1 (pair #1 2 3)) (snd x))) (fst y)))"}, {"(let x (pair 1 (pair 2 3)) (let y (snd x) (fst y)))", "(new #0 (new #1 (let x (pair #0 1 (pair #1 2 3)) (let y (snd x) (fst y)))))"},
		{"(let x (pair 1 2) (add 5 (fst (let y x y))))", "(new #0 (let x (pair #0 1 2) (add 5 (fst (let y x y)))))"}, {"(if 1 2 (fst (let x (pair 3 4) x)))", "(if 1 2 (new #0 (fst (let x (pair #0 3 4) x))))"},
	})
}

func TestPlaceSeveralNews(t *testing.T) {
	placeAll(t, [][2]string{
		{"(let x (pair (pair 1 2) (pair 3 4)) 5)", "(new #0 (new #1 (new #2 (let x (pair #0 (pair #1 1 2) (pair #2 3 4)) 5))))"},
		{"(add 1 (snd (pair (pair 1 2) 3)))", "(add 1 (new #0 (new #1 (snd (pair #0 (pair #1 1 2) 3)))))"},
		{"(add 1 (fst (pair (snd (pair 1 2)) (pair (fst (pair 3 4)) (pair 5 6)))))", "(add 1 (new #0 (new #2 (new #4 (fst (pair #0 (new #1 (snd (pair #1 1 2))) (pair #2 (new #3 (fst (pair #3 3 4))) (pair #4 5 6))))))))"},
		{"(fst (snd (pair (pair 1 2) (pair 3 (pair 4 5)))))", "(new #2 (new #3 (fst (new #0 (new #1 (snd (pair #0 (pair #1 1 2) (pair #2 3 (pair #3 4 5)))))))))"},
	})
}

func TestPlaceTidy(t *testing.T) {
	placeAll(t, [][2]string{
		{"\n( fst\n( pair 1\n\n2 ) )\n ", "(new #0 (fst (pair #0 1 2)))"}, {" 7\n", "7"}, {"(fst(pair(pair 1 2)(pair 3 4)))", "(new #0 (new #2 (fst (pair #0 (pair #1 1 2) (pair #2 3 4)))))"},
		{"(let x(pair 1 2)(if(less(fst x)(snd x))(add 1 2)(sub 3 4)))", "(new #0 (let x (pair #0 1 2) (if (less (fst x) (snd x)) (add 1 2) (sub 3 4))))"},
		{"(loop(fst(pair 1 2))abcdefgh(pair 3 4)(let y abcdefgh y))", "(loop (new #0 (fst (pair #0 1 2))) abcdefgh (pair #1 3 4) (let y abcdefgh y))"}, {"(let a0a)", "(let a 0 a)"}, {"(loop 1a(pair 2 3)a)", "(loop 1 a (pair #0 2 3) a)"},
	})
}

// counted gives a text n times, each time with its number, from 0 on, for the %.
func counted(text string, n int) string {
	row := ""
	for i := 0; i < n; i++ {
		row += strings.ReplaceAll(text, "%", strconv.Itoa(i))
	}
	return row
}

func TestPlaceManyPairs(t *testing.T) {
	n := api.MaxPairs
	closed := func(n int) string { return strings.Repeat(")", n) }
	placeAll(t, [][2]string{
		{unused(n), counted("(new #% (fst (pair #% ", n) + "0" + strings.Repeat(" 1)))", n)},
		{strings.Repeat("(if 1 (pair 1 2) ", n-1) + "(pair 1 2)" + closed(n-1), strings.Repeat("(if 1 (pair #0 1 2) ", n-1) + "(pair #0 1 2)" + closed(n-1)},
		{strings.Repeat("(let x (pair 1 2) ", n) + "5" + closed(n), counted("(new #% (let x (pair #% 1 2) ", n) + "5" + closed(2*n)},
		{strings.Repeat("(let x (pair 1 2) ", n) + "x" + closed(n), counted("(new #% (let x (pair #% 1 2) ", n-1) + "(let x (pair #99 1 2) x" + closed(2*n-1)},
	})
}

func TestPlaceBigTypes(t *testing.T) {
	n := api.MaxType
	closed := func(n int) string { return strings.Repeat(")", n) }
	chained := func(n int) string { return counted("(pair #% 1 ", n) + "2" + closed(n) }
	twice := "(let x 1 " + counted("(let x (pair #% x x) ", 6) + "x" + closed(7)
	placeAll(t, [][2]string{
		{chain(n), chained(n)}, {"(if 1 " + chain(50) + " " + chain(50) + ")", "(if 1 " + chained(50) + " " + chained(50) + ")"}, {"(fst " + chain(n) + ")", counted("(new #% ", n) + "(fst " + chained(n) + ")" + closed(n)},
		{doubled(6), twice}, {"(if 0 " + doubled(6) + " " + doubled(6) + ")", "(if 0 " + twice + " " + twice + ")"}, {"(fst (loop 2 x " + doubled(6) + " x))", "(new #5 (fst (loop 2 x " + twice + " x)))"},
	})
}

// A text of MaxText bytes and MaxPairs pairs with no blank too many grows most; what Place writes of it is still no longer than a placed program may be.
func TestPlaceLongTexts(t *testing.T) {
	pairs := api.MaxPairs
	sums := (api.MaxText - 12*pairs - 1) / 6
	src := strings.Repeat("(fst(pair", pairs) + strings.Repeat("(add", sums) + " 1 1)" + strings.Repeat("1)", sums-1) + strings.Repeat("1))", pairs)
	src += strings.Repeat("\n", api.MaxText-len(src))
	want := counted("(new #% (fst (pair #% ", pairs) + strings.Repeat("(add ", sums) + "1" + strings.Repeat(" 1)", sums) + strings.Repeat(" 1)))", pairs)
	placeAll(t, [][2]string{
		{src, want}, {"7" + strings.Repeat(" ", api.MaxText-1), "7"}, {strings.Repeat("\n", api.MaxText-1) + "7", "7"},
	})
}

func TestPlaceRefuses(t *testing.T) {
	for _, c := range []struct {
		src string
		e   api.Errno
	}{
		{"7" + strings.Repeat(" ", api.MaxText), api.ErrLong}, {strings.Repeat("(", 100000), api.ErrLong}, {strings.Repeat("(", api.MaxText), api.ErrForm},
		{"", api.ErrForm}, {"(pair 1", api.ErrForm}, {"(pair 1 2))", api.ErrForm}, {"(pair #0 1 2)", api.ErrForm}, {"(new #0 (fst (pair #0 1 2)))", api.ErrForm}, {"(new #0 1)", api.ErrForm}, {"(fst (pair 1 2)) !", api.ErrForm}, {"\xff", api.ErrForm},
		{unused(api.MaxPairs + 1), api.ErrMany}, {"(add x " + unused(api.MaxPairs+1) + ")", api.ErrMany}, {"x", api.ErrName}, {"(let x (pair 1 x) x)", api.ErrName}, {"(loop x x 1 x)", api.ErrName},
		{"(fst 1)", api.ErrType}, {"(add 1 (pair 1 2))", api.ErrType}, {"(if 1 (pair 1 2) 3)", api.ErrType}, {"(if (pair 1 2) 3 4)", api.ErrType}, {"(loop 1 x (pair 1 2) (fst x))", api.ErrType}, {"(if 1 (pair (pair 1 2) 3) (pair 1 (pair 2 3)))", api.ErrType}, {chain(api.MaxType + 1), api.ErrBig}, {doubled(7), api.ErrBig},
	} {
		if text, e := Place(c.src); text != "" || e != c.e {
			t.Errorf("P5: Place(%.60q) = %.60q, %d, want the error %d", c.src, text, e, c.e)
		}
	}
}

func TestPlacedRuns(t *testing.T) {
	for _, c := range []struct {
		src  string
		most int
		left int
	}{
		{"7", 0, 0}, {"(pair 1 2)", 1, 1}, {"(fst (pair 1 2))", 1, 0}, {"(loop 3 x 0 (add x (fst (pair 1 x))))", 1, 0}, {"(loop 2 x (pair 0 0) (pair (fst x) (add (snd x) 1)))", 3, 3},
		{"(add (fst (pair 1 2)) (add (fst (pair 3 4)) (fst (pair 5 6))))", 1, 0}, {"(let x (pair 1 2) (add (fst x) (fst (pair 3 4))))", 2, 0}, {"(fst (loop 5 x (pair 0 0) (pair (fst (pair 1 2)) 3)))", 6, 0},
		{"(pair (fst (pair 1 2)) (fst (pair 3 4)))", 1, 1}, {"(fst (fst (pair (pair 1 2) (pair 3 4))))", 3, 0}, {"(fst (pair (pair 1 2) (pair 3 4)))", 3, 1}, {"(if 0 (pair 1 2) (fst (pair (pair 3 4) 5)))", 2, 1},
	} {
		placed, x, e := samePlaced(t, c.src, api.MaxFuel)
		if x.Most != c.most || x.Left != c.left || e != api.OK {
			t.Errorf("P9: Run(%q) = %+v, %d, want the most %d and the left %d", placed, x, e, c.most, c.left)
		}
		for fuel := 0; fuel <= x.Steps+1; fuel++ {
			if _, y, e := samePlaced(t, c.src, fuel); (e == api.OK) != (fuel >= x.Steps) || e == api.OK && y != x {
				t.Errorf("P9: Run(%q, %d) = %+v, %d, with fuel to spare %+v", placed, fuel, y, e, x)
			}
		}
	}
}
