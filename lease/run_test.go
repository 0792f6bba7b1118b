package lease

import (
	"math"
	"strings"
	"testing"

	"lease/api"
)

type runCase struct {
	placed string
	want   api.Result
}

// runAll runs each program with as many steps as it has, with more, and with fewer, of which one too few is the most.
func runAll(t *testing.T, cases []runCase) {
	t.Helper()
	for _, c := range cases {
		for _, fuel := range []int{c.want.Steps, c.want.Steps + 1, api.MaxFuel} {
			got, e := Run(c.placed, fuel)
			if e != api.OK || got != c.want {
				t.Errorf("P8: Run(%.90q, %d) = %+v, %d, want %+v", c.placed, fuel, got, e, c.want)
			}
		}
		for _, fuel := range []int{0, c.want.Steps / 2, c.want.Steps - 1} {
			got, e := Run(c.placed, fuel)
			if e != api.ErrFuel || got != (api.Result{}) {
				t.Errorf("P8: Run(%.90q, %d) = %+v, %d, want ErrFuel: it has %d steps", c.placed, fuel, got, e, c.want.Steps)
			}
		}
	}
}

type runFault struct {
	placed string
	fuel   int
	e      api.Errno
}

func runFaults(t *testing.T, cases []runFault) {
	t.Helper()
	for _, c := range cases {
		got, e := Run(c.placed, c.fuel)
		if e != c.e || got != (api.Result{}) {
			t.Errorf("P8: Run(%.90q, %d) = %+v, %d, want noughts and %d", c.placed, c.fuel, got, e, c.e)
		}
	}
}

// placed gives the result of a placed run.
func placed(value string, steps, cells, most, left int) api.Result {
	return api.Result{Value: value, Steps: steps, Cells: cells, Most: most, Left: left}
}

func TestRunExamples(t *testing.T) {
	runAll(t, []runCase{
		{"(loop 3 x 0 (add x (new #0 (fst (pair #0 1 x)))))", placed("3", 21, 3, 1, 0)},
		{"(loop 2 x (pair #0 0 0) (pair #0 (fst x) (add (snd x) 1)))", placed("[0 2]", 19, 3, 3, 3)},
		{"(let x (new #0 (pair #0 1 2)) 5)", placed("5", 5, 1, 1, 0)},
	})
	runFaults(t, []runFault{{"(fst (new #0 (pair #0 1 2)))", 9, api.ErrDead}, {"(new #0 (pair #0 1 2))", 9, api.ErrDead}, {"(let x (new #0 (pair #0 1 2)) 5)", 4, api.ErrFuel}})
}

// With no new at all, a placed program runs as its plain one does.
func TestRunWithoutNews(t *testing.T) {
	runAll(t, []runCase{
		{"0", placed("0", 1, 0, 0, 0)}, {"(pair #0 1 2)", placed("[1 2]", 3, 1, 1, 1)}, {"(fst (pair #999 1 2))", placed("1", 4, 1, 1, 1)}, {"(snd(pair#3 1(pair#4 2 3)))", placed("[2 3]", 6, 2, 2, 2)},
		{"(let x (pair #1 1 2) (pair #2 x x))", placed("[[1 2] [1 2]]", 7, 2, 2, 2)}, {"(if 0 (pair #0 1 2) (pair #0 3 4))", placed("[3 4]", 5, 1, 1, 1)}, {"(if 7 (pair #0 1 2) (pair #0 3 4))", placed("[1 2]", 5, 1, 1, 1)},
		{"(add 9999 2)", placed("1", 3, 0, 0, 0)}, {"(sub 1 2)", placed("9999", 3, 0, 0, 0)}, {"(less 1 2)", placed("1", 3, 0, 0, 0)}, {"(loop 0 x 7 (add x 1))", placed("7", 3, 0, 0, 0)},
		{at0("(loop 4998 x (pair 0 0) (pair (fst x) 1))"), placed("[0 1]", 19997, 4999, 4999, 4999)},
	})
}

func TestRunNewIsNoStep(t *testing.T) {
	many := func(n int) string { return strings.Repeat("(new #0 ", n) + "5" + strings.Repeat(")", n) }
	runAll(t, []runCase{
		{"(new #0 5)", placed("5", 1, 0, 0, 0)}, {"(new #5 (new #4 (new #5 5)))", placed("5", 1, 0, 0, 0)}, {many(900), placed("5", 1, 0, 0, 0)}, {"(add (new #0 1) (new #0 2))", placed("3", 3, 0, 0, 0)},
		{"(new #0 (loop (new #1 2) x (new #2 3) (new #3 (add x (new #4 x)))))", placed("12", 9, 0, 0, 0)},
		{"(new #0 (if (new #1 0) (new #2 (pair #3 1 2)) (new #4 (pair #3 3 4))))", placed("[3 4]", 5, 1, 1, 1)},
		{"(loop 9999 x 0 " + many(900) + ")", placed("5", 10002, 0, 0, 0)},
	})
}

func TestRunEndOfRegions(t *testing.T) {
	runAll(t, []runCase{
		{"(new #0 (fst (pair #0 1 2)))", placed("1", 4, 1, 1, 0)}, {"(new #1 (fst (pair #0 1 2)))", placed("1", 4, 1, 1, 1)}, {"(new #1 (pair #0 1 2))", placed("[1 2]", 3, 1, 1, 1)},
		{"(new #0 (new #2 (fst (pair #0 (new #1 (fst (pair #1 1 2))) (pair #2 3 4)))))", placed("1", 9, 3, 2, 0)},
		{"(add (new #0 (fst (pair #0 1 2))) (new #1 (fst (pair #1 3 4))))", placed("4", 9, 2, 1, 0)}, {"(new #0 (add (fst (pair #0 1 2)) (new #1 (fst (pair #1 3 4)))))", placed("4", 9, 2, 2, 0)},
		{"(pair #0 (new #1 (fst (pair #1 1 2))) (new #1 (snd (pair #1 3 4))))", placed("[1 4]", 9, 3, 1, 1)},
		{"(add (new #0 (fst (snd (pair #0 0 (pair #0 1 2))))) (fst (pair #1 3 4)))", placed("4", 12, 3, 2, 1)},
		{"(add (fst (pair #1 3 4)) (new #0 (fst (snd (pair #0 0 (pair #0 1 2))))))", placed("4", 12, 3, 3, 1)},
		{"(new #0 (let x (pair #0 1 2) (pair #1 (fst x) (snd x))))", placed("[1 2]", 9, 2, 2, 1)},
		{"(new #0 (add (fst (if 0 (pair #0 1 2) (pair #0 3 4))) (fst (pair #0 5 6))))", placed("8", 11, 2, 2, 0)},
	})
}

// A pair lives in the region of the innermost new about it, not in that of one beside it or within its parts.
func TestRunInnermostRegion(t *testing.T) {
	runAll(t, []runCase{
		{"(new #0 (add (fst (pair #0 1 2)) (new #0 (fst (pair #0 3 4)))))", placed("4", 9, 2, 2, 0)},
		{"(new #0 (add (new #0 (fst (pair #0 1 2))) (fst (pair #0 3 4))))", placed("4", 9, 2, 1, 0)},
		{"(new #0 (new #1 (add (new #0 (fst (pair #1 1 2))) (fst (pair #0 3 4)))))", placed("4", 9, 2, 2, 0)},
		{"(new #0 (let x (new #1 (pair #0 1 2)) (fst x)))", placed("1", 6, 1, 1, 0)},
		{"(new #0 (let x (new #1 (new #2 (pair #0 1 2))) (new #0 (new #1 (fst x)))))", placed("1", 6, 1, 1, 0)},
		{"(new #0 (let x (pair #0 1 2) (new #0 (let y (pair #0 3 x) (fst (snd y))))))", placed("1", 11, 2, 2, 0)},
		{"(pair #0 (new #0 1) (new #0 2))", placed("[1 2]", 3, 1, 1, 1)},
		{"(add (new #0 1) (fst (pair #0 1 2)))", placed("2", 6, 1, 1, 1)}, {"(add (fst (pair #0 1 2)) (new #0 1))", placed("2", 6, 1, 1, 1)},
	})
	runFaults(t, []runFault{
		{"(new #0 (fst (new #0 (pair #0 1 2))))", 99, api.ErrDead}, {"(new #0 (new #1 (fst (new #0 (new #1 (pair #0 1 2))))))", 99, api.ErrDead},
		{"(let x (new #0 (pair #0 1 2)) (new #0 (fst x)))", 99, api.ErrDead}, {"(new #0 (let x (new #1 (pair #1 1 2)) (new #1 (fst x))))", 99, api.ErrDead},
	})
}

// What takes the place of a region that has ended is another region.
func TestRunLaterRegionIsAnother(t *testing.T) {
	runFaults(t, []runFault{
		{"(let x (new #0 (pair #0 1 2)) (new #0 (add (fst (pair #0 3 4)) (fst x))))", 99, api.ErrDead},
		{"(let x (new #0 (pair #0 1 2)) (new #1 (add (fst (pair #1 3 4)) (snd x))))", 99, api.ErrDead},
		{"(loop 2 x (pair #1 1 2) (new #0 (let y (pair #0 3 4) (pair #0 (fst x) (fst y)))))", 99, api.ErrDead},
	})
}

func TestRunRegionsInLoops(t *testing.T) {
	runAll(t, []runCase{
		{"(loop 5 x 0 (new #0 (fst (pair #0 (add x 1) 0))))", placed("5", 33, 5, 1, 0)}, {"(new #0 (loop 5 x 0 (fst (pair #0 (add x 1) 0))))", placed("5", 33, 5, 5, 0)}, {"(loop 5 x 0 (new #1 (fst (pair #0 (add x 1) 0))))", placed("5", 33, 5, 5, 5)},
		{"(loop 3 x 0 (new #0 (add (fst (pair #0 1 x)) (fst (pair #0 x 2)))))", placed("3", 30, 6, 2, 0)},
		{"(loop 2 x 0 (new #0 (add (fst (pair #0 1 x)) (loop 3 y x (new #1 (fst (pair #1 y (pair #0 1 2))))))))", placed("2", 55, 14, 5, 0)},
		{"(new #0 (loop 2 x 0 (add (fst (pair #0 1 x)) (new #0 (fst (pair #0 x 2))))))", placed("2", 21, 4, 3, 0)},
		{"(loop 0 x 7 (new #0 (fst (pair #0 x 1))))", placed("7", 3, 0, 0, 0)}, {"(loop (new #0 (fst (pair #0 2 3))) x 7 (add x 1))", placed("9", 12, 1, 1, 0)},
		{"(loop 3 x (pair #0 0 0) (new #1 (let y (pair #1 (snd x) 1) (pair #0 (fst y) (add 1 (snd x))))))", placed("[2 3]", 41, 7, 5, 4)},
		{"(loop 3332 x 0 (new #0 (fst (pair #0 x 1))))", placed("0", 13331, 3332, 1, 0)},
	})
}

func TestRunUseOfTheDead(t *testing.T) {
	runFaults(t, []runFault{
		{"(fst (new #0 (pair #0 1 2)))", 4, api.ErrDead}, {"(snd (new #0 (pair #0 1 2)))", 4, api.ErrDead}, {"(fst (new #0 (pair #0 1 2)))", 3, api.ErrFuel}, {"(snd (new #0 (pair #0 1 2)))", 3, api.ErrFuel},
		{"(fst (snd (pair #0 1 (new #1 (pair #1 2 3)))))", 99, api.ErrDead}, {"(snd (fst (pair #0 (new #1 (pair #1 2 3)) 1)))", 99, api.ErrDead}, {"(let x (pair #1 (new #0 (pair #0 1 2)) 3) (add (snd x) (fst (fst x))))", 99, api.ErrDead},
		{"(let x (let y (new #0 (pair #0 1 2)) y) (snd x))", 99, api.ErrDead}, {"(fst (if 1 (new #0 (pair #0 1 2)) (pair #1 3 4)))", 99, api.ErrDead}, {"(fst (loop 1 x (pair #1 1 2) (new #0 (pair #0 3 4))))", 99, api.ErrDead}, {"(loop 2 x (pair #1 1 2) (new #0 (pair #0 (fst x) 4)))", 99, api.ErrDead},
		{"(loop (fst (new #0 (pair #0 1 2))) x 1 x)", 99, api.ErrDead}, {"(if (fst (new #0 (pair #0 1 2))) 3 4)", 99, api.ErrDead}, {"(new #1 (pair #2 (new #0 (fst (new #3 (pair #3 1 2)))) 5))", 99, api.ErrDead},
	})
	runAll(t, []runCase{
		{"(fst (if 0 (new #0 (pair #0 1 2)) (pair #1 3 4)))", placed("3", 6, 1, 1, 1)}, {"(if 0 (fst (new #0 (pair #0 1 2))) 4)", placed("4", 3, 0, 0, 0)}, {"(loop 0 x 3 (fst (new #0 (pair #0 1 2))))", placed("3", 3, 0, 0, 0)},
		{"(fst (loop 0 x (pair #1 1 2) (new #0 (pair #0 3 4))))", placed("1", 6, 1, 1, 1)}, {"(fst (loop 2 x (new #0 (pair #0 1 2)) (pair #1 3 4)))", placed("3", 12, 3, 2, 2)},
		{"(let x (new #0 (pair #0 1 2)) (let y x (let z (pair #1 y y) 5)))", placed("5", 11, 2, 1, 1)}, {"(fst (pair #1 1 (new #0 (pair #0 1 2))))", placed("1", 6, 2, 1, 1)}, {"(snd (pair #1 (new #0 (pair #0 1 2)) 7))", placed("7", 6, 2, 1, 1)},
	})
}

func TestRunDeadInTheEnd(t *testing.T) {
	runFaults(t, []runFault{
		{"(new #0 (pair #0 1 2))", 3, api.ErrDead}, {"(new #0 (pair #0 1 2))", 2, api.ErrFuel}, {"(new #1 (new #0 (pair #1 1 2)))", 3, api.ErrDead}, {"(new #0 (pair #1 1 (pair #0 2 3)))", 5, api.ErrDead}, {"(new #0 (pair #1 1 (pair #0 2 3)))", 4, api.ErrFuel}, {"(new #0 (pair #1 (pair #0 2 3) 1))", 5, api.ErrDead},
		{"(new #0 (pair #0 (pair #1 2 3) 1))", 5, api.ErrDead}, {"(pair #1 1 (pair #1 2 (pair #1 3 (new #0 (pair #0 4 5)))))", 99, api.ErrDead}, {"(pair #1 (pair #1 (pair #1 (new #0 (pair #0 4 5)) 3) 2) 1)", 99, api.ErrDead},
		{"(loop 0 x (new #0 (pair #0 1 2)) x)", 99, api.ErrDead}, {"(loop 1 x (new #0 (pair #0 1 2)) x)", 99, api.ErrDead}, {"(let x (new #0 (pair #0 1 2)) x)", 99, api.ErrDead}, {"(if 1 (new #0 (pair #0 1 2)) (pair #1 3 4))", 99, api.ErrDead}, {"(snd (pair #1 1 (new #0 (pair #0 1 2))))", 99, api.ErrDead},
	})
	runAll(t, []runCase{
		{"(new #0 (snd (pair #0 0 (pair #1 2 3))))", placed("[2 3]", 6, 2, 2, 1)}, {"(new #0 (fst (pair #1 (pair #1 2 3) (pair #0 4 5))))", placed("[2 3]", 8, 3, 3, 2)}, {"(if 0 (new #0 (pair #0 1 2)) (pair #1 3 4))", placed("[3 4]", 5, 1, 1, 1)},
	})
}

// Whichever comes first: a step for which there is no fuel, or the use of a dead cell.
func TestRunFirstOfTwoFaults(t *testing.T) {
	early := "(add (fst (new #0 (pair #0 1 2))) (loop 9999 x 0 (loop 9999 y 0 y)))"
	late := "(add (loop 2 x 0 (add x 1)) (fst (new #0 (pair #0 1 2))))"
	runFaults(t, []runFault{
		{early, 0, api.ErrFuel}, {early, 4, api.ErrFuel}, {early, 5, api.ErrDead}, {early, api.MaxFuel, api.ErrDead},
		{late, 12, api.ErrFuel}, {late, 13, api.ErrFuel}, {late, 14, api.ErrDead}, {late, api.MaxFuel, api.ErrDead},
		{"(fst (loop 9999 x (new #0 (pair #0 1 1)) (pair #1 (fst x) 5)))", 8, api.ErrFuel}, {"(fst (loop 9999 x (new #0 (pair #0 1 1)) (pair #1 (fst x) 5)))", 9, api.ErrDead}, {"(fst (loop 9999 x (new #0 (pair #0 1 1)) x))", api.MaxFuel, api.ErrDead}, {"(fst (loop 9999 x (new #0 (pair #0 1 1)) x))", 10005, api.ErrDead}, {"(fst (loop 9999 x (new #0 (pair #0 1 1)) x))", 10004, api.ErrFuel},
		{"(let x (new #0 (pair #0 1 2)) (loop 9999 y x (let z 1 (let z 1 y))))", api.MaxFuel, api.ErrFuel},
	})
}

// Run does not ask what Vet asks of regions, and Vet's errors are none of Run's.
func TestRunWhatVetRefuses(t *testing.T) {
	for _, c := range []struct {
		placed string
		vetE   api.Errno
		want   api.Result
		e      api.Errno
	}{
		{"(add (new #0 1) (new #0 (fst (pair #0 2 3))))", api.ErrTwice, placed("3", 6, 1, 1, 0), api.OK}, {"(new #0 (new #0 (pair #1 1 2)))", api.ErrTwice, placed("[1 2]", 3, 1, 1, 1), api.OK}, {"(new #0 (new #0 (pair #0 1 2)))", api.ErrTwice, api.Result{}, api.ErrDead},
		{"(add (new #0 1) (fst (pair #0 2 3)))", api.ErrScope, placed("3", 6, 1, 1, 1), api.OK}, {"(pair #0 (new #0 1) (fst (new #1 (pair #1 2 3))))", api.ErrScope, api.Result{}, api.ErrDead},
		{"(if 1 (pair #0 1 2) (pair #1 3 4))", api.ErrMatch, placed("[1 2]", 5, 1, 1, 1), api.OK}, {"(loop 2 x (pair #0 1 2) (pair #1 (snd x) (fst x)))", api.ErrMatch, placed("[1 2]", 15, 3, 3, 3), api.OK}, {"(new #1 (loop 2 x (pair #0 1 2) (pair #1 (snd x) (fst x))))", api.ErrMatch, api.Result{}, api.ErrDead}, {"(new #1 (loop 0 x (pair #0 1 2) (pair #1 (snd x) (fst x))))", api.ErrMatch, placed("[1 2]", 5, 1, 1, 1), api.OK},
		{"(let x (new #0 (pair #0 1 2)) 5)", api.ErrEscape, placed("5", 5, 1, 1, 0), api.OK}, {"(new #0 (pair #0 1 2))", api.ErrEscape, api.Result{}, api.ErrDead}, {"(if 0 (new #0 (pair #0 1 2)) (pair #0 3 4))", api.ErrScope, placed("[3 4]", 5, 1, 1, 1), api.OK},
	} {
		if vetE, _ := Vet(c.placed); vetE != c.vetE {
			t.Errorf("P7: Vet(%q) = %d, want %d", c.placed, vetE, c.vetE)
		}
		if got, e := Run(c.placed, 99); e != c.e || got != c.want {
			t.Errorf("P8: Run(%q, 99) = %+v, %d, want %+v, %d", c.placed, got, e, c.want, c.e)
		}
	}
}

func TestRunErrors(t *testing.T) {
	blanks := strings.Repeat(" ", api.MaxPlaced)
	dead := "(new #0 (pair #0 1 2))"
	runFaults(t, []runFault{
		{"5", -1, api.ErrArg}, {"5", api.MaxFuel + 1, api.ErrArg}, {"5", math.MinInt, api.ErrArg}, {"5", math.MaxInt, api.ErrArg}, {dead, -1, api.ErrArg}, {dead, api.MaxFuel + 1, api.ErrArg}, {"5", 0, api.ErrFuel}, {dead, 0, api.ErrFuel},
		{"5" + blanks, -1, api.ErrLong}, {"x" + blanks, 9, api.ErrLong}, {blanks, -1, api.ErrForm}, {"", api.MaxFuel + 1, api.ErrForm}, {"(pair 1 2)", 9, api.ErrForm}, {"(new 1 2)", 9, api.ErrForm}, {"(new #0 1", 9, api.ErrForm}, {"(new #1000 1)", 9, api.ErrForm}, {"(new #0 1) 2", 9, api.ErrForm},
		{at0(unused(api.MaxPairs + 1)), -1, api.ErrMany}, {at0(unused(api.MaxPairs+1)) + " ", 9, api.ErrMany}, {"(new #0 x)", -1, api.ErrName}, {"(if 1 2 x)", 9, api.ErrName}, {"(new #0 (fst 1))", api.MaxFuel + 1, api.ErrType}, {"(if 1 2 (new #0 (pair #0 3 4)))", 9, api.ErrType}, {at0(chain(api.MaxType + 1)), -1, api.ErrBig}, {"(new #0 " + at0(doubled(7)) + ")", 99, api.ErrBig},
		{"(add (new #0 1) (new #0 x))", 9, api.ErrName}, {"(fst (new #0 (new #0 1)))", 9, api.ErrType},
	})
	runAll(t, []runCase{
		{"5" + blanks[1:], placed("5", 1, 0, 0, 0)}, {at0(unused(api.MaxPairs)), placed("0", 301, 100, 100, 100)}, {"(new #0 " + at0(unused(api.MaxPairs)) + ")", placed("0", 301, 100, 100, 0)},
		{at0(chain(api.MaxType)), placed(strings.Repeat("[1 ", 63)+"2"+strings.Repeat("]", 63), 127, 63, 63, 63)},
	})
}
