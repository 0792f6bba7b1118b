package lease

import (
	"math"
	"strings"
	"testing"

	"lease/api"
)

// plain gives the result of a plain run, of which the three counts of cells are the same.
func plain(value string, steps, cells int) api.Result {
	return api.Result{Value: value, Steps: steps, Cells: cells, Most: cells, Left: cells}
}

func TestEvalValues(t *testing.T) {
	for _, c := range []struct {
		src  string
		want api.Result
	}{
		{"0", plain("0", 1, 0)}, {"9999", plain("9999", 1, 0)},
		{"(pair 1 2)", plain("[1 2]", 3, 1)}, {"(pair (pair 1 2) (pair 3 40))", plain("[[1 2] [3 40]]", 7, 3)},
		{"(fst (pair 1 2))", plain("1", 4, 1)}, {"(snd (pair 1 2))", plain("2", 4, 1)}, {"(snd (pair 1 (pair 2 3)))", plain("[2 3]", 6, 2)},
		{"(let x 5 (add x x))", plain("10", 5, 0)}, {"(let x (pair 1 2) (pair x x))", plain("[[1 2] [1 2]]", 7, 2)}, {"(let x 1 (pair (let x 2 x) x))", plain("[2 1]", 7, 1)},
		{"(if 0 1 2)", plain("2", 3, 0)}, {"(if 1 1 2)", plain("1", 3, 0)}, {"(if 9999 (pair 1 2) (pair 3 (fst (pair 4 5))))", plain("[1 2]", 5, 1)},
		{"(add 9999 1)", plain("0", 3, 0)}, {"(add 9999 9999)", plain("9998", 3, 0)}, {"(add 5000 4999)", plain("9999", 3, 0)}, {"(add 5000 5000)", plain("0", 3, 0)},
		{"(sub 0 1)", plain("9999", 3, 0)}, {"(sub 0 9999)", plain("1", 3, 0)}, {"(sub 9999 0)", plain("9999", 3, 0)}, {"(sub 5 5)", plain("0", 3, 0)}, {"(sub 7 5)", plain("2", 3, 0)},
		{"(less 1 2)", plain("1", 3, 0)}, {"(less 2 1)", plain("0", 3, 0)}, {"(less 2 2)", plain("0", 3, 0)},
		{"(loop 0 x 7 (add x 1))", plain("7", 3, 0)}, {"(loop 1 x 7 (add x 1))", plain("8", 6, 0)}, {"(loop 4 x 7 9)", plain("9", 7, 0)}, {"(loop (sub 3 1) x 1 (add x x))", plain("4", 11, 0)},
		{"(loop 3 x 0 (add x (fst (pair 1 x))))", plain("3", 21, 3)}, {"(loop 2 x (pair 0 0) (pair (fst x) (add (snd x) 1)))", plain("[0 2]", 19, 3)},
		{"(let x 2 (loop x x x (loop x x x (add x x))))", plain("2048", 41, 0)}, {"(loop 2 x 1 (let y x (loop 2 x y (add x y))))", plain("9", 25, 0)},
	} {
		got, e := Eval(c.src, 100)
		if e != api.OK || got != c.want {
			t.Errorf("P4: Eval(%q, 100) = %+v, %d, want %+v", c.src, got, e, c.want)
		}
	}
}

func TestEvalFuel(t *testing.T) {
	for _, c := range []struct {
		src   string
		steps int
	}{
		{"5", 1}, {"(pair 1 2)", 3}, {"(fst (pair 1 2))", 4}, {"(if 0 (add 1 2) 3)", 3}, {"(let x 1 x)", 3},
		{"(loop 0 x 1 x)", 3}, {"(loop 3 x 0 (add x (fst (pair 1 x))))", 21}, {"(loop 9999 x 0 x)", 10002},
		{"(loop 6665 x 0 (add x 1))", 19998}, {"(let y 1 (loop 6665 x 0 (add x y)))", 20000}, {"(let y (add 0 1) (loop 6665 x 0 (add x y)))", 20002}, {"(loop 6666 x 0 (add x 1))", 20001},
	} {
		for _, fuel := range []int{0, 1, c.steps - 2, c.steps - 1, c.steps, c.steps + 1, api.MaxFuel - 1, api.MaxFuel} {
			if fuel < 0 || fuel > api.MaxFuel {
				continue
			}
			got, e := Eval(c.src, fuel)
			if fuel < c.steps && (e != api.ErrFuel || got != api.Result{}) {
				t.Errorf("P4: Eval(%q, %d) = %+v, %d, want ErrFuel: it has %d steps", c.src, fuel, got, e, c.steps)
			}
			if fuel >= c.steps && (e != api.OK || got.Steps != c.steps || got.Value == "") {
				t.Errorf("P4: Eval(%q, %d) = %+v, %d, want %d steps", c.src, fuel, got, e, c.steps)
			}
		}
	}
}

func TestEvalErrors(t *testing.T) {
	endless := "(loop 9999 x 0 (loop 9999 y 0 (loop 9999 z 0 (add z 1))))"
	for _, c := range []struct {
		src  string
		fuel int
		e    api.Errno
	}{
		{"5", -1, api.ErrArg}, {"5", api.MaxFuel + 1, api.ErrArg}, {"5", math.MinInt, api.ErrArg}, {"5", math.MaxInt, api.ErrArg},
		{endless, -1, api.ErrArg}, {endless, api.MaxFuel, api.ErrFuel}, {endless, api.MaxFuel + 1, api.ErrArg},
		{strings.Repeat(" ", api.MaxText+1), -1, api.ErrLong}, {"", -1, api.ErrForm}, {"(pair 1", 5, api.ErrForm}, {"(new #0 1)", 5, api.ErrForm}, {"(pair #0 1 2)", 5, api.ErrForm},
		{unused(101), -1, api.ErrMany}, {"x", -1, api.ErrName}, {"(fst 1)", api.MaxFuel + 1, api.ErrType}, {chain(64), -1, api.ErrBig},
		{"x", 0, api.ErrName}, {"(if 1 2 y)", 9, api.ErrName}, {"(if 1 2 (pair 3 4))", 9, api.ErrType},
	} {
		got, e := Eval(c.src, c.fuel)
		if e != c.e || got != (api.Result{}) {
			t.Errorf("P4: Eval(%.60q, %d) = %+v, %d, want noughts and %d", c.src, c.fuel, got, e, c.e)
		}
	}
}

func TestEvalGreatValues(t *testing.T) {
	want := "1"
	for i := 0; i < 6; i++ {
		want = "[" + want + " " + want + "]"
	}
	got, e := Eval(doubled(6), 100)
	if e != api.OK || got != plain(want, 2+6*4+1, 6) {
		t.Errorf("P4: Eval(%q) = %+v, %d", doubled(6), got, e)
	}
	want = strings.Repeat("[1 ", 63) + "2" + strings.Repeat("]", 63)
	got, e = Eval(chain(63), 127)
	if e != api.OK || got != plain(want, 127, 63) {
		t.Errorf("P4: Eval(%q) = %+v, %d", chain(63), got, e)
	}
	got, e = Eval(unused(100), 301)
	if e != api.OK || got != plain("0", 301, 100) {
		t.Errorf("P4: Eval(%q) = %+v, %d", unused(100), got, e)
	}
	many := "(loop 4998 x (pair 0 0) (pair (fst x) 1))"
	got, e = Eval(many, api.MaxFuel)
	if e != api.OK || got != plain("[0 1]", 5+4*4998, 4999) {
		t.Errorf("P4: Eval(%q) = %+v, %d", many, got, e)
	}
}
