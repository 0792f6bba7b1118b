package lease

import (
	"math"
	"math/rand"
	"strings"
	"testing"

	"lease/api"
)

// call makes both calls at a text, and tells whether their answers keep to P1.
func call(t *testing.T, src string, fuel int) (api.Errno, int, api.Result, api.Errno) {
	t.Helper()
	e, at := Check(src)
	result, evalE := Eval(src, fuel)
	if at < 0 || at > len(src) || e == api.OK && at != 0 || e == api.ErrLong && at != 0 {
		t.Errorf("P1: Check(%.60q) = %d, %d", src, e, at)
	}
	if e < api.OK || e > api.ErrBig {
		t.Errorf("P1: Check(%.60q) = %d", src, e)
	}
	if evalE != api.OK && result != (api.Result{}) {
		t.Errorf("P1: Eval(%.60q, %d) = %+v with the error %d", src, fuel, result, evalE)
	}
	if e != api.OK && evalE != e {
		t.Errorf("P1: Eval(%.60q, %d) has the error %d, Check %d", src, fuel, evalE, e)
	}
	return e, at, result, evalE
}

func TestAnyBytes(t *testing.T) {
	r := rand.New(rand.NewSource(1))
	likely := "(((()))) \nletpairfstsndifaddsublessloopnewxyz0123456789#!\x00\xff\t"
	for i := 0; i < 20000; i++ {
		b := make([]byte, r.Intn(40))
		for j := range b {
			b[j] = likely[r.Intn(len(likely))]
			if i%2 == 0 {
				b[j] = byte(r.Intn(256))
			}
		}
		call(t, string(b), r.Intn(50)-5)
	}
}

func TestEveryByteEverywhere(t *testing.T) {
	src := "(let x (pair 1 23) (loop 2 y x (if (less 1 (fst y)) y x)))"
	for at := 0; at <= len(src); at++ {
		call(t, src[:at], 100)
		call(t, src[at:], 100)
		for c := 0; c < 256; c++ {
			inserted := src[:at] + string([]byte{byte(c)}) + src[at:]
			call(t, inserted, 100)
			compareCheck(t, inserted)
		}
	}
}

func TestLongAndDeepTexts(t *testing.T) {
	for _, piece := range []string{"(", ")", "(fst", "(fst ", "(pair", "(pair 1", "(let x 1", "(let x", "(loop 1 x 1", "(loop", "(if 1 1", "(if", "(add 1", "x", "1", " ", "\n", "#", "#1 ", "\x00", "\xff", "(new #1 "} {
		for _, bytes := range []int{10, 500, api.MaxText, api.MaxText + 1, 100000} {
			text := strings.Repeat(piece, bytes/len(piece)+1)[:bytes]
			call(t, text, api.MaxFuel)
		}
	}
	for _, n := range []int{1, 60, 300} {
		call(t, strings.Repeat("(add 1 ", n)+"1"+strings.Repeat(")", n), api.MaxFuel)
		call(t, strings.Repeat("(let x 1 ", n)+"x"+strings.Repeat(")", n), api.MaxFuel)
		call(t, strings.Repeat("(loop 9 x 1 ", n)+"x"+strings.Repeat(")", n), api.MaxFuel)
		call(t, strings.Repeat("(loop 2 x ", n)+"1"+strings.Repeat(" x)", n), api.MaxFuel)
	}
}

func TestAnyFuel(t *testing.T) {
	for _, fuel := range []int{math.MinInt, math.MinInt32, -api.MaxFuel, -1, 0, 1, api.MaxFuel, api.MaxFuel + 1, math.MaxInt32, math.MaxInt} {
		for _, src := range []string{"", "x", "1", "(pair 1 2)", "(fst 1)", "(loop 9999 x (pair 1 2) (pair (snd x) (fst x)))"} {
			call(t, src, fuel)
		}
	}
}

// Each text is asked about behind each other one: whatever a call kept would show.
func TestNothingIsKept(t *testing.T) {
	type answer struct {
		e     api.Errno
		at    int
		x     api.Result
		evalE api.Errno
	}
	ask := func(src string) answer {
		e, at, x, evalE := call(t, src, 50)
		return answer{e, at, x, evalE}
	}
	texts := []string{"", "1", "x", "(let x 1 x)", "(let x (pair 1 2) x)", "(pair 1 2)", "(pair 1", "(fst 1)", "(if 1 (pair 1 2) (pair 3 4))", "(loop 3 x 0 (add x (fst (pair 1 x))))", "(loop 999 x 0 x)", chain(63), chain(64), unused(100), unused(101), doubled(7), "(pair #0 1 2)", strings.Repeat(" ", api.MaxText+1)}
	first := []answer{}
	for _, src := range texts {
		first = append(first, ask(src))
	}
	for _, before := range texts {
		for j, src := range texts {
			ask(before)
			if got := ask(src); got != first[j] {
				t.Errorf("P2: %.60q behind %.60q is %v, at first %v", src, before, got, first[j])
			}
		}
	}
}
