package lease

import (
	"math"
	"math/rand"
	"strings"
	"testing"

	"lease/api"
)

// answers are what the calls say of one text.
type answers struct {
	checkE  api.Errno
	checkAt int
	result  api.Result
	evalE   api.Errno
	placed  string
	placeE  api.Errno
	erased  string
	eraseE  api.Errno
	vetE    api.Errno
	vetAt   int
	run     api.Result
	runE    api.Errno
}

// call makes all calls at a text, and tells whether their answers keep to P1.
func call(t *testing.T, text string, fuel int) answers {
	t.Helper()
	a := answers{}
	a.checkE, a.checkAt = Check(text)
	a.result, a.evalE = Eval(text, fuel)
	a.placed, a.placeE = Place(text)
	a.erased, a.eraseE = Erase(text)
	a.vetE, a.vetAt = Vet(text)
	a.run, a.runE = Run(text, fuel)
	if !mayAnswer(text, a.checkE, a.checkAt, api.ErrBig) {
		t.Errorf("P1: Check(%.60q) = %d, %d", text, a.checkE, a.checkAt)
	}
	if !mayAnswer(text, a.vetE, a.vetAt, api.ErrEscape) {
		t.Errorf("P1: Vet(%.60q) = %d, %d", text, a.vetE, a.vetAt)
	}
	if a.evalE != api.OK && a.result != (api.Result{}) {
		t.Errorf("P1: Eval(%.60q, %d) = %+v with the error %d", text, fuel, a.result, a.evalE)
	}
	if a.checkE != api.OK && a.evalE != a.checkE {
		t.Errorf("P1: Eval(%.60q, %d) has the error %d, Check %d", text, fuel, a.evalE, a.checkE)
	}
	if a.placeE != a.checkE || (a.placeE == api.OK) != (a.placed != "") {
		t.Errorf("P1: Place(%.60q) = %.60q with the error %d, Check's is %d", text, a.placed, a.placeE, a.checkE)
	}
	if e, _ := Vet(a.placed); a.placeE == api.OK && e != api.OK {
		t.Errorf("P9: Vet of Place(%.60q), %.60q, has the error %d", text, a.placed, e)
	}
	if (a.eraseE == api.OK) != (a.erased != "") {
		t.Errorf("P1: Erase(%.60q) = %.60q with the error %d", text, a.erased, a.eraseE)
	}
	if a.runE != api.OK && a.run != (api.Result{}) {
		t.Errorf("P1: Run(%.60q, %d) = %+v with the error %d", text, fuel, a.run, a.runE)
	}
	if !mayRunTo(a.vetE, fuel, a.runE) {
		t.Errorf("P1: Run(%.60q, %d) has the error %d, Vet %d", text, fuel, a.runE, a.vetE)
	}
	formE := a.vetE
	if formE > api.ErrForm {
		formE = api.OK
	}
	if a.eraseE != formE {
		t.Errorf("P1: Erase(%.60q) has the error %d, Vet %d", text, a.eraseE, a.vetE)
	}
	return a
}

// mayAnswer looks at an error and its place, of a call whose last error is known.
func mayAnswer(text string, e api.Errno, at int, last api.Errno) bool {
	if e == api.OK || e == api.ErrLong {
		return at == 0
	}
	return e > api.OK && e <= last && at >= 0 && at <= len(text)
}

// mayRunTo looks at Run's error beside Vet's, of which the first six come ahead of Run's own.
func mayRunTo(vetE api.Errno, fuel int, runE api.Errno) bool {
	if vetE != api.OK && vetE <= api.ErrBig {
		return runE == vetE
	}
	if fuel < 0 || fuel > api.MaxFuel {
		return runE == api.ErrArg
	}
	return runE == api.OK || runE == api.ErrFuel || runE == api.ErrDead && vetE != api.OK
}

func TestAnyBytes(t *testing.T) {
	r := rand.New(rand.NewSource(1))
	likely := "(((()))) \nletpairfstsndifaddsublessloopnewxyz0123456789#!\x00\xff\t"
	for i := 0; i < 20000; i++ {
		b := make([]byte, r.Intn(40))
		for j := range b {
			b[j] = likely[r.Intn(len(likely))]
			if i%2 == 0 {
				b[j] = byte(r.Intn(256))
			}
		}
		call(t, string(b), r.Intn(50)-5)
	}
}

func TestEveryByteEverywhere(t *testing.T) {
	for _, text := range []string{
		"(let x (pair 1 23) (loop 2 y x (if (less 1 (fst y)) y x)))",
		"(new #1 (let x (pair #1 1 23) (fst (loop 2 y x (if (new #20 1) y (pair #1 4 5))))))",
	} {
		for at := 0; at <= len(text); at++ {
			call(t, text[:at], 100)
			call(t, text[at:], 100)
			for c := 0; c < 256; c++ {
				inserted := text[:at] + string([]byte{byte(c)}) + text[at:]
				call(t, inserted, 100)
				compareCheck(t, inserted)
				comparePlace(t, inserted)
				compareVet(t, inserted)
				compareErase(t, inserted)
				compareRun(t, inserted, 100)
			}
		}
	}
}

func TestLongAndDeepTexts(t *testing.T) {
	for _, piece := range []string{"(", ")", "(fst", "(fst ", "(pair", "(pair 1", "(let x 1", "(let x", "(loop 1 x 1", "(loop", "(if 1 1", "(if", "(add 1", "x", "1", " ", "\n", "#", "#1 ", "\x00", "\xff", "(new #1 ", "(new#1", "(new", "(pair #1 ", "(pair #1 1", "(pair#999"} {
		for _, bytes := range []int{10, 500, api.MaxText, api.MaxText + 1, api.MaxPlaced, api.MaxPlaced + 1, 100000} {
			text := strings.Repeat(piece, bytes/len(piece)+1)[:bytes]
			call(t, text, api.MaxFuel)
		}
	}
	for _, n := range []int{1, 60, 300, 600, 1200} {
		call(t, strings.Repeat("(add 1 ", n)+"1"+strings.Repeat(")", n), api.MaxFuel)
		call(t, strings.Repeat("(let x 1 ", n)+"x"+strings.Repeat(")", n), api.MaxFuel)
		call(t, strings.Repeat("(loop 9 x 1 ", n)+"x"+strings.Repeat(")", n), api.MaxFuel)
		call(t, strings.Repeat("(loop 2 x ", n)+"1"+strings.Repeat(" x)", n), api.MaxFuel)
		call(t, strings.Repeat("(new#1", n)+"(pair #1 1 2)"+strings.Repeat(")", n), api.MaxFuel)
		call(t, "(loop 9999 x 1 "+strings.Repeat("(new#1", n)+"(fst(pair#2 1 2))"+strings.Repeat(")", n)+")", api.MaxFuel)
		call(t, strings.Repeat("(let x (pair #1 1 2) (new #2 ", n)+"x"+strings.Repeat("))", n), api.MaxFuel)
	}
}

func TestAnyFuel(t *testing.T) {
	for _, fuel := range []int{math.MinInt, math.MinInt32, -api.MaxFuel, -1, 0, 1, api.MaxFuel, api.MaxFuel + 1, math.MaxInt32, math.MaxInt} {
		for _, src := range []string{"", "x", "1", "(pair 1 2)", "(fst 1)", "(loop 9999 x (pair 1 2) (pair (snd x) (fst x)))", "(new #0 (fst (pair #0 1 2)))", "(new #0 (pair #0 1 2))", "(fst (new #0 (pair #0 1 2)))"} {
			call(t, src, fuel)
		}
	}
}

// Each text is asked about behind each other one: whatever a call kept would show.
func TestNothingIsKept(t *testing.T) {
	texts := []string{"", "1", "x", "(let x 1 x)", "(let x (pair 1 2) x)", "(pair 1 2)", "(pair 1", "(fst 1)", "(if 1 (pair 1 2) (pair 3 4))", "(loop 3 x 0 (add x (fst (pair 1 x))))", "(loop 999 x 0 x)", chain(63), chain(64), unused(100), unused(101), doubled(7), "(pair #0 1 2)", strings.Repeat(" ", api.MaxText+1), "(new #0 (fst (pair #0 1 2)))", "(new #0 (pair #0 1 2))", "(let x (new #0 (pair #0 1 2)) 5)", "(fst (new #0 (pair #0 1 2)))", "(new #0 (loop 3 x 0 (fst (pair #0 (add x 1) 0))))", "(loop 9 x 0 (new #0 (fst (pair #0 (add x 1) 0))))", "(add (new #0 1) (fst (pair #0 1 2)))", "(new #1 (new #1 1))", "(if 1 (pair #0 1 2) (pair #1 1 2))", "(if 1 (pair #1 1 2) (pair #1 1 2))", at0(chain(63)), at0(unused(101)), strings.Repeat(" ", api.MaxPlaced+1)}
	first := []answers{}
	for _, src := range texts {
		first = append(first, call(t, src, 50))
	}
	for _, before := range texts {
		for j, src := range texts {
			call(t, before, 50)
			if got := call(t, src, 50); got != first[j] {
				t.Errorf("P2: %.60q behind %.60q is %v, at first %v", src, before, got, first[j])
			}
		}
	}
}
