package lease

import (
	"math/rand"
	"strconv"
	"strings"
	"testing"

	"lease/api"
)

// regions lays a region on every pair of a plain program, and news about some of its expressions. How it does so changes from program to program, so that each answer of Vet is met.
func (m *maker) regions(plain []string) []string {
	root, _ := refParse(refTokens(strings.Join(plain, " ")))
	all := refAll(root)
	few := 1 + m.Intn(4)
	distinct := m.Intn(3) == 0
	for i, e := range all {
		e.region = "#" + strconv.Itoa(m.Intn(few))
		if distinct {
			e.region = "#" + strconv.Itoa(i)
		}
	}
	if m.Intn(2) == 0 {
		return refPlacedTokens(root, m.newsAboutPairs(root))
	}
	news := map[*refExpr][]string{}
	for n := m.Intn(4); n > 0; n-- {
		about := all[m.Intn(1+m.Intn(len(all)))]
		region := all[m.Intn(len(all))].region
		if m.Intn(4) == 0 {
			region = "#" + strconv.Itoa(990+n)
		}
		news[about] = append(news[about], region)
	}
	return refPlacedTokens(root, news)
}

// newsAboutPairs gives most regions one new, which all pairs of the region lie in, so that Vet often has no more to ask.
func (m *maker) newsAboutPairs(root *refExpr) map[*refExpr][]string {
	first, end := map[string]int{}, map[string]int{}
	for _, p := range refOf(root, "pair") {
		if _, known := first[p.region]; !known {
			first[p.region] = p.first
		}
		end[p.region] = max(end[p.region], p.end)
	}
	news := map[*refExpr][]string{}
	for _, p := range refOf(root, "pair") {
		about := []*refExpr{}
		for _, e := range refAll(root) {
			if e.first <= first[p.region] && e.end >= end[p.region] {
				about = append(about, e)
			}
		}
		if p.first == first[p.region] && m.Intn(4) > 0 {
			e := about[len(about)-1-m.Intn(1+m.Intn(len(about)))]
			news[e] = append(news[e], p.region)
		}
	}
	return news
}

func compareVet(t *testing.T, placed string) api.Errno {
	t.Helper()
	e, at := Vet(placed)
	wantE, wantAt := refVet(placed)
	if e != wantE || at != wantAt {
		t.Fatalf("P7: Vet(%q) = %d, %d, want %d, %d", placed, e, at, wantE, wantAt)
	}
	return e
}

func compareErase(t *testing.T, placed string) (string, api.Errno) {
	t.Helper()
	text, e := Erase(placed)
	want, wantE := refErase(placed)
	if text != want || e != wantE {
		t.Fatalf("P6: Erase(%q) = %q, %d, want %q, %d", placed, text, e, want, wantE)
	}
	return text, e
}

func compareRun(t *testing.T, placed string, fuel int) (api.Result, api.Errno) {
	t.Helper()
	x, e := Run(placed, fuel)
	wantX, wantE := refPlacedRun(placed, fuel)
	if x != wantX || e != wantE {
		t.Fatalf("P8: Run(%q, %d) = %+v, %d, want %+v, %d", placed, fuel, x, e, wantX, wantE)
	}
	return x, e
}

// What is wrong in a placed program, but for its regions, is wrong in its plain one too.
func compareWithPlain(t *testing.T, placed, plain string, vetE api.Errno) {
	t.Helper()
	if len(plain) > api.MaxText {
		return
	}
	want := vetE
	if want > api.ErrBig {
		want = api.OK
	}
	if e, _ := Check(plain); e != want {
		t.Fatalf("P6, P7: Vet(%q) has the error %d, Check(%q) %d", placed, vetE, plain, e)
	}
}

func TestRandomPlacedPrograms(t *testing.T) {
	counts := map[api.Errno]int{}
	for seed := 0; seed < 12000; seed++ {
		m := &maker{Rand: rand.New(rand.NewSource(int64(seed)))}
		m.wrong = []int{0, 0, 0, 30, 100}[seed%5]
		plain := m.expression(m.pick(someTypes), 1+m.Intn(5), nil)
		placed := m.lay(m.regions(plain))
		e := compareVet(t, placed)
		counts[e]++
		text, eraseE := compareErase(t, placed)
		if len(placed) <= api.MaxPlaced && (eraseE != api.OK || text != refTidy(plain)) {
			t.Fatalf("P6: Erase(%q) = %q, %d, want %q", placed, text, eraseE, refTidy(plain))
		}
		if eraseE == api.OK {
			compareWithPlain(t, placed, text, e)
		}
	}
	for _, e := range []api.Errno{api.OK, api.ErrName, api.ErrType, api.ErrTwice, api.ErrScope, api.ErrMatch, api.ErrEscape} {
		if counts[e] < 100 {
			t.Errorf("of the answer %d there were only %d: %v", e, counts[e], counts)
		}
	}
}

// Regions change nothing of a run but how long its cells live; and what Vet takes uses no dead cell.
func compareRunWithEval(t *testing.T, placed string, fuel int, vetE api.Errno) (api.Result, api.Errno) {
	t.Helper()
	x, e := compareRun(t, placed, fuel)
	if e == api.ErrDead && vetE == api.OK {
		t.Fatalf("P7, P8: Vet takes %q, but with the fuel %d it uses a dead cell", placed, fuel)
	}
	plain, _ := Erase(placed)
	if e == api.ErrDead || len(plain) > api.MaxText {
		return x, e
	}
	want, wantE := Eval(plain, fuel)
	if e != wantE || x.Value != want.Value || x.Steps != want.Steps || x.Cells != want.Cells {
		t.Fatalf("P8: Run(%q, %d) = %+v, %d, Eval(%q) = %+v, %d", placed, fuel, x, e, plain, want, wantE)
	}
	if x.Left > x.Most || x.Most > x.Cells {
		t.Fatalf("P8: Run(%q, %d) = %+v", placed, fuel, x)
	}
	return x, e
}

func TestRandomRuns(t *testing.T) {
	ends := map[api.Errno]int{}
	freed := map[api.Errno]int{}
	for seed := 0; seed < 8000; seed++ {
		m := &maker{Rand: rand.New(rand.NewSource(int64(seed)))}
		placed := m.lay(m.regions(m.expression(m.pick(someTypes), 1+m.Intn(6), nil)))
		vetE, _ := Vet(placed)
		x, e := compareRunWithEval(t, placed, m.Intn(400), vetE)
		ends[e]++
		if e != api.OK {
			continue
		}
		compareRunWithEval(t, placed, x.Steps, vetE)
		compareRunWithEval(t, placed, x.Steps-1, vetE)
		if x.Left < x.Most && x.Most < x.Cells {
			freed[vetE]++
		}
	}
	for _, e := range []api.Errno{api.OK, api.ErrFuel, api.ErrDead} {
		if ends[e] < 100 {
			t.Errorf("of the end %d there were only %d: %v", e, ends[e], ends)
		}
	}
	for _, e := range []api.Errno{api.OK, api.ErrTwice, api.ErrScope, api.ErrMatch, api.ErrEscape} {
		if freed[e] < 10 {
			t.Errorf("of programs with Vet's answer %d in which some cells are dead early there were only %d: %v", e, freed[e], freed)
		}
	}
}

// The use of a dead cell is found at each fuel from the step on behind which it comes, and at none below.
func TestRandomDeaths(t *testing.T) {
	deaths := 0
	for seed := 0; seed < 800; seed++ {
		m := &maker{Rand: rand.New(rand.NewSource(int64(seed)))}
		placed := m.lay(m.regions(m.expression(m.pick(someTypes), 1+m.Intn(4), nil)))
		if _, e := Run(placed, 60); e != api.ErrDead {
			continue
		}
		deaths++
		for fuel := 0; fuel <= 60; fuel++ {
			compareRun(t, placed, fuel)
		}
	}
	if deaths < 50 {
		t.Errorf("there were only %d", deaths)
	}
}

func TestSpoiltPlacedPrograms(t *testing.T) {
	for seed := 0; seed < 4000; seed++ {
		m := &maker{Rand: rand.New(rand.NewSource(int64(seed)))}
		tokens := m.regions(m.expression(m.pick(someTypes), 1+m.Intn(4), nil))
		i := m.Intn(len(tokens))
		switch m.Intn(3) {
		case 0:
			tokens = append(append([]string{}, tokens[:i]...), tokens[i+1:]...)
		case 1:
			tokens[i] = m.pick([]string{"(", ")", "x", "3", "let", "new", "pair", "#4", "#1000", "#01", "#", "abcdefghi", "12345", "01", "-"})
		case 2:
			j := m.Intn(len(tokens))
			tokens[i], tokens[j] = tokens[j], tokens[i]
		}
		placed := m.lay(tokens)
		for _, text := range []string{placed, placed[:m.Intn(len(placed)+1)]} {
			compareVet(t, text)
			compareErase(t, text)
			compareRun(t, text, 100)
		}
	}
}
