package lease

import (
	"math/rand"
	"strconv"
	"strings"
	"testing"

	"lease/api"
)

// regions lays a region on every pair of a plain program, and news about some of its expressions. How it does so changes from program to program, so that each answer of Vet is met.
func (m *maker) regions(plain []string) []string {
	root, _ := refParse(refTokens(strings.Join(plain, " ")))
	all := refAll(root)
	few := 1 + m.Intn(4)
	distinct := m.Intn(3) == 0
	for i, e := range all {
		e.region = "#" + strconv.Itoa(m.Intn(few))
		if distinct {
			e.region = "#" + strconv.Itoa(i)
		}
	}
	news := map[*refExpr][]string{}
	for n := m.Intn(4); n > 0; n-- {
		about := all[m.Intn(1+m.Intn(len(all)))]
		region := all[m.Intn(len(all))].region
		if m.Intn(4) == 0 {
			region = "#" + strconv.Itoa(990+n)
		}
		news[about] = append(news[about], region)
	}
	return m.placed(root, news)
}

func (m *maker) placed(e *refExpr, news map[*refExpr][]string) []string {
	row := []string{}
	for _, region := range news[e] {
		row = append(row, "(", "new", region)
	}
	row = append(row, m.placedForm(e, news)...)
	for range news[e] {
		row = append(row, ")")
	}
	return row
}

func (m *maker) placedForm(e *refExpr, news map[*refExpr][]string) []string {
	if e.form == "NAME" || e.form == "NUMBER" {
		return []string{e.text}
	}
	parts := [][]string{}
	for _, p := range e.parts {
		parts = append(parts, m.placed(p, news))
	}
	switch e.form {
	case "pair":
		return form("pair", append([][]string{{e.region}}, parts...)...)
	case "let":
		return form("let", []string{e.text}, parts[0], parts[1])
	case "loop":
		return form("loop", parts[0], []string{e.text}, parts[1], parts[2])
	}
	return form(e.form, parts...)
}

func compareVet(t *testing.T, placed string) api.Errno {
	t.Helper()
	e, at := Vet(placed)
	wantE, wantAt := refVet(placed)
	if e != wantE || at != wantAt {
		t.Fatalf("P7: Vet(%q) = %d, %d, want %d, %d", placed, e, at, wantE, wantAt)
	}
	return e
}

func compareErase(t *testing.T, placed string) (string, api.Errno) {
	t.Helper()
	text, e := Erase(placed)
	want, wantE := refErase(placed)
	if text != want || e != wantE {
		t.Fatalf("P6: Erase(%q) = %q, %d, want %q, %d", placed, text, e, want, wantE)
	}
	return text, e
}

// What is wrong in a placed program, but for its regions, is wrong in its plain one too.
func compareWithPlain(t *testing.T, placed, plain string, vetE api.Errno) {
	t.Helper()
	if len(plain) > api.MaxText {
		return
	}
	want := vetE
	if want > api.ErrBig {
		want = api.OK
	}
	if e, _ := Check(plain); e != want {
		t.Fatalf("P6, P7: Vet(%q) has the error %d, Check(%q) %d", placed, vetE, plain, e)
	}
}

func TestRandomPlacedPrograms(t *testing.T) {
	counts := map[api.Errno]int{}
	for seed := 0; seed < 12000; seed++ {
		m := &maker{Rand: rand.New(rand.NewSource(int64(seed)))}
		m.wrong = []int{0, 0, 0, 30, 100}[seed%5]
		plain := m.expression(m.pick(someTypes), 1+m.Intn(5), nil)
		placed := m.lay(m.regions(plain))
		e := compareVet(t, placed)
		counts[e]++
		text, eraseE := compareErase(t, placed)
		if len(placed) <= api.MaxPlaced && (eraseE != api.OK || text != refTidy(plain)) {
			t.Fatalf("P6: Erase(%q) = %q, %d, want %q", placed, text, eraseE, refTidy(plain))
		}
		if eraseE == api.OK {
			compareWithPlain(t, placed, text, e)
		}
	}
	for _, e := range []api.Errno{api.OK, api.ErrName, api.ErrType, api.ErrTwice, api.ErrScope, api.ErrMatch, api.ErrEscape} {
		if counts[e] < 100 {
			t.Errorf("of the answer %d there were only %d: %v", e, counts[e], counts)
		}
	}
}

func TestSpoiltPlacedPrograms(t *testing.T) {
	for seed := 0; seed < 4000; seed++ {
		m := &maker{Rand: rand.New(rand.NewSource(int64(seed)))}
		tokens := m.regions(m.expression(m.pick(someTypes), 1+m.Intn(4), nil))
		i := m.Intn(len(tokens))
		switch m.Intn(3) {
		case 0:
			tokens = append(append([]string{}, tokens[:i]...), tokens[i+1:]...)
		case 1:
			tokens[i] = m.pick([]string{"(", ")", "x", "3", "let", "new", "pair", "#4", "#1000", "#01", "#", "abcdefghi", "12345", "01", "-"})
		case 2:
			j := m.Intn(len(tokens))
			tokens[i], tokens[j] = tokens[j], tokens[i]
		}
		placed := m.lay(tokens)
		for _, text := range []string{placed, placed[:m.Intn(len(placed)+1)]} {
			compareVet(t, text)
			compareErase(t, text)
		}
	}
}
