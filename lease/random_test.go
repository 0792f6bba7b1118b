package lease

import (
	"math/rand"
	"strconv"
	"strings"
	"testing"

	"lease/api"
)

// maker makes programs; the same seed makes the same ones.
type maker struct {
	*rand.Rand
	wrong int // of so many expressions, about one is of some other type than is wanted; 0 for none
}

type made struct{ name, typ string }

var someTypes = []string{"n", "n", "n", "[n,n]", "[n,n]", "[n,[n,n]]", "[[n,n],n]"}

var someNames = []string{"x", "y", "x", "abcdefgh", "letx"}

func (m *maker) pick(row []string) string { return row[m.Intn(len(row))] }

// expression gives one of the type that is wanted, as tokens.
func (m *maker) expression(typ string, depth int, scope []made) []string {
	if m.wrong > 0 && m.Intn(m.wrong) == 0 {
		typ = m.pick(someTypes)
	}
	if m.wrong > 0 && m.Intn(m.wrong) == 0 {
		return []string{m.pick(someNames)}
	}
	if depth <= 0 || m.Intn(8) == 0 {
		return m.small(typ, scope)
	}
	sub := func(typ string, more ...made) []string {
		return m.expression(typ, depth-1, append(append([]made{}, scope...), more...))
	}
	other := m.pick(someTypes)
	name := m.pick(someNames)
	switch m.Intn(7) {
	case 0:
		return form("let", []string{name}, sub(other), sub(typ, made{name, other}))
	case 1:
		return form("loop", m.few(), []string{name}, sub(typ), sub(typ, made{name, typ}))
	case 2:
		return form("if", sub("n"), sub(typ), sub(typ))
	case 3:
		return form("fst", sub("["+typ+","+other+"]"))
	case 4:
		return form("snd", sub("["+other+","+typ+"]"))
	}
	if typ == "n" {
		return form(m.pick([]string{"add", "sub", "less"}), sub("n"), sub("n"))
	}
	first, second := refHalves(typ)
	return form("pair", sub(first), sub(second))
}

// few keeps the counts of most loops small, so that runs come to their end.
func (m *maker) few() []string {
	if m.Intn(20) == 0 {
		return []string{"9999"}
	}
	return []string{strconv.Itoa(m.Intn(4))}
}

func (m *maker) small(typ string, scope []made) []string {
	seen := map[string]bool{}
	for i := len(scope) - 1; i >= 0; i-- {
		if scope[i].typ == typ && !seen[scope[i].name] && m.Intn(3) > 0 {
			return []string{scope[i].name}
		}
		seen[scope[i].name] = true
	}
	if typ == "n" {
		return []string{m.pick([]string{"0", "1", "2", "7", "10", "9998", "9999"})}
	}
	first, second := refHalves(typ)
	return form("pair", m.small(first, scope), m.small(second, scope))
}

func form(word string, parts ...[]string) []string {
	row := []string{"(", word}
	for _, p := range parts {
		row = append(row, p...)
	}
	return append(row, ")")
}

// lay writes tokens with blanks and ends of lines where they must be and, at times, where they may be.
func (m *maker) lay(tokens []string) string {
	var b strings.Builder
	for i, t := range tokens {
		gap := m.Intn(3)
		if i > 0 && gap == 0 && wouldJoin(tokens[i-1], t) {
			gap = 1
		}
		for ; gap > 0; gap-- {
			b.WriteString(m.pick([]string{" ", " ", "\n"}))
		}
		b.WriteString(t)
	}
	return b.String()
}

func wouldJoin(a, b string) bool {
	letter := func(s string) bool { return s[0] >= 'a' && s[0] <= 'z' }
	digit := func(s string) bool { return s[0] >= '0' && s[0] <= '9' }
	return letter(a) && letter(b) || (digit(a) || a[0] == '#') && digit(b)
}

func compareCheck(t *testing.T, src string) api.Errno {
	t.Helper()
	e, at := Check(src)
	wantE, wantAt := refCheck(src)
	if e != wantE || at != wantAt {
		t.Fatalf("P3: Check(%q) = %d, %d, want %d, %d", src, e, at, wantE, wantAt)
	}
	return e
}

func compareEval(t *testing.T, src string, fuel int) (api.Result, api.Errno) {
	t.Helper()
	x, e := Eval(src, fuel)
	wantX, wantE := refEval(src, fuel)
	if x != wantX || e != wantE {
		t.Fatalf("P4: Eval(%q, %d) = %+v, %d, want %+v, %d", src, fuel, x, e, wantX, wantE)
	}
	return x, e
}

func TestRowsOfTokens(t *testing.T) {
	tokens := []string{"(", ")", "x", "7", "let", "pair", "fst", "if", "add", "loop", "new", "#1", "!"}
	rows := []string{""}
	for length := 0; length < 5; length++ {
		longer := []string{}
		for _, row := range rows {
			if length > 0 {
				compareCheck(t, row)
				compareVet(t, row)
				compareErase(t, row)
			}
			for _, token := range tokens {
				longer = append(longer, row+token+" ")
			}
		}
		rows = longer
	}
}

func TestRandomPrograms(t *testing.T) {
	counts := map[api.Errno]int{}
	ends := map[api.Errno]int{}
	for seed := 0; seed < 6000; seed++ {
		m := &maker{Rand: rand.New(rand.NewSource(int64(seed)))}
		m.wrong = []int{0, 0, 30, 100}[seed%4]
		src := m.lay(m.expression(m.pick(someTypes), 2+m.Intn(5), nil))
		e := compareCheck(t, src)
		counts[e]++
		x, e := compareEval(t, src, m.Intn(400))
		ends[e]++
		if e == api.OK {
			compareEval(t, src, x.Steps)
			compareEval(t, src, x.Steps-1)
		}
	}
	for _, e := range []api.Errno{api.OK, api.ErrName, api.ErrType} {
		if counts[e] < 20 {
			t.Errorf("of the answer %d there were only %d: %v", e, counts[e], counts)
		}
	}
	for _, e := range []api.Errno{api.OK, api.ErrFuel} {
		if ends[e] < 100 {
			t.Errorf("of the end %d there were only %d: %v", e, ends[e], ends)
		}
	}
}

func TestSpoiltPrograms(t *testing.T) {
	for seed := 0; seed < 3000; seed++ {
		m := &maker{Rand: rand.New(rand.NewSource(int64(seed)))}
		tokens := m.expression(m.pick(someTypes), 1+m.Intn(4), nil)
		i := m.Intn(len(tokens))
		switch m.Intn(3) {
		case 0:
			tokens = append(append([]string{}, tokens[:i]...), tokens[i+1:]...)
		case 1:
			tokens[i] = m.pick([]string{"(", ")", "x", "3", "let", "new", "#4", "abcdefghi", "12345", "01", "-"})
		case 2:
			j := m.Intn(len(tokens))
			tokens[i], tokens[j] = tokens[j], tokens[i]
		}
		src := m.lay(tokens)
		compareCheck(t, src)
		compareCheck(t, src[:m.Intn(len(src)+1)])
	}
}
