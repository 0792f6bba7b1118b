package lease

import (
	"math"
	"math/rand"
	"strconv"
	"strings"
	"testing"

	"lease/api"
)

func comparePlace(t *testing.T, src string) (string, api.Errno) {
	t.Helper()
	text, e := Place(src)
	want, wantE := refPlace(src)
	if text != want || e != wantE {
		t.Fatalf("P5: Place(%q) = %q, %d, want %q, %d", src, text, e, want, wantE)
	}
	return text, e
}

func TestRandomPlacings(t *testing.T) {
	counts := map[api.Errno]int{}
	shared, without, several := 0, 0, 0
	for seed := 0; seed < 6000; seed++ {
		m := &maker{Rand: rand.New(rand.NewSource(int64(seed)))}
		m.wrong = []int{0, 0, 0, 100}[seed%4]
		src := m.lay(m.expression(m.pick(someTypes), 1+m.Intn(6), nil))
		text, e := comparePlace(t, src)
		counts[e]++
		if e != api.OK {
			continue
		}
		_, x, e := samePlaced(t, src, m.Intn(400))
		if e == api.OK {
			samePlaced(t, src, x.Steps)
			samePlaced(t, src, x.Steps-1)
		}
		plain, _ := Erase(text)
		if again, e := Place(plain); len(plain) <= api.MaxText && (again != text || e != api.OK) {
			t.Fatalf("P5: Place(%q) = %q, of the same tidy %q, %d", src, text, again, e)
		}
		pairs, regions, news := strings.Count(text, "(pair #"), regionsIn(text), strings.Count(text, "(new #")
		if regions < pairs {
			shared++
		}
		if news < regions {
			without++
		}
		if strings.Contains(text, "(new #0 (new #") {
			several++
		}
	}
	if counts[api.OK] < 1000 || counts[api.ErrName] < 20 || counts[api.ErrType] < 20 || shared < 500 || without < 500 || several < 200 {
		t.Errorf("there were too few: %v, %d that share, %d with a region of the whole run, %d with several news", counts, shared, without, several)
	}
}

// regionsIn counts the regions of a placed program.
func regionsIn(placed string) int {
	seen := map[string]bool{}
	for _, token := range refTokens(placed) {
		if token.kind == "REGION" {
			seen[token.text] = true
		}
	}
	return len(seen)
}

// sharings calls try with every way to give regions to pairs, whatever types ask for; how many regions there are is told.
func sharings(pairs []*refExpr, regions int, try func(regions int)) {
	if len(pairs) == 0 {
		try(regions)
		return
	}
	for i := 0; i <= regions; i++ {
		pairs[0].region = "#" + strconv.Itoa(i)
		sharings(pairs[1:], max(regions, i+1), try)
	}
}

// Of all ways to give regions to pairs that Vet takes, there is one that has more regions than any other: Place's.
func TestFewestShare(t *testing.T) {
	tried := 0
	for seed := 0; seed < 3000; seed++ {
		m := &maker{Rand: rand.New(rand.NewSource(int64(seed)))}
		src := refTidy(m.expression(m.pick(someTypes), 1+m.Intn(5), nil))
		root, _ := refParse(refTokens(src))
		pairs := refOf(root, "pair")
		if len(pairs) < 2 || len(pairs) > 6 {
			continue
		}
		tried++
		best, ways, text := 0, 0, ""
		sharings(pairs, 0, func(regions int) {
			placed := refTidy(refPlacedTokens(root, nil))
			if e, _ := Vet(placed); e != api.OK || regions < best {
				return
			}
			if regions > best {
				best, ways, text = regions, 0, placed
			}
			ways++
		})
		placed, _ := Place(src)
		if got := withoutNews(placed); ways != 1 || got != text {
			t.Fatalf("P5: Place(%q) shares as in %q, the fewest share, in %d ways, in %q", src, got, ways, text)
		}
	}
	if tried < 500 {
		t.Errorf("there were only %d", tried)
	}
}

func withoutNews(placed string) string {
	root, _ := refParse(refTokens(placed))
	return refTidy(refPlacedTokens(bare(root), nil))
}

// bare gives an expression without the news in it.
func bare(e *refExpr) *refExpr {
	for e.form == "new" {
		e = e.parts[0]
	}
	for i, p := range e.parts {
		e.parts[i] = bare(p)
	}
	return e
}

// compareLives looks whether another placing, if Vet takes it, has no smaller Most and no smaller Left than Place's.
func compareLives(t *testing.T, src, other string, best api.Result, fuel int) bool {
	t.Helper()
	if e, _ := Vet(other); e != api.OK {
		return false
	}
	x, e := Run(other, fuel)
	if e != api.OK || x.Most < best.Most || x.Left < best.Left {
		placed, _ := Place(src)
		t.Fatalf("P9: of Place(%q), %q, Run is %+v, of %q it is %+v, %d", src, placed, best, other, x, e)
	}
	return true
}

// newsEverywhere calls try with every way to lay news for the regions from the first on about the expressions, or none.
func newsEverywhere(all []*refExpr, region, regions int, news map[*refExpr][]string, try func()) {
	if region == regions {
		try()
		return
	}
	newsEverywhere(all, region+1, regions, news, try)
	for _, e := range all {
		before := news[e]
		news[e] = append(append([]string{}, before...), "#"+strconv.Itoa(region))
		newsEverywhere(all, region+1, regions, news, try)
		news[e] = before
	}
}

// All placings of small programs, one by one.
func TestLeastLives(t *testing.T) {
	programs, taken, worse := 0, 0, 0
	for seed := 0; seed < 1500; seed++ {
		m := &maker{Rand: rand.New(rand.NewSource(int64(seed)))}
		src := refTidy(m.expression(m.pick(someTypes), 1+m.Intn(4), nil))
		root, _ := refParse(refTokens(src))
		pairs, all := refOf(root, "pair"), refAll(root)
		best, e := runPlaced(src, 200)
		ways := math.Pow(float64(1+len(all)), float64(len(pairs)))
		if e != api.OK || len(pairs) == 0 || len(pairs) > 4 || ways > 4000 {
			continue
		}
		programs++
		sharings(pairs, 0, func(regions int) {
			news := map[*refExpr][]string{}
			newsEverywhere(all, 0, regions, news, func() {
				other := refTidy(refPlacedTokens(root, news))
				if compareLives(t, src, other, best, 200) {
					taken++
					if x, _ := Run(other, 200); x.Most > best.Most || x.Left > best.Left {
						worse++
					}
				}
			})
		})
	}
	if programs < 100 || taken < 1000 || worse < 100 {
		t.Errorf("there were only %d programs, and %d of their placings taken, %d of them worse", programs, taken, worse)
	}
}

// runPlaced runs what Place writes.
func runPlaced(src string, fuel int) (api.Result, api.Errno) {
	placed, e := Place(src)
	if e != api.OK {
		return api.Result{}, e
	}
	return Run(placed, fuel)
}

// otherPlacing changes what Place writes: at times all pairs, or those of two regions, get the same region, and news are left out or stand further out.
func (m *maker) otherPlacing(src string) string {
	root, _ := refParse(refTokens(src))
	refShare(root)
	pairs, all := refOf(root, "pair"), refAll(root)
	one := pairs[m.Intn(len(pairs))].region
	two := pairs[m.Intn(len(pairs))].region
	how := m.Intn(3)
	for _, p := range pairs {
		if how == 0 || how == 1 && p.region == two {
			p.region = one
		}
	}
	refPlacedType(root, nil)
	news := map[*refExpr][]string{}
	seen := map[string]bool{}
	leave := m.Intn(3)
	for _, p := range pairs {
		about := refAbout(root, p.region)
		if seen[p.region] || about == nil || m.Intn(3) < leave {
			continue
		}
		seen[p.region] = true
		for _, e := range all {
			if e.first <= about.first && e.end >= about.end && m.Intn(4) == 0 {
				about = e
			}
		}
		news[about] = append(news[about], p.region)
	}
	return m.lay(refPlacedTokens(root, news))
}

func TestOtherPlacings(t *testing.T) {
	taken, worse := 0, 0
	for seed := 0; seed < 3000; seed++ {
		m := &maker{Rand: rand.New(rand.NewSource(int64(seed)))}
		src := refTidy(m.expression(m.pick(someTypes), 2+m.Intn(4), nil))
		best, e := runPlaced(src, 2000)
		if e != api.OK || best.Cells == 0 {
			continue
		}
		for n := 0; n < 5; n++ {
			other := m.otherPlacing(src)
			if !compareLives(t, src, other, best, 2000) {
				continue
			}
			taken++
			compareLives(t, src, other, best, best.Steps)
			if x, _ := Run(other, 2000); x.Most > best.Most || x.Left > best.Left {
				worse++
			}
		}
	}
	if taken < 1000 || worse < 500 {
		t.Errorf("there were only %d placings taken, %d of them worse", taken, worse)
	}
}
