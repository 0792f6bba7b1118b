package lease

import (
	"fmt"
	"regexp"
	"sort"
	"strconv"
	"strings"

	"lease/api"
)

// The same promises once more, from the words of the document and in another manner than the program's: as plain as can be, with no thought for time.

type refToken struct {
	kind string // the kept word or bracket itself, or NAME, NUMBER, REGION, BAD
	text string
	at   int
}

var refRow = regexp.MustCompile(`^(?:[a-z]+|[0-9]+|#[0-9]*|(?s:.))`)
var refNumber = regexp.MustCompile(`^(?:0|[1-9][0-9]{0,3})$`)
var refRegion = regexp.MustCompile(`^#(?:0|[1-9][0-9]{0,2})$`)
var refWord = regexp.MustCompile(`^[a-z]{1,8}$`)

func refTokens(src string) []refToken {
	row := []refToken{}
	for at := 0; at < len(src); {
		if src[at] == ' ' || src[at] == '\n' {
			at++
			continue
		}
		text := refRow.FindString(src[at:])
		kind := "BAD"
		switch {
		case text == "(" || text == ")":
			kind = text
		case strings.Contains(" let pair fst snd if add sub less loop new ", " "+text+" "):
			kind = text
		case refWord.MatchString(text):
			kind = "NAME"
		case refNumber.MatchString(text):
			kind = "NUMBER"
		case refRegion.MatchString(text):
			kind = "REGION"
		}
		row = append(row, refToken{kind, text, at})
		at += len(text)
	}
	return row
}

// refShapes tells what stands behind each form's word; refPlacedShapes has what is otherwise in a placed program.
var refShapes = map[string]string{"let": "NAME e e )", "pair": "e e )", "fst": "e )", "snd": "e )", "if": "e e e )", "add": "e e )", "sub": "e e )", "less": "e e )", "loop": "e NAME e e )"}
var refPlacedShapes = map[string]string{"pair": "REGION e e )", "new": "REGION e )"}

// refForm reads with a list of what is still to come; it answers the place of what can't stand there, or -1.
func refForm(src string, placed bool) int {
	todo := []string{"e"}
	for _, t := range refTokens(src) {
		if len(todo) == 0 {
			return t.at
		}
		next := todo[0]
		todo = todo[1:]
		shape, isForm := refShapes[t.kind]
		if other, ok := refPlacedShapes[t.kind]; ok && placed {
			shape, isForm = other, true
		}
		switch {
		case next == "e" && (t.kind == "NAME" || t.kind == "NUMBER"):
		case next == "e" && t.kind == "(":
			todo = append([]string{"form"}, todo...)
		case next == "form" && isForm:
			todo = append(strings.Fields(shape), todo...)
		case next == t.kind:
		default:
			return t.at
		}
	}
	if len(todo) > 0 {
		return len(src)
	}
	return -1
}

type refExpr struct {
	form       string
	text       string // of a name or number; of let and loop, the name that is bound
	region     string // of new; of a placed pair
	first, end int    // its first byte, its last byte
	parts      []*refExpr
	typ        string // "" if it has none
	fault      api.Errno
	placed     string // its placed type
}

func refParse(row []refToken) (*refExpr, []refToken) {
	t := row[0]
	if t.kind != "(" {
		return &refExpr{form: t.kind, text: t.text, first: t.at, end: t.at + len(t.text) - 1}, row[1:]
	}
	e := &refExpr{form: row[1].kind, first: t.at}
	row = row[2:]
	for row[0].kind != ")" {
		if row[0].kind == "REGION" {
			e.region = row[0].text
			row = row[1:]
			continue
		}
		isBinder := row[0].kind == "NAME" && (e.form == "let" && e.text == "" || e.form == "loop" && e.text == "" && len(e.parts) == 1)
		if isBinder {
			e.text = row[0].text
			row = row[1:]
			continue
		}
		var part *refExpr
		part, row = refParse(row)
		e.parts = append(e.parts, part)
	}
	e.end = row[0].at
	return e, row[1:]
}

func refAll(e *refExpr) []*refExpr {
	all := []*refExpr{e}
	for _, p := range e.parts {
		all = append(all, refAll(p)...)
	}
	return all
}

func refSize(typ string) int { return strings.Count(typ, "[") }

// refHalves takes a pair's type apart.
func refHalves(typ string) (string, string) {
	depth := 0
	for i, c := range typ {
		switch {
		case c == '[':
			depth++
		case c == ']':
			depth--
		case c == ',' && depth == 1:
			return typ[1:i], typ[i+1 : len(typ)-1]
		}
	}
	return "", ""
}

// refType writes down the type of each expression, and its fault if its parts have types and it has none.
func refType(e *refExpr, names map[string]string) {
	inner := func(typ string) map[string]string {
		more := map[string]string{e.text: typ}
		for k, v := range names {
			if k != e.text {
				more[k] = v
			}
		}
		return more
	}
	for i, p := range e.parts {
		scope := names
		if i > 0 && i == len(e.parts)-1 && (e.form == "let" || e.form == "loop") {
			scope = inner(e.parts[i-1].typ)
		}
		refType(p, scope)
		if p.typ == "" {
			return
		}
	}
	typ := func(i int) string { return e.parts[i].typ }
	right := true
	switch e.form {
	case "NUMBER":
		e.typ = "n"
	case "NAME":
		e.typ = names[e.text]
		if e.typ == "" {
			e.fault = api.ErrName
		}
	case "new":
		e.typ = typ(0)
	case "let":
		e.typ = typ(1)
	case "pair":
		e.typ = "[" + typ(0) + "," + typ(1) + "]"
		if refSize(e.typ) > api.MaxType {
			e.typ, e.fault = "", api.ErrBig
		}
	case "fst":
		e.typ, _ = refHalves(typ(0))
		right = typ(0) != "n"
	case "snd":
		_, e.typ = refHalves(typ(0))
		right = typ(0) != "n"
	case "if", "loop":
		e.typ = typ(1)
		right = typ(0) == "n" && typ(1) == typ(2)
	default:
		e.typ = "n"
		right = typ(0) == "n" && typ(1) == "n"
	}
	if !right {
		e.typ, e.fault = "", api.ErrType
	}
}

func refCheck(src string) (api.Errno, int) {
	if len(src) > api.MaxText {
		return api.ErrLong, 0
	}
	if at := refForm(src, false); at >= 0 {
		return api.ErrForm, at
	}
	root, _ := refParse(refTokens(src))
	return refFaults(root)
}

// refOf gives the expressions of one form, by their first bytes.
func refOf(root *refExpr, form string) []*refExpr {
	row := []*refExpr{}
	for _, e := range refAll(root) {
		if e.form == form {
			row = append(row, e)
		}
	}
	sort.Slice(row, func(i, j int) bool { return row[i].first < row[j].first })
	return row
}

// refInOrder gives all expressions in their order.
func refInOrder(root *refExpr) []*refExpr {
	all := refAll(root)
	sort.Slice(all, func(i, j int) bool { return all[i].end < all[j].end })
	return all
}

func refFaults(root *refExpr) (api.Errno, int) {
	if pairs := refOf(root, "pair"); len(pairs) > api.MaxPairs {
		return api.ErrMany, pairs[api.MaxPairs].first
	}
	refType(root, nil)
	for _, e := range refInOrder(root) {
		if e.fault != api.OK {
			return e.fault, e.first
		}
	}
	return api.OK, 0
}

// refTidy is the text of tokens.
func refTidy(row []string) string {
	text := strings.Join(row, " ")
	return strings.ReplaceAll(strings.ReplaceAll(text, "( ", "("), " )", ")")
}

// refErase drops tokens; of each bracket that is open it knows whether it is a new's.
func refErase(placed string) (string, api.Errno) {
	if len(placed) > api.MaxPlaced {
		return "", api.ErrLong
	}
	if refForm(placed, true) >= 0 {
		return "", api.ErrForm
	}
	row := refTokens(placed)
	kept := []string{}
	isNew := []bool{}
	for i, t := range row {
		drop := t.kind == "REGION" || t.kind == "new"
		switch t.kind {
		case "(":
			drop = row[i+1].kind == "new"
			isNew = append(isNew, drop)
		case ")":
			drop = isNew[len(isNew)-1]
			isNew = isNew[:len(isNew)-1]
		}
		if !drop {
			kept = append(kept, t.text)
		}
	}
	return refTidy(kept), api.OK
}

// refPlacedType writes down the placed types, as if nothing were wrong: a pair's is [#k,first,second].
func refPlacedType(e *refExpr, names map[string]string) {
	for i, p := range e.parts {
		scope := names
		if i > 0 && i == len(e.parts)-1 && (e.form == "let" || e.form == "loop") {
			scope = map[string]string{}
			for k, v := range names {
				scope[k] = v
			}
			scope[e.text] = e.parts[i-1].placed
		}
		refPlacedType(p, scope)
	}
	halves := func() (string, string) {
		rest := strings.SplitN(e.parts[0].placed, ",", 2)
		return refHalves("[" + rest[1])
	}
	switch e.form {
	case "NAME":
		e.placed = names[e.text]
	case "new":
		e.placed = e.parts[0].placed
	case "let", "if", "loop":
		e.placed = e.parts[1].placed
	case "pair":
		e.placed = "[" + e.region + "," + e.parts[0].placed + "," + e.parts[1].placed + "]"
	case "fst":
		e.placed, _ = halves()
	case "snd":
		_, e.placed = halves()
	default:
		e.placed = "n"
	}
}

// refPlaced gives a placed program, and the first fault that is not one of its regions.
func refPlaced(placed string) (*refExpr, api.Errno, int) {
	if len(placed) > api.MaxPlaced {
		return nil, api.ErrLong, 0
	}
	if at := refForm(placed, true); at >= 0 {
		return nil, api.ErrForm, at
	}
	root, _ := refParse(refTokens(placed))
	e, at := refFaults(root)
	return root, e, at
}

func refVet(placed string) (api.Errno, int) {
	root, e, at := refPlaced(placed)
	if e != api.OK {
		return e, at
	}
	news := refOf(root, "new")
	for i, n := range news {
		for _, earlier := range news[:i] {
			if earlier.region == n.region {
				return api.ErrTwice, n.first
			}
		}
	}
	for _, p := range refOf(root, "pair") {
		for _, n := range news {
			if n.region == p.region && !(n.first < p.first && p.end < n.end) {
				return api.ErrScope, p.first
			}
		}
	}
	refPlacedType(root, nil)
	for _, e := range refInOrder(root) {
		if (e.form == "if" || e.form == "loop") && e.parts[1].placed != e.parts[2].placed {
			return api.ErrMatch, e.first
		}
		if e.form == "new" && strings.Contains(e.parts[0].placed, "["+e.region+",") {
			return api.ErrEscape, e.first
		}
	}
	return api.OK, 0
}

// refPlacedTokens writes a program with the regions that its pairs have, and with these news about its expressions.
func refPlacedTokens(e *refExpr, news map[*refExpr][]string) []string {
	row := []string{}
	for _, region := range news[e] {
		row = append(row, "(", "new", region)
	}
	switch e.form {
	case "NAME", "NUMBER":
		row = append(row, e.text)
	case "pair":
		row = append(row, "(", "pair", e.region)
	case "let":
		row = append(row, "(", "let", e.text)
	default:
		row = append(row, "(", e.form)
	}
	for i, p := range e.parts {
		if e.form == "loop" && i == 1 {
			row = append(row, e.text)
		}
		row = append(row, refPlacedTokens(p, news)...)
	}
	if len(e.parts) > 0 {
		row = append(row, ")")
	}
	for range news[e] {
		row = append(row, ")")
	}
	return row
}

var refRegions = regexp.MustCompile(`#[0-9]+`)

// refClash gives two regions that stand at the same place in two placed types that must be the same.
func refClash(root *refExpr) (string, string, bool) {
	for _, e := range refAll(root) {
		if e.form != "if" && e.form != "loop" {
			continue
		}
		other := refRegions.FindAllString(e.parts[2].placed, -1)
		for i, region := range refRegions.FindAllString(e.parts[1].placed, -1) {
			if region != other[i] {
				return region, other[i], true
			}
		}
	}
	return "", "", false
}

// refShare gives each pair a region of its own, and makes two regions one wherever types clash, until none do. Then it counts the regions, and tells how many there are.
func refShare(root *refExpr) int {
	pairs := refOf(root, "pair")
	rename := func(from, to string) {
		for _, p := range pairs {
			if p.region == from {
				p.region = to
			}
		}
	}
	for i, p := range pairs {
		p.region = "#" + strconv.Itoa(1000+i)
	}
	refPlacedType(root, nil)
	for one, other, clash := refClash(root); clash; one, other, clash = refClash(root) {
		rename(one, other)
		refPlacedType(root, nil)
	}
	count := 0
	for _, p := range pairs {
		if len(p.region) == 5 {
			rename(p.region, "#"+strconv.Itoa(count))
			count++
		}
	}
	refPlacedType(root, nil)
	return count
}

func refMentions(e *refExpr, region string) bool { return strings.Contains(e.placed, "["+region+",") }

// refAbout gives the expression about which a region's new stands, or nil.
func refAbout(root *refExpr, region string) *refExpr {
	all := refAll(root)
	mention := []*refExpr{}
	for _, e := range all {
		if refMentions(e, region) {
			mention = append(mention, e)
		}
	}
	holds := func(e *refExpr) bool {
		for _, other := range mention {
			if other.first < e.first || other.end > e.end {
				return false
			}
		}
		return true
	}
	smallest := root
	for _, e := range all {
		if holds(e) && e.end-e.first < smallest.end-smallest.first {
			smallest = e
		}
	}
	if !refMentions(smallest, region) {
		return smallest
	}
	for _, e := range all {
		for _, p := range e.parts {
			if p == smallest {
				return e
			}
		}
	}
	return nil
}

func refPlace(src string) (string, api.Errno) {
	if e, _ := refCheck(src); e != api.OK {
		return "", e
	}
	root, _ := refParse(refTokens(src))
	news := map[*refExpr][]string{}
	for i := range refShare(root) {
		region := "#" + strconv.Itoa(i)
		if about := refAbout(root, region); about != nil {
			news[about] = append(news[about], region)
		}
	}
	return refTidy(refPlacedTokens(root, news)), api.OK
}

// refCell and refLife know no numbers: what is live is found by looking at each cell that was ever made.
type refCell struct {
	first, second any
	region        *refLife
}

type refLife struct{ ended bool }

type refRun struct {
	left, steps int
	cells       []*refCell
	most        int
	whole       *refLife
}

// refStop is what a run panics with where it can't go on.
type refStop struct{ e api.Errno }

func (r *refRun) live() int {
	n := 0
	for _, c := range r.cells {
		if !c.region.ended {
			n++
		}
	}
	return n
}

// refUse gives a cell that is live.
func refUse(v any) *refCell {
	c := v.(*refCell)
	if c.region.ended {
		panic(refStop{api.ErrDead})
	}
	return c
}

// with gives names, of values or of regions, and one more.
func with[V any](names map[string]V, name string, v V) map[string]V {
	more := map[string]V{}
	for k, old := range names {
		more[k] = old
	}
	more[name] = v
	return more
}

func (r *refRun) work(e *refExpr, names map[string]any, regions map[string]*refLife) any {
	part := func(i int) any { return r.work(e.parts[i], names, regions) }
	if e.form == "new" {
		opened := &refLife{}
		v := r.work(e.parts[0], names, with(regions, e.region, opened))
		opened.ended = true
		return v
	}
	if r.left == 0 {
		panic(refStop{api.ErrFuel})
	}
	r.left--
	r.steps++
	switch e.form {
	case "NUMBER":
		n, _ := strconv.Atoi(e.text)
		return n
	case "NAME":
		return names[e.text]
	case "let":
		return r.work(e.parts[1], with(names, e.text, part(0)), regions)
	case "pair":
		c := &refCell{first: part(0), second: part(1), region: regions[e.region]}
		if c.region == nil {
			c.region = r.whole
		}
		r.cells = append(r.cells, c)
		r.most = max(r.most, r.live())
		return c
	case "fst":
		return refUse(part(0)).first
	case "snd":
		return refUse(part(0)).second
	case "if":
		if part(0).(int) != 0 {
			return part(1)
		}
		return part(2)
	case "loop":
		n := part(0).(int)
		x := part(1)
		for ; n > 0; n-- {
			x = r.work(e.parts[2], with(names, e.text, x), regions)
		}
		return x
	}
	a := part(0).(int)
	b := part(1).(int)
	switch {
	case e.form == "add":
		return (a + b) % 10000
	case e.form == "sub":
		return (a - b + 10000) % 10000
	case a < b:
		return 1
	}
	return 0
}

func refText(v any) string {
	if _, ok := v.(*refCell); ok {
		c := refUse(v)
		return fmt.Sprintf("[%s %s]", refText(c.first), refText(c.second))
	}
	return fmt.Sprint(v)
}

func refEval(src string, fuel int) (api.Result, api.Errno) {
	if e, _ := refCheck(src); e != api.OK {
		return api.Result{}, e
	}
	root, _ := refParse(refTokens(src))
	return refResult(root, fuel)
}

// refPlacedRun is Run.
func refPlacedRun(placed string, fuel int) (api.Result, api.Errno) {
	root, e, _ := refPlaced(placed)
	if e != api.OK {
		return api.Result{}, e
	}
	return refResult(root, fuel)
}

func refResult(root *refExpr, fuel int) (result api.Result, e api.Errno) {
	if fuel < 0 || fuel > api.MaxFuel {
		return api.Result{}, api.ErrArg
	}
	defer func() {
		if out := recover(); out != nil {
			stop, ok := out.(refStop)
			if !ok {
				panic(out)
			}
			result, e = api.Result{}, stop.e
		}
	}()
	r := refRun{left: fuel, whole: &refLife{}}
	v := r.work(root, nil, nil)
	return api.Result{Value: refText(v), Steps: r.steps, Cells: len(r.cells), Most: r.most, Left: r.live()}, api.OK
}
