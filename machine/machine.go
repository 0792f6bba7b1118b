// Package machine runs programs in which check has found no fault.
package machine

import (
	"strconv"

	"lease/api"
	"lease/tree"
)

// value is a number, or the index of a cell.
type value struct {
	isCell bool
	n      int
}

type machine struct {
	program     tree.Tree
	fuel, steps int
	fault       api.Errno // why the run has stopped, or OK
	named       []value   // what a name is now, by the expression that it is bound to
	cells       []cell
	regions     []region // those that have not ended, the innermost last
	opened      int      // how many regions there were so far
	live, most  int      // how many cells are live, and were at once
}

// Run works a program out, plain or placed, in at most fuel steps.
func Run(program tree.Tree, fuel int) (api.Result, api.Errno) {
	m := machine{program: program, fuel: fuel, named: make([]value, program.Len())}
	m.open(wholeRun)
	end := m.work(program.Root())
	text := m.text(end)
	if m.fault != api.OK {
		return api.Result{}, m.fault
	}
	return api.Result{Value: text, Steps: m.steps, Cells: len(m.cells), Most: m.most, Left: m.live}, api.OK
}

// stop keeps the first fault alone, for what is still open may meet another on its way out.
func (m *machine) stop(fault api.Errno) {
	if m.fault == api.OK {
		m.fault = fault
	}
}

func (m *machine) work(i int) value {
	node := m.program.Node(i)
	if node.Form == tree.New {
		return m.workNew(node)
	}
	return m.step(node)
}

// workNew takes no step; yet fuel bounds the loops of the program, for within a row of news there is an expression that takes one.
func (m *machine) workNew(n tree.Node) value {
	m.open(n.Region)
	inner := m.work(n.Parts[0])
	m.end()
	return inner
}

func (m *machine) step(node tree.Node) value {
	if m.steps >= m.fuel {
		m.stop(api.ErrFuel)
	}
	if m.fault != api.OK {
		return value{}
	}
	m.steps++
	switch node.Form {
	case tree.Number:
		return value{n: node.Number}
	case tree.Name:
		return m.look(node.Source)
	case tree.Let:
		return m.workLet(node)
	case tree.Pair:
		return m.workPair(node)
	case tree.Fst, tree.Snd:
		return m.workPart(node)
	case tree.If:
		return m.workIf(node)
	case tree.Add, tree.Sub, tree.Less:
		return m.workNumbers(node)
	case tree.Loop:
		return m.workLoop(node)
	}
	return value{}
}

func (m *machine) workLet(n tree.Node) value {
	source := m.work(n.Parts[0])
	m.name(n.Parts[0], source)
	return m.work(n.Parts[1])
}

func (m *machine) workPair(n tree.Node) value {
	first := m.work(n.Parts[0])
	second := m.work(n.Parts[1])
	return m.newCell(n.Region, first, second)
}

func (m *machine) workPart(n tree.Node) value {
	whole := m.work(n.Parts[0])
	c := m.use(whole)
	if n.Form == tree.Fst {
		return c.first
	}
	return c.second
}

func (m *machine) workIf(n tree.Node) value {
	condition := m.work(n.Parts[0])
	if condition.n != 0 {
		return m.work(n.Parts[1])
	}
	return m.work(n.Parts[2])
}

func (m *machine) workNumbers(n tree.Node) value {
	a := m.work(n.Parts[0])
	b := m.work(n.Parts[1])
	switch n.Form {
	case tree.Add:
		return value{n: (a.n + b.n) % api.Modulus}
	case tree.Sub:
		return value{n: (a.n + api.Modulus - b.n) % api.Modulus}
	}
	if a.n < b.n {
		return value{n: 1}
	}
	return value{n: 0}
}

func (m *machine) workLoop(n tree.Node) value {
	times := m.work(n.Parts[0])
	x := m.work(n.Parts[1])
	for i := 0; i < times.n && m.fault == api.OK; i++ {
		m.name(n.Parts[1], x)
		x = m.work(n.Parts[2])
	}
	return x
}

// name needs no stack of earlier values: no expression is begun again before it has ended.
func (m *machine) name(source int, v value) {
	if source >= 0 && source < len(m.named) {
		m.named[source] = v
	}
}

func (m *machine) look(source int) value {
	if source < 0 || source >= len(m.named) {
		return value{}
	}
	return m.named[source]
}

// text ends, for the parts of a cell were made ahead of it.
func (m *machine) text(v value) string {
	if !v.isCell {
		return strconv.Itoa(v.n)
	}
	c := m.use(v)
	first := m.text(c.first)
	second := m.text(c.second)
	return "[" + first + " " + second + "]"
}
