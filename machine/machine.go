// Package machine runs programs in which check has found no fault.
package machine

import (
	"strconv"

	"lease/api"
	"lease/tree"
)

// value is a number, or the index of a cell.
type value struct {
	isCell bool
	n      int
}

type cell struct{ first, second value }

type machine struct {
	program     tree.Tree
	fuel, steps int
	spent       bool // a step was wanted for which there was no fuel
	cells       []cell
	named       []value // what a name is now, by the expression that it is bound to
}

// Run works a program out, in at most fuel steps.
func Run(program tree.Tree, fuel int) (api.Result, api.Errno) {
	m := machine{program: program, fuel: fuel, named: make([]value, program.Len())}
	end := m.work(program.Root())
	if m.spent {
		return api.Result{}, api.ErrFuel
	}
	made := len(m.cells)
	text := m.text(end)
	return api.Result{Value: text, Steps: m.steps, Cells: made, Most: made, Left: made}, api.OK
}

// work takes a step each time, so that fuel bounds the loops of the program too.
func (m *machine) work(i int) value {
	if m.steps >= m.fuel {
		m.spent = true
	}
	if m.spent {
		return value{}
	}
	m.steps++
	node := m.program.Node(i)
	switch node.Form {
	case tree.Number:
		return value{n: node.Number}
	case tree.Name:
		return m.look(node.Source)
	case tree.Let:
		return m.workLet(node)
	case tree.Pair:
		return m.workPair(node)
	case tree.Fst, tree.Snd:
		return m.workPart(node)
	case tree.If:
		return m.workIf(node)
	case tree.Add, tree.Sub, tree.Less:
		return m.workNumbers(node)
	case tree.Loop:
		return m.workLoop(node)
	}
	return value{}
}

func (m *machine) workLet(n tree.Node) value {
	source := m.work(n.Parts[0])
	m.name(n.Parts[0], source)
	return m.work(n.Parts[1])
}

func (m *machine) workPair(n tree.Node) value {
	first := m.work(n.Parts[0])
	second := m.work(n.Parts[1])
	m.cells = append(m.cells, cell{first: first, second: second})
	return value{isCell: true, n: len(m.cells) - 1}
}

func (m *machine) workPart(n tree.Node) value {
	whole := m.work(n.Parts[0])
	c := m.cellOf(whole)
	if n.Form == tree.Fst {
		return c.first
	}
	return c.second
}

func (m *machine) workIf(n tree.Node) value {
	condition := m.work(n.Parts[0])
	if condition.n != 0 {
		return m.work(n.Parts[1])
	}
	return m.work(n.Parts[2])
}

func (m *machine) workNumbers(n tree.Node) value {
	a := m.work(n.Parts[0])
	b := m.work(n.Parts[1])
	switch n.Form {
	case tree.Add:
		return value{n: (a.n + b.n) % api.Modulus}
	case tree.Sub:
		return value{n: (a.n + api.Modulus - b.n) % api.Modulus}
	}
	if a.n < b.n {
		return value{n: 1}
	}
	return value{n: 0}
}

func (m *machine) workLoop(n tree.Node) value {
	times := m.work(n.Parts[0])
	x := m.work(n.Parts[1])
	for i := 0; i < times.n && !m.spent; i++ {
		m.name(n.Parts[1], x)
		x = m.work(n.Parts[2])
	}
	return x
}

// name needs no stack of earlier values: no expression is begun again before it has ended.
func (m *machine) name(source int, v value) {
	if source >= 0 && source < len(m.named) {
		m.named[source] = v
	}
}

func (m *machine) look(source int) value {
	if source < 0 || source >= len(m.named) {
		return value{}
	}
	return m.named[source]
}

func (m *machine) cellOf(v value) cell {
	if !v.isCell || v.n < 0 || v.n >= len(m.cells) {
		return cell{}
	}
	return m.cells[v.n]
}

// text ends, for the parts of a cell were made ahead of it.
func (m *machine) text(v value) string {
	if !v.isCell {
		return strconv.Itoa(v.n)
	}
	c := m.cellOf(v)
	first := m.text(c.first)
	second := m.text(c.second)
	return "[" + first + " " + second + "]"
}
