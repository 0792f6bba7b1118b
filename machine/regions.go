package machine

import "lease/api"

// wholeRun is the number of the region that no new opens.
const wholeRun = -1

type region struct {
	number int // as the new names it
	serial int // no other region of the run has the same
	cells  int // how many live in it
}

// cell knows its region by two things: where it stood among those that had not ended, and which of all that ever stand there it is.
type cell struct {
	first, second value
	home, serial  int
}

func (m *machine) open(number int) {
	m.regions = append(m.regions, region{number: number, serial: m.opened})
	m.opened++
}

func (m *machine) end() {
	last := len(m.regions) - 1
	if last < 0 {
		return
	}
	m.live -= m.regions[last].cells
	m.regions = m.regions[:last]
}

// homeOf finds the innermost region of a number; if there is none, that of the whole run, which is the outermost.
func (m *machine) homeOf(number int) int {
	for i := len(m.regions) - 1; i > 0; i-- {
		if m.regions[i].number == number {
			return i
		}
	}
	return 0
}

func (m *machine) newCell(number int, first, second value) value {
	home := m.homeOf(number)
	if home >= len(m.regions) {
		return value{}
	}
	m.regions[home].cells++
	serial := m.regions[home].serial
	m.cells = append(m.cells, cell{first: first, second: second, home: home, serial: serial})
	m.live++
	if m.live > m.most {
		m.most = m.live
	}
	return value{isCell: true, n: len(m.cells) - 1}
}

// use gives a cell whose parts are wanted; if it is dead, that stops the run.
func (m *machine) use(v value) cell {
	if !v.isCell || v.n < 0 || v.n >= len(m.cells) {
		return cell{}
	}
	c := m.cells[v.n]
	if !m.isLive(c) {
		m.stop(api.ErrDead)
	}
	return c
}

func (m *machine) isLive(c cell) bool {
	return c.home >= 0 && c.home < len(m.regions) && m.regions[c.home].serial == c.serial
}
