// Package types holds the types of a program, plain or placed.
package types

// Number is the type of numbers; every other type is a pair's.
const Number = 0

// Pair is a pair's type: its region, its two types, and its size.
type Pair struct{ Region, First, Second, Size int }

// Table has each type once, so that two types are the same if their numbers are. The type k, from 1 on, is pairs[k-1].
type Table struct{ pairs []Pair }

// Pair gives the number of a pair's type. Where regions do not matter, all are to be the same.
func (t *Table) Pair(region, first, second int) int {
	for i := 0; i < len(t.pairs); i++ {
		p := t.pairs[i]
		if p.Region == region && p.First == first && p.Second == second {
			return i + 1
		}
	}
	a := t.At(first)
	b := t.At(second)
	t.pairs = append(t.pairs, Pair{Region: region, First: first, Second: second, Size: 1 + a.Size + b.Size})
	return len(t.pairs)
}

// At answers noughts for what is no pair, so that the size of a number is 0.
func (t *Table) At(kind int) Pair {
	if kind < 1 || kind > len(t.pairs) {
		return Pair{}
	}
	return t.pairs[kind-1]
}

// Mentions tells whether some pair of a type has the region. It ends, for the two types of a pair have lower numbers.
func (t *Table) Mentions(kind, region int) bool {
	if kind < 1 || kind > len(t.pairs) {
		return false
	}
	p := t.pairs[kind-1]
	if p.Region == region || t.Mentions(p.First, region) {
		return true
	}
	return t.Mentions(p.Second, region)
}
