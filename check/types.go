package check

// number is the type of numbers; every other type is a pair's.
const number = 0

type pairType struct{ first, second, size int }

// typeTable has each type once, so that two types are the same if their numbers are. The type k, from 1 on, is pairs[k-1].
type typeTable struct{ pairs []pairType }

func (t *typeTable) pair(first, second int) int {
	for i := 0; i < len(t.pairs); i++ {
		if t.pairs[i].first == first && t.pairs[i].second == second {
			return i + 1
		}
	}
	a := t.at(first)
	b := t.at(second)
	t.pairs = append(t.pairs, pairType{first: first, second: second, size: 1 + a.size + b.size})
	return len(t.pairs)
}

// at answers noughts for what is no pair, so that the size of a number is 0.
func (t *typeTable) at(kind int) pairType {
	if kind < 1 || kind > len(t.pairs) {
		return pairType{}
	}
	return t.pairs[kind-1]
}
