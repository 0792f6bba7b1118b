package types

import "testing"

func TestSameTypesHaveOneNumber(t *testing.T) {
	table := Table{}
	a := table.Pair(1, Number, Number)
	b := table.Pair(2, Number, Number)
	c := table.Pair(1, a, Number)
	d := table.Pair(1, Number, a)
	e := table.Pair(1, b, Number)
	all := []int{Number, a, b, c, d, e}
	for i := range all {
		for j := range all {
			if i != j && all[i] == all[j] {
				t.Errorf("the types %d and %d have the same number", i, j)
			}
		}
	}
	if table.Pair(1, Number, Number) != a || table.Pair(1, a, Number) != c || table.Pair(1, b, Number) != e {
		t.Error("the same type has another number")
	}
}

func TestSizes(t *testing.T) {
	table := Table{}
	a := table.Pair(0, Number, Number)
	b := table.Pair(0, a, a)
	c := table.Pair(0, a, b)
	for kind, want := range map[int]int{Number: 0, a: 1, b: 3, c: 5, -1: 0, 99: 0} {
		if got := table.At(kind).Size; got != want {
			t.Errorf("the type %d has the size %d, want %d", kind, got, want)
		}
	}
	if got := table.At(c); got.First != a || got.Second != b {
		t.Errorf("the type %d is %v", c, got)
	}
}

func TestMentions(t *testing.T) {
	table := Table{}
	one := table.Pair(1, Number, Number)
	two := table.Pair(2, Number, one)
	three := table.Pair(3, two, Number)
	for _, c := range []struct {
		kind, region int
		want         bool
	}{
		{Number, 0, false}, {Number, 1, false}, {-1, 1, false}, {99, 1, false},
		{one, 1, true}, {one, 0, false}, {two, 2, true}, {two, 1, true}, {two, 3, false},
		{three, 3, true}, {three, 2, true}, {three, 1, true}, {three, 0, false},
	} {
		if got := table.Mentions(c.kind, c.region); got != c.want {
			t.Errorf("the type %d mentions %d: %v, want %v", c.kind, c.region, got, c.want)
		}
	}
}
