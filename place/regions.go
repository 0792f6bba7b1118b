package place

import (
	"lease/tree"
	"lease/types"
)

// sharing says which pairs have one region. A pair goes by the place of its bracket: in the types that is its region, as if no two pairs shared one.
type sharing struct {
	typing  types.Typing
	earlier []int // by pair: an earlier one with the same region, or itself
}

// regionsOf gives the regions by expression, and tells how many there are.
func regionsOf(t tree.Tree) ([]int, int) {
	s := sharingOf(t)
	firsts := s.firsts(t)
	regions := []int{}
	for i := 0; i < t.Len(); i++ {
		node := t.Node(i)
		region := NoRegion
		if node.Form == tree.Pair {
			first := s.first(node.At)
			region = indexOf(firsts, first)
		}
		regions = append(regions, region)
	}
	return regions, len(firsts)
}

// sharingOf types with the regions that pairs have at first, though some of them turn out to be the same: whichever of two such regions a type has, it means both.
func sharingOf(t tree.Tree) sharing {
	s := sharing{}
	whole := t.Node(t.Root())
	for at := 0; at < whole.Behind; at++ {
		s.earlier = append(s.earlier, at)
	}
	for i := 0; i < t.Len(); i++ {
		node := t.Node(i)
		s.typing.Add(node, node.At)
		if node.Form == tree.If || node.Form == tree.Loop {
			second := s.typing.Of(node.Parts[1])
			third := s.typing.Of(node.Parts[2])
			s.match(second, third)
		}
	}
	return s
}

// match makes two types the same, which are so but for their regions. It ends, for the two types of a pair have lower numbers than its own.
func (s *sharing) match(one, other int) {
	if one == other || one == types.Number || other == types.Number {
		return
	}
	a := s.typing.Table.At(one)
	b := s.typing.Table.At(other)
	s.join(a.Region, b.Region)
	s.match(a.First, b.First)
	s.match(a.Second, b.Second)
}

func (s *sharing) join(one, other int) {
	a := s.first(one)
	b := s.first(other)
	if a < b {
		s.follow(b, a)
	} else {
		s.follow(a, b)
	}
}

func (s *sharing) follow(pair, earlier int) {
	if pair >= 0 && pair < len(s.earlier) {
		s.earlier[pair] = earlier
	}
}

// first gives the first of the pairs that have the same region as one.
func (s *sharing) first(pair int) int {
	for pair >= 0 && pair < len(s.earlier) && s.earlier[pair] < pair {
		pair = s.earlier[pair]
	}
	return pair
}

// firsts gives the first pairs of all regions, so that each region's number is where its own stands in the row.
func (s *sharing) firsts(t tree.Tree) []int {
	row := []int{}
	for i := 0; i < t.Len(); i++ {
		node := t.Opened(i)
		if node.Form == tree.Pair && s.first(node.At) == node.At {
			row = append(row, node.At)
		}
	}
	return row
}

func indexOf(row []int, wanted int) int {
	for i := 0; i < len(row); i++ {
		if row[i] == wanted {
			return i
		}
	}
	return NoRegion
}
