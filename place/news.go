package place

import (
	"lease/tree"
	"lease/types"
)

type finder struct {
	program tree.Tree
	typing  types.Typing // with the regions as they are numbered in the end
}

func newsOf(t tree.Tree, regions []int, count int) []int {
	f := finder{program: t}
	for i := 0; i < t.Len() && i < len(regions); i++ {
		node := t.Node(i)
		f.typing.Add(node, regions[i])
	}
	news := []int{}
	for region := 0; region < count; region++ {
		about := f.about(region)
		news = append(news, about)
	}
	return news
}

// about finds the smallest expression that holds all those that mention the region and is none of them; of those that hold them, the smaller come first. The document asks for the smallest that holds them, or for the one of which it is a part: that is the same, for an expression of which a part holds all that mention the region can't mention it.
func (f *finder) about(region int) int {
	from, behind := f.span(region)
	for i := 0; i < f.program.Len(); i++ {
		node := f.program.Node(i)
		if node.At <= from && node.Behind >= behind && !f.mentions(i, region) {
			return i
		}
	}
	return tree.None
}

// span gives the bytes from the first expression that mentions the region up to the end of the last.
func (f *finder) span(region int) (int, int) {
	whole := f.program.Node(f.program.Root())
	from := whole.Behind
	behind := whole.At
	for i := 0; i < f.program.Len(); i++ {
		if !f.mentions(i, region) {
			continue
		}
		node := f.program.Node(i)
		if node.At < from {
			from = node.At
		}
		if node.Behind > behind {
			behind = node.Behind
		}
	}
	return from, behind
}

func (f *finder) mentions(i, region int) bool {
	kind := f.typing.Of(i)
	return f.typing.Table.Mentions(kind, region)
}
