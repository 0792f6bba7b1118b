// Package place finds regions for the pairs of a plain program in which check has found no fault, and where their news stand.
package place

import "lease/tree"

// NoRegion is the region of what is no pair.
const NoRegion = -1

// Layout says where regions and news stand. The empty one has none.
type Layout struct {
	regions []int // by expression
	news    []int // by region: the expression about which its new stands
}

// Program gives the layout of a whole program.
func Program(t tree.Tree) Layout {
	regions, count := regionsOf(t)
	news := newsOf(t, regions, count)
	return Layout{regions: regions, news: news}
}

// Regions tells how many there are; they are numbered from 0 on.
func (l Layout) Regions() int { return len(l.news) }

// Region gives that of a pair.
func (l Layout) Region(i int) int {
	if i < 0 || i >= len(l.regions) {
		return NoRegion
	}
	return l.regions[i]
}

// About gives the expression about which the region's new stands, or tree.None if it has no new.
func (l Layout) About(region int) int {
	if region < 0 || region >= len(l.news) {
		return tree.None
	}
	return l.news[region]
}
