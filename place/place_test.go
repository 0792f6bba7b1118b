package place

import (
	"testing"

	"lease/tree"
)

func TestLayout(t *testing.T) {
	for _, c := range []struct {
		src     string
		regions []int // by expression
		abouts  []int // by region
	}{
		{"7", []int{-1}, nil}, {"(pair 1 2)", []int{-1, -1, 0}, []int{-1}}, {"(fst (pair 1 2))", []int{-1, -1, 0, -1}, []int{3}},
		{"(pair (pair 1 2) 3)", []int{-1, -1, 1, -1, 0}, []int{-1, -1}}, {"(snd (pair (pair 1 2) 3))", []int{-1, -1, 1, -1, 0, -1}, []int{5, 5}},
		{"(if 1 (pair 2 3) (pair 4 5))", []int{-1, -1, -1, 0, -1, -1, 0, -1}, []int{-1}}, {"(loop 1 x (pair 2 3) (pair 4 5))", []int{-1, -1, -1, 0, -1, -1, 0, -1}, []int{-1}},
		{"(let x (pair 1 2) (let y (pair 3 4) (fst y)))", []int{-1, -1, 0, -1, -1, 1, -1, -1, -1, -1}, []int{9, 8}},
	} {
		program, _, ok := tree.ParsePlain(c.src)
		layout := Program(program)
		if !ok || layout.Regions() != len(c.abouts) {
			t.Fatalf("%q has %d regions, want %d", c.src, layout.Regions(), len(c.abouts))
		}
		for i, want := range c.regions {
			if got := layout.Region(i); got != want {
				t.Errorf("%q: the expression %d has the region %d, want %d", c.src, i, got, want)
			}
		}
		for region, want := range c.abouts {
			if got := layout.About(region); got != want {
				t.Errorf("%q: the new of %d stands about %d, want %d", c.src, region, got, want)
			}
		}
		for _, outside := range []int{-1, len(c.regions), 9999} {
			if layout.Region(outside) != NoRegion || layout.About(outside) != tree.None {
				t.Errorf("%q: outside of it, at %d, are %d and %d", c.src, outside, layout.Region(outside), layout.About(outside))
			}
		}
	}
}

func TestEmptyLayout(t *testing.T) {
	layout := Program(tree.Tree{})
	if layout.Regions() != 0 || layout.Region(0) != NoRegion || layout.About(0) != tree.None {
		t.Errorf("the layout of nothing is %v", layout)
	}
}
