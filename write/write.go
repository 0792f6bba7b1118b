// Package write lays programs out as tidy text.
package write

import (
	"strconv"

	"lease/place"
	"lease/tree"
)

type writer struct {
	program tree.Tree
	layout  place.Layout
	out     []byte
}

// Plain gives a program without its regions and news.
func Plain(program tree.Tree) string { return Placed(program, place.Layout{}) }

// Placed gives a program with the regions and news of a layout, in place of its own.
func Placed(program tree.Tree, layout place.Layout) string {
	w := writer{program: program, layout: layout}
	w.expression(program.Root())
	return string(w.out)
}

func (w *writer) put(text string) { w.out = append(w.out, text...) }

func (w *writer) putRegion(region int) {
	w.put(" #")
	w.put(strconv.Itoa(region))
}

func (w *writer) expression(i int) {
	news := w.openNews(i)
	w.form(i)
	for ; news > 0; news-- {
		w.put(")")
	}
}

// openNews tells how many news stand about an expression, for so many brackets are to be closed behind it.
func (w *writer) openNews(i int) int {
	news := 0
	for region := 0; region < w.layout.Regions(); region++ {
		if w.layout.About(region) == i {
			w.put("(new")
			w.putRegion(region)
			w.put(" ")
			news++
		}
	}
	return news
}

func (w *writer) form(i int) {
	node := w.program.Node(i)
	switch node.Form {
	case tree.Number:
		w.put(strconv.Itoa(node.Number))
	case tree.Name:
		w.put(node.Word)
	case tree.New:
		w.expression(node.Parts[0])
	default:
		region := w.layout.Region(i)
		w.bracket(node, region)
	}
}

func (w *writer) bracket(n tree.Node, region int) {
	w.put("(")
	w.put(wordOf(n.Form))
	if region != place.NoRegion {
		w.putRegion(region)
	}
	for i := 0; i < len(n.Parts) && n.Parts[i] != tree.None; i++ {
		if i == partBehindName(n.Form) {
			w.put(" ")
			w.put(n.Word)
		}
		w.put(" ")
		w.expression(n.Parts[i])
	}
	w.put(")")
}

// partBehindName tells ahead of which part the name stands that a form binds, or None if it binds none.
func partBehindName(form tree.Form) int {
	switch form {
	case tree.Let:
		return 0
	case tree.Loop:
		return 1
	}
	return tree.None
}

func wordOf(form tree.Form) string {
	switch form {
	case tree.Let:
		return "let"
	case tree.Pair:
		return "pair"
	case tree.Fst:
		return "fst"
	case tree.Snd:
		return "snd"
	case tree.If:
		return "if"
	case tree.Add:
		return "add"
	case tree.Sub:
		return "sub"
	case tree.Less:
		return "less"
	case tree.Loop:
		return "loop"
	}
	return ""
}
