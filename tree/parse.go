package tree

import "lease/token"

// binding says which expression a word names.
type binding struct {
	word   string
	source int
}

type parser struct {
	text   string
	placed bool // regions stand in the text
	from   int  // where the next token is looked for
	failed bool
	at     int // where it failed
	scope  []binding
	tree   Tree
}

// ParsePlain reads a plain program. If the text is none, it answers false and the place of what can't stand there.
func ParsePlain(text string) (Tree, int, bool) {
	p := parser{text: text}
	return p.program()
}

// ParsePlaced reads a placed program, and answers as ParsePlain does.
func ParsePlaced(text string) (Tree, int, bool) {
	p := parser{text: text, placed: true}
	return p.program()
}

func (p *parser) program() (Tree, int, bool) {
	p.expression()
	p.expect(token.End)
	if p.failed {
		return Tree{}, p.at, false
	}
	return p.tree, 0, true
}

func (p *parser) take() token.Token {
	t := token.Next(p.text, p.from)
	p.from = t.Behind
	return t
}

// fail keeps the first place alone, and leaves nothing to read, so that all that is still open ends at once.
func (p *parser) fail(at int) {
	if p.failed {
		return
	}
	p.failed = true
	p.at = at
	p.from = len(p.text)
}

func (p *parser) expect(kind token.Kind) token.Token {
	t := p.take()
	if t.Kind != kind {
		p.fail(t.At)
	}
	return t
}

// expression keeps a seat for the node ahead of its parts, for its index is known only behind them.
func (p *parser) expression() int {
	seat := len(p.tree.opened)
	p.tree.opened = append(p.tree.opened, None)
	i := p.anyForm()
	if seat < len(p.tree.opened) {
		p.tree.opened[seat] = i
	}
	return i
}

func (p *parser) anyForm() int {
	t := p.take()
	node := Node{At: t.At, Behind: t.Behind, Source: None, Parts: noParts()}
	switch t.Kind {
	case token.Number:
		node.Form = Number
		node.Number = t.Number
		return p.add(node)
	case token.Name:
		node.Form = Name
		node.Word = t.Word
		node.Source = p.find(t.Word)
		return p.add(node)
	case token.Open:
		return p.bracket(node)
	}
	p.fail(t.At)
	return None
}

func (p *parser) add(n Node) int {
	p.tree.nodes = append(p.tree.nodes, n)
	return len(p.tree.nodes) - 1
}

func (p *parser) bracket(n Node) int {
	word := p.take()
	n.Form = formOf(word.Kind)
	if n.Form == Nothing || n.Form == New && !p.placed {
		p.fail(word.At)
		return None
	}
	p.fill(&n)
	end := p.expect(token.Close)
	n.Behind = end.Behind
	return p.add(n)
}

func (p *parser) fill(n *Node) {
	switch n.Form {
	case Let:
		p.fillLet(n)
	case Loop:
		p.fillLoop(n)
	case Pair:
		if p.placed {
			p.fillRegion(n)
		}
		p.fillRow(n, 2)
	case New:
		p.fillRegion(n)
		p.fillRow(n, 1)
	case Fst, Snd:
		p.fillRow(n, 1)
	case If:
		p.fillRow(n, 3)
	default:
		p.fillRow(n, 2)
	}
}

func (p *parser) fillLet(n *Node) {
	name := p.expect(token.Name)
	source := p.expression()
	body := p.body(name.Word, source)
	n.Word = name.Word
	n.Parts = [3]int{source, body, None}
}

func (p *parser) fillLoop(n *Node) {
	times := p.expression()
	name := p.expect(token.Name)
	source := p.expression()
	body := p.body(name.Word, source)
	n.Word = name.Word
	n.Parts = [3]int{times, source, body}
}

func (p *parser) fillRegion(n *Node) {
	region := p.expect(token.Region)
	n.Region = region.Number
}

func (p *parser) fillRow(n *Node, count int) {
	for i := 0; i < count && i < len(n.Parts); i++ {
		part := p.expression()
		n.Parts[i] = part
	}
}

// body reads the expression in which a word is bound.
func (p *parser) body(word string, source int) int {
	p.scope = append(p.scope, binding{word: word, source: source})
	part := p.expression()
	p.unbind()
	return part
}

func (p *parser) unbind() {
	if len(p.scope) > 0 {
		p.scope = p.scope[:len(p.scope)-1]
	}
}

// find begins at the end of the scope, for the innermost binding counts.
func (p *parser) find(word string) int {
	for i := len(p.scope) - 1; i >= 0; i-- {
		if p.scope[i].word == word {
			return p.scope[i].source
		}
	}
	return None
}

func formOf(kind token.Kind) Form {
	switch kind {
	case token.Let:
		return Let
	case token.Pair:
		return Pair
	case token.Fst:
		return Fst
	case token.Snd:
		return Snd
	case token.If:
		return If
	case token.Add:
		return Add
	case token.Sub:
		return Sub
	case token.Less:
		return Less
	case token.Loop:
		return Loop
	case token.New:
		return New
	}
	return Nothing
}
