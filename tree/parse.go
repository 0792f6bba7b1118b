package tree

import "lease/token"

// binding says which expression a word names.
type binding struct {
	word   string
	source int
}

type parser struct {
	text   string
	from   int // where the next token is looked for
	failed bool
	at     int // where it failed
	scope  []binding
	tree   Tree
}

// Parse reads a plain program. If the text is none, it answers false and the place of what can't stand there.
func Parse(text string) (Tree, int, bool) {
	p := parser{text: text}
	p.expression()
	p.expect(token.End)
	if p.failed {
		return Tree{}, p.at, false
	}
	return p.tree, 0, true
}

func (p *parser) take() token.Token {
	t := token.Next(p.text, p.from)
	p.from = t.Behind
	return t
}

// fail keeps the first place alone, and leaves nothing to read, so that all that is still open ends at once.
func (p *parser) fail(at int) {
	if p.failed {
		return
	}
	p.failed = true
	p.at = at
	p.from = len(p.text)
}

func (p *parser) expect(kind token.Kind) token.Token {
	t := p.take()
	if t.Kind != kind {
		p.fail(t.At)
	}
	return t
}

func (p *parser) add(n Node) int {
	p.tree.nodes = append(p.tree.nodes, n)
	return len(p.tree.nodes) - 1
}

func (p *parser) expression() int {
	t := p.take()
	switch t.Kind {
	case token.Number:
		return p.add(Node{Form: Number, At: t.At, Number: t.Number, Source: None, Parts: noParts()})
	case token.Name:
		source := p.find(t.Word)
		return p.add(Node{Form: Name, At: t.At, Source: source, Parts: noParts()})
	case token.Open:
		return p.bracket(t.At)
	}
	p.fail(t.At)
	return None
}

func (p *parser) bracket(at int) int {
	word := p.take()
	form := formOf(word.Kind)
	if form == Nothing {
		p.fail(word.At)
		return None
	}
	if form == Pair {
		p.tree.pairs = append(p.tree.pairs, at)
	}
	parts := p.parts(form)
	p.expect(token.Close)
	return p.add(Node{Form: form, At: at, Source: None, Parts: parts})
}

func (p *parser) parts(form Form) [3]int {
	switch form {
	case Let:
		return p.letParts()
	case Loop:
		return p.loopParts()
	case Fst, Snd:
		return p.row(1)
	case If:
		return p.row(3)
	}
	return p.row(2)
}

func (p *parser) letParts() [3]int {
	name := p.expect(token.Name)
	source := p.expression()
	body := p.body(name.Word, source)
	return [3]int{source, body, None}
}

func (p *parser) loopParts() [3]int {
	times := p.expression()
	name := p.expect(token.Name)
	source := p.expression()
	body := p.body(name.Word, source)
	return [3]int{times, source, body}
}

func (p *parser) row(count int) [3]int {
	parts := noParts()
	for i := 0; i < count && i < len(parts); i++ {
		part := p.expression()
		parts[i] = part
	}
	return parts
}

// body reads the expression in which a word is bound.
func (p *parser) body(word string, source int) int {
	p.scope = append(p.scope, binding{word: word, source: source})
	part := p.expression()
	p.unbind()
	return part
}

func (p *parser) unbind() {
	if len(p.scope) > 0 {
		p.scope = p.scope[:len(p.scope)-1]
	}
}

// find begins at the end of the scope, for the innermost binding counts.
func (p *parser) find(word string) int {
	for i := len(p.scope) - 1; i >= 0; i-- {
		if p.scope[i].word == word {
			return p.scope[i].source
		}
	}
	return None
}

func formOf(kind token.Kind) Form {
	switch kind {
	case token.Let:
		return Let
	case token.Pair:
		return Pair
	case token.Fst:
		return Fst
	case token.Snd:
		return Snd
	case token.If:
		return If
	case token.Add:
		return Add
	case token.Sub:
		return Sub
	case token.Less:
		return Less
	case token.Loop:
		return Loop
	}
	return Nothing
}
