// Package token reads a text as the tokens of a program.
package token

import "lease/api"

// Kind tells tokens apart; each kept word is a kind of its own.
type Kind int

const (
	End Kind = iota // behind the last token
	Bad             // bytes that can stand nowhere
	Open
	Close
	Name
	Number
	Region
	Let
	Pair
	Fst
	Snd
	If
	Add
	Sub
	Less
	Loop
	New
)

const (
	maxDigits       = 4
	maxRegionDigits = 3
)

// Token is a piece of a text: its bytes are those from At up to, but not with, Behind.
type Token struct {
	Kind       Kind
	At, Behind int
	Word       string // of a Name
	Number     int    // of a Number or a Region
}

// Next gives the first token at or behind the place from.
func Next(text string, from int) Token {
	at := skipBlanks(text, from)
	if at >= len(text) {
		return Token{Kind: End, At: len(text), Behind: len(text)}
	}
	c := byteAt(text, at)
	switch {
	case c == '(':
		return Token{Kind: Open, At: at, Behind: at + 1}
	case c == ')':
		return Token{Kind: Close, At: at, Behind: at + 1}
	case isLetter(c):
		return readWord(text, at)
	case isDigit(c):
		return readNumber(text, at, at, maxDigits, Number)
	case c == '#':
		return readNumber(text, at, at+1, maxRegionDigits, Region)
	}
	return Token{Kind: Bad, At: at, Behind: at + 1}
}

func skipBlanks(text string, from int) int {
	at := from
	if at < 0 {
		at = 0
	}
	for at < len(text) && isBlank(byteAt(text, at)) {
		at++
	}
	return at
}

func readWord(text string, at int) Token {
	behind := at
	for isLetter(byteAt(text, behind)) {
		behind++
	}
	if behind-at > api.MaxWord {
		return Token{Kind: Bad, At: at, Behind: behind}
	}
	word := cut(text, at, behind)
	return Token{Kind: kindOf(word), At: at, Behind: behind, Word: word}
}

// readNumber reads the digits from the place digits on, as a token that begins at the place at: a Region's sign stands ahead of its digits.
func readNumber(text string, at, digits, most int, kind Kind) Token {
	behind := digits
	for isDigit(byteAt(text, behind)) {
		behind++
	}
	count := behind - digits
	leadingZero := count > 1 && byteAt(text, digits) == '0'
	if count == 0 || count > most || leadingZero {
		return Token{Kind: Bad, At: at, Behind: behind}
	}
	return Token{Kind: kind, At: at, Behind: behind, Number: valueOf(text, digits, behind)}
}

func valueOf(text string, from, to int) int {
	value := 0
	for i := from; i < to; i++ {
		value = value*10 + int(byteAt(text, i)) - '0'
	}
	return value
}

func kindOf(word string) Kind {
	switch word {
	case "let":
		return Let
	case "pair":
		return Pair
	case "fst":
		return Fst
	case "snd":
		return Snd
	case "if":
		return If
	case "add":
		return Add
	case "sub":
		return Sub
	case "less":
		return Less
	case "loop":
		return Loop
	case "new":
		return New
	}
	return Name
}

// byteAt answers 0 outside of the text, for 0 ends every row of letters or digits.
func byteAt(text string, at int) byte {
	if at < 0 || at >= len(text) {
		return 0
	}
	return text[at]
}

func cut(text string, from, to int) string {
	if from < 0 || from > to || to > len(text) {
		return ""
	}
	return text[from:to]
}

func isBlank(c byte) bool { return c == ' ' || c == '\n' }

func isLetter(c byte) bool { return c >= 'a' && c <= 'z' }

func isDigit(c byte) bool { return c >= '0' && c <= '9' }
