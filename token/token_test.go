package token

import (
	"strings"
	"testing"
)

// all reads a text up to its end.
func all(text string) []Token {
	row := []Token{}
	from := 0
	for {
		t := Next(text, from)
		row = append(row, t)
		if t.Kind == End || t.Behind <= from {
			return row
		}
		from = t.Behind
	}
}

func TestTokensAreAsLongAsTheyCanBe(t *testing.T) {
	for _, c := range []struct {
		text string
		want []Token
	}{
		{"", []Token{{Kind: End}}},
		{" \n ", []Token{{Kind: End, At: 3, Behind: 3}}},
		{"(add1x)", []Token{{Kind: Open, At: 0, Behind: 1}, {Kind: Add, At: 1, Behind: 4, Word: "add"}, {Kind: Number, At: 4, Behind: 5, Number: 1}, {Kind: Name, At: 5, Behind: 6, Word: "x"}, {Kind: Close, At: 6, Behind: 7}, {Kind: End, At: 7, Behind: 7}}},
		{"letx", []Token{{Kind: Name, At: 0, Behind: 4, Word: "letx"}, {Kind: End, At: 4, Behind: 4}}},
		{"#12 3", []Token{{Kind: Region, At: 0, Behind: 3, Number: 12}, {Kind: Number, At: 4, Behind: 5, Number: 3}, {Kind: End, At: 5, Behind: 5}}},
		{"!!#", []Token{{Kind: Bad, At: 0, Behind: 1}, {Kind: Bad, At: 1, Behind: 2}, {Kind: Bad, At: 2, Behind: 3}, {Kind: End, At: 3, Behind: 3}}},
		{"#7#8", []Token{{Kind: Region, At: 0, Behind: 2, Number: 7}, {Kind: Region, At: 2, Behind: 4, Number: 8}, {Kind: End, At: 4, Behind: 4}}},
	} {
		got := all(c.text)
		if len(got) != len(c.want) {
			t.Errorf("%q is read as %v, want %v", c.text, got, c.want)
			continue
		}
		for i := range got {
			if got[i] != c.want[i] {
				t.Errorf("%q: token %d is %v, want %v", c.text, i, got[i], c.want[i])
			}
		}
	}
}

func TestFirstToken(t *testing.T) {
	for _, c := range []struct {
		text string
		kind Kind
		at   int
		n    int
	}{
		{"0", Number, 0, 0}, {"9999", Number, 0, 9999}, {" 10", Number, 1, 10}, {"0a", Number, 0, 0},
		{"10000", Bad, 0, 0}, {"00", Bad, 0, 0}, {" 01", Bad, 1, 0}, {"0000", Bad, 0, 0},
		{"#0", Region, 0, 0}, {"#999", Region, 0, 999},
		{"#", Bad, 0, 0}, {"# 1", Bad, 0, 0}, {"#x", Bad, 0, 0}, {"#1000", Bad, 0, 0}, {"#00", Bad, 0, 0}, {"#01", Bad, 0, 0}, {"##1", Bad, 0, 0},
		{"abcdefgh", Name, 0, 0}, {"\nabcdefghi", Bad, 1, 0}, {"lets", Name, 0, 0},
		{"let", Let, 0, 0}, {"pair", Pair, 0, 0}, {"fst", Fst, 0, 0}, {"snd", Snd, 0, 0}, {"if", If, 0, 0}, {"add", Add, 0, 0}, {"sub", Sub, 0, 0}, {"less", Less, 0, 0}, {"loop", Loop, 0, 0}, {"new", New, 0, 0},
	} {
		got := Next(c.text, 0)
		if got.Kind != c.kind || got.At != c.at || got.Number != c.n {
			t.Errorf("Next(%q) is %v, want kind %d at %d with number %d", c.text, got, c.kind, c.at, c.n)
		}
	}
}

func TestEveryByteAlone(t *testing.T) {
	for i := 0; i < 256; i++ {
		text := string([]byte{byte(i)})
		got := Next(text, 0).Kind
		want := Bad
		switch {
		case i == ' ' || i == '\n':
			want = End
		case i == '(':
			want = Open
		case i == ')':
			want = Close
		case strings.Contains("abcdefghijklmnopqrstuvwxyz", text):
			want = Name
		case strings.Contains("0123456789", text):
			want = Number
		}
		if got != want {
			t.Errorf("the byte %d is of kind %d, want %d", i, got, want)
		}
	}
}

func TestPlacesOutsideOfTheText(t *testing.T) {
	if got := Next("x", -5); got.Kind != Name || got.At != 0 {
		t.Errorf("from below 0: %v", got)
	}
	if got := Next("x", 5); got.Kind != End || got.At != 1 {
		t.Errorf("from behind the end: %v", got)
	}
}
