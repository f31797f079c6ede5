package scan

import (
	"slices"
	"testing"
)

func TestTokens(t *testing.T) {
	for _, c := range []struct {
		text string
		want []Token
	}{
		{"", []Token{{End, 0, ""}}},
		{" \n ", []Token{{End, 3, ""}}},
		{"+;*!()=:=", []Token{{Plus, 0, "+"}, {Then, 1, ";"}, {Star, 2, "*"}, {Not, 3, "!"}, {Open, 4, "("}, {Close, 5, ")"}, {Equals, 6, "="}, {Becomes, 7, ":="}, {End, 9, ""}}},
		{"az drop\n7", []Token{{Word, 0, "az"}, {Word, 3, "drop"}, {Number, 8, "7"}, {End, 9, ""}}},
		{"pt12x", []Token{{Word, 0, "pt"}, {Number, 2, "12"}, {Word, 4, "x"}, {End, 5, ""}}},
		{"007", []Token{{Number, 0, "0"}, {Number, 1, "0"}, {Number, 2, "7"}, {End, 3, ""}}},
		{"100", []Token{{Number, 0, "100"}, {End, 3, ""}}},
		{"==:=", []Token{{Equals, 0, "="}, {Equals, 1, "="}, {Becomes, 2, ":="}, {End, 4, ""}}},
		{"id : =", []Token{{Word, 0, "id"}, {Wrong, 3, ""}}},
		{"id:", []Token{{Word, 0, "id"}, {Wrong, 2, ""}}},
		{"id\tid", []Token{{Word, 0, "id"}, {Wrong, 2, ""}}},
		{"iD", []Token{{Word, 0, "i"}, {Wrong, 1, ""}}},
		{"\x00", []Token{{Wrong, 0, ""}}},
		{" \xff id", []Token{{Wrong, 1, ""}}},
	} {
		if l := Tokens(c.text); !slices.Equal(l, c.want) {
			t.Errorf("Tokens(%q) = %v, want %v", c.text, l, c.want)
		}
	}
}

func TestBytesThatBeginNoToken(t *testing.T) {
	begins := "\n +;*!()=0123456789abcdefghijklmnopqrstuvwxyz"
	for b := range 256 {
		l := Tokens(string([]byte{byte(b)}))
		wrong := l[0].Kind == Wrong
		if want := !slices.Contains([]byte(begins), byte(b)); wrong != want {
			t.Errorf("the byte %d is wrong: %v, want %v", b, wrong, want)
		}
	}
}
