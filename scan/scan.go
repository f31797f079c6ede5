// Package scan goes through a policy's text by tokens.
package scan

// Kind tells what a token is.
type Kind int

const (
	End     Kind = iota // behind the last token
	Wrong               // a byte that begins no token
	Word                // letters
	Number              // digits
	Plus                // +
	Then                // ;
	Star                // *
	Not                 // !
	Open                // (
	Close               // )
	Equals              // =
	Becomes             // :=
)

// Token is one of a text: its kind, the place of its first byte, and its bytes.
type Token struct {
	Kind Kind
	At   int
	Text string
}

// Tokens tells the tokens of a text. The last one is End or Wrong: a text goes on behind a wrong byte in vain, so what stands there is not looked at.
func Tokens(text string) []Token {
	var list []Token
	first, at, kind := 0, 0, End

between:
	first = at
	if at == len(text) {
		kind = End
		goto last
	}
	at++
	switch c := text[first]; {
	case c == ' ' || c == '\n':
		goto between
	case isLetter(c):
		goto word
	case c == '0':
		kind = Number
		goto token
	case isDigit(c):
		goto number
	case c == ':':
		goto colon
	default:
		kind = sign(c)
	}
	if kind == Wrong {
		goto last
	}
	goto token

word:
	if at < len(text) && isLetter(text[at]) {
		at++
		goto word
	}
	kind = Word
	goto token

number:
	if at < len(text) && isDigit(text[at]) {
		at++
		goto number
	}
	kind = Number
	goto token

colon:
	if at == len(text) || text[at] != '=' {
		kind = Wrong
		goto last
	}
	at++
	kind = Becomes

token:
	list = append(list, Token{kind, first, text[first:at]})
	goto between

last:
	return append(list, Token{kind, first, ""})
}

func isLetter(c byte) bool { return 'a' <= c && c <= 'z' }

func isDigit(c byte) bool { return '0' <= c && c <= '9' }

// sign tells the kind of a token of one byte.
func sign(c byte) Kind {
	switch c {
	case '+':
		return Plus
	case ';':
		return Then
	case '*':
		return Star
	case '!':
		return Not
	case '(':
		return Open
	case ')':
		return Close
	case '=':
		return Equals
	}
	return Wrong
}
