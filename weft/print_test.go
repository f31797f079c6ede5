package weft

import (
	"math/rand"
	"regexp"
	"strings"
	"testing"

	"weft/api"
)

// wantPrint holds Print and Compile of a text against what is asked.
func wantPrint(t *testing.T, text, want string, e api.Errno, at int) {
	t.Helper()
	if s, f, to := Print(text); s != want || f != e || to != at {
		t.Errorf("P3: Print(%q) = %q, %d at %d, want %q, %d at %d", text, s, f, to, want, e, at)
	}
	if p, f, to := Compile(text); (p != nil) != (e == api.OK) || f != e || to != at {
		t.Errorf("P4: Compile(%q) = %v, %d at %d, want %d at %d", text, p, f, to, e, at)
	}
}

func times(n int, s string) string { return strings.Repeat(s, n) }

func TestPrinted(t *testing.T) {
	for _, c := range [][2]string{
		{"( pt = 1 ; dst:=3+drop ) * ;!(tag=0;id)", "(pt=1;dst:=3 + drop)*;!(tag=0;id)"},
		{"\n id \n", "id"},
		{"pt\n=\n0", "pt=0"},
		{"typ := 10", "typ:=10"},
		{"sw=31", "sw=31"},
		{"sw =0;src:=0", "sw=0;src:=0"},
		{"id+(drop+(id+drop))", "id + drop + id + drop"},
		{"id;((drop;id);drop)", "id;drop;id;drop"},
		{"(id;drop)+(id;id)", "id;drop + id;id"},
		{"(id+drop);(id+id)", "(id + drop);(id + id)"},
		{"((id+drop));id", "(id + drop);id"},
		{"(((id+drop);id))+id", "(id + drop);id + id"},
		{"(id) * *", "id**"},
		{"((id*)*;id)*", "(id**;id)*"},
		{"(id+id)*", "(id + id)*"},
		{"!(!(pt=1))", "!!pt=1"},
		{"!((pt=1;id))", "!(pt=1;id)"},
		{"!((pt=1)+(id))", "!(pt=1 + id)"},
		{"(!id)**", "!id**"},
		{"(!id;id)*", "(!id;id)*"},
	} {
		wantPrint(t, c[0], c[1], api.OK, 0)
	}
}

func TestEdges(t *testing.T) {
	many := times(api.MaxAtoms-1, "pt=1;")
	for _, c := range []struct{ text, want string }{
		{times(api.MaxText-2, " ") + "id", "id"},
		{"id" + times(api.MaxText-2, "*"), "id" + times(api.MaxText-2, "*")},
		{"pt=31", "pt=31"},
		{"pt:=31", "pt:=31"},
		{many + "sw=1", many + "sw=1"},
		{many + "tag:=1", many + "tag:=1"},
		{many + "id;drop;tag:=1", many + "id;drop;tag:=1"},
		{times(api.MaxDeep, "(") + "id" + times(api.MaxDeep, ")"), "id"},
		{times(api.MaxDeep, "!") + "id", times(api.MaxDeep, "!") + "id"},
		{times(api.MaxDeep/2, "!(") + "id" + times(api.MaxDeep/2, ")"), times(api.MaxDeep/2, "!") + "id"},
		{times(30, "(id);") + times(30, "!id;") + "id", times(30, "id;") + times(30, "!id;") + "id"},
		{times(100, "id+") + "id", times(100, "id + ") + "id"},
	} {
		wantPrint(t, c.text, c.want, api.OK, 0)
	}
}

func TestErrorsOfTexts(t *testing.T) {
	full := times(api.MaxAtoms, "pt=1;")
	deep := times(api.MaxDeep, "(")
	for _, c := range []struct {
		text string
		e    api.Errno
		at   int
	}{
		// Too long, whatever stands there.
		{times(api.MaxText-1, " ") + "id", api.ErrLong, 0},
		{times(api.MaxText+1, "#"), api.ErrLong, 0},
		{times(api.MaxText, "#"), api.ErrSyntax, 0},
		// Something is missing.
		{"", api.ErrSyntax, 0}, {" \n", api.ErrSyntax, 2}, {"pt ", api.ErrSyntax, 3}, {"pt:= ", api.ErrSyntax, 5}, {"(id + ", api.ErrSyntax, 6}, {"((id)", api.ErrSyntax, 5}, {"!! ", api.ErrSyntax, 3}, {"id;", api.ErrSyntax, 3},
		// What can't stand there.
		{"id drop", api.ErrSyntax, 3}, {"id(id)", api.ErrSyntax, 2}, {"id!id", api.ErrSyntax, 2}, {"(id)pt=1", api.ErrSyntax, 4}, {"id++id", api.ErrSyntax, 3}, {"id;*", api.ErrSyntax, 3}, {"!*", api.ErrSyntax, 1}, {"!+", api.ErrSyntax, 1}, {"( )", api.ErrSyntax, 2}, {"id = 1", api.ErrSyntax, 3}, {"drop:=1", api.ErrSyntax, 4}, {"pt*", api.ErrSyntax, 2}, {"pt=id", api.ErrSyntax, 3}, {"pt=(1)", api.ErrSyntax, 3}, {"pt:==1", api.ErrSyntax, 4}, {"pt= =1", api.ErrSyntax, 4}, {"1=1", api.ErrSyntax, 0}, {"id)", api.ErrSyntax, 2}, {"(id))", api.ErrSyntax, 4}, {"pt=1 2", api.ErrSyntax, 5}, {"pt=1id", api.ErrSyntax, 4},
		// Words that are none, and bytes that begin no token.
		{"port=1", api.ErrSyntax, 0}, {"id;iddrop", api.ErrSyntax, 3}, {"ptt=1", api.ErrSyntax, 0}, {"Id", api.ErrSyntax, 0}, {"iD", api.ErrSyntax, 0}, {"id\r", api.ErrSyntax, 2}, {"id\x00", api.ErrSyntax, 2}, {"pt: =1", api.ErrSyntax, 2}, {"pt=-1", api.ErrSyntax, 3}, {"id;\u00fcd", api.ErrSyntax, 3}, {"id\u00a0", api.ErrSyntax, 2},
		// Numbers with a first 0.
		{"pt=00", api.ErrSyntax, 4}, {"pt=01", api.ErrSyntax, 4}, {"pt=032", api.ErrSyntax, 4}, {"pt:=0 0", api.ErrSyntax, 6},
		// Numbers that are too great, and only where one may stand.
		{"pt=32", api.ErrNumber, 3}, {"pt := 99", api.ErrNumber, 6}, {"pt=100", api.ErrNumber, 3}, {"sw=32", api.ErrNumber, 3}, {"pt=18446744073709551616", api.ErrNumber, 3}, {"pt=4294967297", api.ErrNumber, 3}, {"pt=" + times(api.MaxText-3, "9"), api.ErrNumber, 3}, {"id 99", api.ErrSyntax, 3}, {"99", api.ErrSyntax, 0}, {"pt 99", api.ErrSyntax, 3}, {"pt=32#", api.ErrNumber, 3}, {"pt=32 pt", api.ErrNumber, 3},
		// The switch is not to be set.
		{"sw:=1", api.ErrField, 0}, {"id + sw \n:=", api.ErrField, 5}, {"sw:=32", api.ErrField, 0}, {"sw:=#", api.ErrField, 0}, {"sw:", api.ErrSyntax, 2}, {"sw: =1", api.ErrSyntax, 2}, {"id sw:=1", api.ErrSyntax, 3}, {"sw=sw:=1", api.ErrSyntax, 3},
		// Too many fields.
		{full + "pt=1", api.ErrMany, 80}, {full + "(tag:=1", api.ErrMany, 81}, {full + "pt", api.ErrMany, 80}, {full + "pt#", api.ErrMany, 80}, {full + "pt=32", api.ErrMany, 80}, {full + "sw=1", api.ErrMany, 80}, {full + "sw :=1", api.ErrField, 80}, {full + "sw:1", api.ErrMany, 80}, {full + "id pt=1", api.ErrSyntax, 83}, {full + "port", api.ErrSyntax, 80}, {full + "id;pt=1", api.ErrMany, 83}, {full[:79] + " pt=1", api.ErrSyntax, 80},
		// Too deep.
		{deep + "(", api.ErrMany, 12}, {deep + "!", api.ErrMany, 12}, {deep + "id;(id)", api.ErrMany, 15}, {deep + "id(", api.ErrSyntax, 14}, {deep + "#", api.ErrSyntax, 12}, {deep + "id;!", api.ErrMany, 15}, {times(api.MaxDeep, "!") + "(id)", api.ErrMany, 12}, {times(6, "!(") + "(id)", api.ErrMany, 12}, {times(11, "(") + "!id;!!id", api.ErrMany, 16}, {deep + "id);((", api.ErrMany, 17},
		// What is negated is no test, if there is no other error.
		{"!pt:=1", api.ErrTest, 0}, {"id;!(pt:=1)", api.ErrTest, 3}, {"!(pt=1*)", api.ErrTest, 0}, {"!(id*)", api.ErrTest, 0}, {"!(pt=1;(id + tag:=2))", api.ErrTest, 0}, {"!!pt:=1", api.ErrTest, 1}, {"!(!pt:=1;id*)", api.ErrTest, 0}, {"!(!pt:=1;id);!pt:=1", api.ErrTest, 2}, {"!id;!id*;!pt:=1", api.ErrTest, 9}, {"!pt:=1 id", api.ErrSyntax, 7}, {"!pt:=1;pt:=32", api.ErrNumber, 11}, {"!pt:=1;sw:=1", api.ErrField, 7}, {"!pt:=1;" + full + "pt=1", api.ErrMany, 82},
	} {
		wantPrint(t, c.text, "", c.e, c.at)
	}
}

var oneToken = regexp.MustCompile(`^(?::=|[+;*!()=]|[a-z]+|0|[1-9][0-9]*)`)

var fieldWord = regexp.MustCompile(`^(?:sw|pt|typ|src|dst|tag)$`)

var setsSwitch = regexp.MustCompile(`^sw[ \n]*:=`)

// expected tells the error that a text of at most MaxText bytes has, but for ErrTest: by what may come next and by what is open, without the grammar.
func expected(text string) (api.Errno, int) {
	const wantAtom, hadAtom, wantSign, wantNumber = 0, 1, 2, 3
	state, open, fields := wantAtom, "", 0
	closeNots := func() { open = strings.TrimRight(open, "!") }
	for at := 0; ; {
		rest := strings.TrimLeft(text[at:], " \n")
		at = len(text) - len(rest)
		if rest == "" && state == hadAtom && open == "" {
			return api.OK, 0
		}
		token := oneToken.FindString(rest)
		switch {
		case state == wantAtom && (token == "id" || token == "drop"):
			closeNots()
			state = hadAtom
		case state == wantAtom && fieldWord.MatchString(token):
			if setsSwitch.MatchString(rest) {
				return api.ErrField, at
			}
			if fields++; fields > 16 {
				return api.ErrMany, at
			}
			state = wantSign
		case state == wantAtom && (token == "(" || token == "!"):
			if len(open) == 12 {
				return api.ErrMany, at
			}
			open += token
		case state == hadAtom && (token == "+" || token == ";"):
			state = wantAtom
		case state == hadAtom && token == "*":
		case state == hadAtom && token == ")" && strings.HasSuffix(open, "("):
			open = open[:len(open)-1]
			closeNots()
		case state == wantSign && (token == "=" || token == ":="):
			state = wantNumber
		case state == wantNumber && token != "" && token[0] >= '0' && token[0] <= '9':
			if len(token) > 2 || len(token) == 2 && token > "31" {
				return api.ErrNumber, at
			}
			closeNots()
			state = hadAtom
		default:
			return api.ErrSyntax, at
		}
		at += len(token)
	}
}

// randomText tells a text whose tokens, but for a few, are such as may come next.
func randomText(r *rand.Rand) string {
	pick := func(l ...string) string { return l[r.Intn(len(l))] }
	var b strings.Builder
	open := 0
	for range 1 + r.Intn(30) {
		for range r.Intn(4) * r.Intn(2) {
			b.WriteString(pick("!", "(", "!("))
			open = strings.Count(b.String(), "(") - strings.Count(b.String(), ")")
		}
		b.WriteString(pick("id", "drop", "pt = 1", "sw=2", "sw = 0", "tag:=31", "src=3", "typ=0", "dst :=9"))
		for open > 0 && r.Intn(2) == 0 {
			b.WriteString(pick(")", " )", ")*"))
			open--
		}
		b.WriteString(pick("", "", "", "*", "\n*", "**"))
		b.WriteString(pick("+", ";", " + ", " ;\n"))
	}
	b.WriteString("id" + times(open, ")"))
	text := b.String()
	for range r.Intn(3) * r.Intn(2) {
		at := r.Intn(len(text) + 1)
		wrong := pick("+", ";", "*", "!", "(", ")", "=", ":=", ":", "#", "\t", " ", "x", "0", "7", "99", "+port", "+pt", "+sw:=1;", "+sw :=", ";pt=32", ";tag:=40+")
		text = text[:at] + wrong + text[min(len(text), at+r.Intn(3)):]
	}
	return text
}

func TestErrorsOfRandomTexts(t *testing.T) {
	r := rand.New(rand.NewSource(1))
	count := map[api.Errno]int{}
	for range 40000 {
		text := randomText(r)
		if len(text) > api.MaxText {
			continue
		}
		want, place := expected(text)
		s, e, at := Print(text)
		count[e]++
		if want == api.OK && e == api.ErrTest {
			if s != "" || text[at] != '!' {
				t.Fatalf("P3: Print(%q) = %q, %d at %d", text, s, e, at)
			}
			continue
		}
		if e != want || at != place || (s == "") != (e != api.OK) {
			t.Fatalf("P3: Print(%q) = %q, %d at %d, want %d at %d", text, s, e, at, want, place)
		}
	}
	for _, e := range []api.Errno{api.OK, api.ErrSyntax, api.ErrNumber, api.ErrField, api.ErrMany, api.ErrTest} {
		if count[e] < 100 {
			t.Errorf("the error %d came %d times only: the texts try too little", e, count[e])
		}
	}
}

func TestNoPanicAtAnyBytes(t *testing.T) {
	r := rand.New(rand.NewSource(2))
	for range 20000 {
		b := []byte(randomText(r))
		for range r.Intn(4) {
			if len(b) > 0 {
				b[r.Intn(len(b))] = byte(r.Intn(256))
			}
		}
		text := string(b)
		s, e, at := Print(text)
		p, f, to := Compile(text)
		if e != f || at != to || (s != "") != (e == api.OK) || (p != nil) != (e == api.OK) || at < 0 || at > len(text) || e == api.OK && at != 0 {
			t.Fatalf("P1: Print(%q) = %q, %d at %d; Compile: %v, %d at %d", text, s, e, at, p, f, to)
		}
	}
}
