package weft

import (
	"math/rand"
	"slices"
	"strconv"
	"strings"

	"weft/api"
)

// model is a policy made at random, of which is known how it is printed, what it does, and which of its negations are wrong: by the document's words, whatever the program does.
type model struct {
	op           string // + ; * ! = := id drop
	field, value int
	parts        []model
}

var fieldNames = []string{"sw", "pt", "typ", "src", "dst", "tag"}

// maker makes models with few values, so that tests and settings meet.
type maker struct {
	*rand.Rand
	atoms int
	wild  bool // negate also what is no test
}

func (m *maker) policy(deep int) model {
	if deep == 0 {
		return m.atom()
	}
	switch m.Intn(6) {
	case 0, 1:
		return model{op: "+", parts: m.several(deep, m.policy)}
	case 2, 3:
		return model{op: ";", parts: m.several(deep, m.policy)}
	case 4:
		return model{op: "*", parts: []model{m.policy(deep - 1)}}
	}
	if m.wild {
		return model{op: "!", parts: []model{m.policy(deep - 1)}}
	}
	return model{op: "!", parts: []model{m.test(deep - 1)}}
}

func (m *maker) test(deep int) model {
	op := []string{"+", ";", "!"}[m.Intn(3)]
	switch {
	case deep == 0:
		return m.pair("=")
	case op == "!":
		return model{op: op, parts: []model{m.test(deep - 1)}}
	}
	return model{op: op, parts: m.several(deep, m.test)}
}

func (m *maker) several(deep int, one func(int) model) []model {
	var l []model
	for range 2 + m.Intn(2) {
		l = append(l, one(m.Intn(deep)))
	}
	return l
}

func (m *maker) atom() model {
	return m.pair([]string{"=", ":=", ":=", "id", "drop"}[m.Intn(5)])
}

func (m *maker) pair(op string) model {
	if m.atoms == api.MaxAtoms && (op == "=" || op == ":=") {
		op = "id"
	}
	if op == "id" || op == "drop" {
		return model{op: op}
	}
	m.atoms++
	field := 1 + m.Intn(3)
	if m.Intn(4) == 0 {
		field = 4 + m.Intn(2)
	}
	if op == "=" && m.Intn(8) == 0 {
		field = api.Sw
	}
	return model{op: op, field: field, value: m.Intn(3)}
}

// isTest: whether a negation may stand ahead.
func (m model) isTest() bool {
	if m.op == "+" || m.op == ";" {
		return !slices.ContainsFunc(m.parts, func(p model) bool { return !p.isTest() })
	}
	return m.op != "*" && m.op != ":="
}

// flat: the parts, with those of the same kind gone into it.
func (m model) flat() []model {
	var l []model
	for _, p := range m.parts {
		if p.op == m.op {
			l = append(l, p.flat()...)
		} else {
			l = append(l, p)
		}
	}
	return l
}

func (m model) print() string {
	inBrackets := func(p model, ops string) string {
		if strings.Contains(ops, p.op) {
			return "(" + p.print() + ")"
		}
		return p.print()
	}
	var l []string
	switch m.op {
	case "+":
		for _, p := range m.flat() {
			l = append(l, p.print())
		}
		return strings.Join(l, " + ")
	case ";":
		for _, p := range m.flat() {
			l = append(l, inBrackets(p, "+"))
		}
		return strings.Join(l, ";")
	case "*":
		return inBrackets(m.parts[0], "+;") + "*"
	case "!":
		return "!" + inBrackets(m.parts[0], "+;")
	case "id", "drop":
		return m.op
	}
	return fieldNames[m.field] + m.op + strconv.Itoa(m.value)
}

// eval: what becomes of a set.
func (m model) eval(in []api.Packet) []api.Packet {
	var out []api.Packet
	switch m.op {
	case "id":
		out = in
	case "+":
		for _, p := range m.parts {
			out = union(out, p.eval(in))
		}
	case ";":
		out = in
		for _, p := range m.parts {
			out = p.eval(out)
		}
	case "*":
		out = in
		for more := union(out, m.parts[0].eval(out)); len(more) > len(out); more = union(out, m.parts[0].eval(out)) {
			out = more
		}
	default:
		for _, k := range in {
			switch {
			case m.op == ":=":
				k[m.field] = m.value
				out = union(out, []api.Packet{k})
			case m.op == "=" && k[m.field] == m.value, m.op == "!" && len(m.parts[0].eval([]api.Packet{k})) == 0:
				out = union(out, []api.Packet{k})
			}
		}
	}
	return out
}

// union: a set of the packets of two, in order.
func union(a, b []api.Packet) []api.Packet {
	l := append(slices.Clone(a), b...)
	slices.SortFunc(l, func(x, y api.Packet) int {
		for f := range x {
			if x[f] != y[f] {
				return x[f] - y[f]
			}
		}
		return 0
	})
	return slices.Compact(l)
}

// writer writes a model with brackets and blanks that are not needed, and notes the first negation that is wrong.
type writer struct {
	*rand.Rand
	text     strings.Builder
	deep     int
	deepest  int
	wrongNot int
}

func (w *writer) token(s string) {
	w.text.WriteString(strings.Repeat(" ", w.Intn(2)*w.Intn(2)) + strings.Repeat("\n", w.Intn(2)*w.Intn(2)*w.Intn(2)) + s)
}

func (w *writer) within(first string, inner func(), last string) {
	w.token(first)
	w.deep++
	w.deepest = max(w.deepest, w.deep)
	inner()
	w.deep--
	if last != "" {
		w.token(last)
	}
}

// write: ops are the kinds that need brackets here.
func (w *writer) write(m model, ops string) {
	if strings.Contains(ops, m.op) || w.Intn(5) == 0 {
		w.within("(", func() { w.write(m, "") }, ")")
		return
	}
	switch m.op {
	case "+", ";":
		for i, p := range m.parts {
			if i > 0 {
				w.token(m.op)
			}
			w.write(p, strings.TrimPrefix("+"+m.op, "++"))
		}
	case "*":
		w.write(m.parts[0], "+;")
		w.token("*")
	case "!":
		w.within("!", func() {
			if !m.parts[0].isTest() && w.wrongNot < 0 {
				w.wrongNot = w.text.Len() - 1
			}
			w.write(m.parts[0], "+;*")
		}, "")
	case "id", "drop":
		w.token(m.op)
	default:
		w.token(fieldNames[m.field])
		w.token(m.op)
		w.token(strconv.Itoa(m.value))
	}
}

// randomPolicy tells a model, a text of it that is neither too long nor too deep, and the place of the first negation that is wrong, or -1.
func randomPolicy(r *rand.Rand, wild bool) (model, string, int) {
	for {
		m := (&maker{Rand: r, wild: wild}).policy(r.Intn(6))
		w := writer{Rand: r, wrongNot: -1}
		w.write(m, "")
		if w.text.Len() <= api.MaxText && w.deepest <= api.MaxDeep {
			return m, w.text.String(), w.wrongNot
		}
	}
}
