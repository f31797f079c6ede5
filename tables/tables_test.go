package tables

import (
	"slices"
	"strconv"
	"strings"
	"testing"

	"weft/api"
	"weft/flow"
	"weft/read"
)

// only tells a match or an action that names the fields from Pt on.
func only(values ...int) api.Packet {
	k := everything
	copy(k[api.Pt:], values)
	return k
}

func tableOf(t *testing.T, text string, sw int) []api.Rule {
	t.Helper()
	n, e, at := read.Policy(text)
	if e != api.OK {
		t.Fatalf("%q: %d at %d", text, e, at)
	}
	return NewMaker(n, flow.New(n)).Table(sw)
}

func rule(priority int, match api.Packet, actions ...api.Packet) api.Rule {
	return api.Rule{Priority: priority, Match: match, Actions: actions}
}

func TestTable(t *testing.T) {
	const any = api.Any
	for _, c := range []struct {
		text string
		sw   int
		want []api.Rule
	}{
		{"id", 0, []api.Rule{rule(0, only(), only())}},
		{"drop", 0, []api.Rule{rule(0, only())}},
		{"pt=1;pt:=2 + pt=1;tag:=7;pt:=3", 0, []api.Rule{
			rule(1, only(1), only(2), only(3, any, any, any, 7)),
			rule(0, only()),
		}},
		{"sw=1;pt=1", 0, []api.Rule{rule(0, only())}},
		{"sw=1;pt=1", 1, []api.Rule{rule(1, only(1), only()), rule(0, only())}},
		{"!pt=0", 31, []api.Rule{rule(1, only(0)), rule(0, only(), only())}},
		{"tag:=0 + tag:=5 + id", 0, []api.Rule{
			rule(0, only(), only(), only(any, any, any, any, 0), only(any, any, any, any, 5)),
		}},
		// The values of a field stand in order, and one that is tested twice has one rule.
		{"typ=9;tag:=1 + typ=3;tag:=2 + typ=9;tag:=3", 0, []api.Rule{
			rule(2, only(any, 3), only(any, any, any, any, 2)),
			rule(1, only(any, 9), only(any, any, any, any, 1), only(any, any, any, any, 3)),
			rule(0, only()),
		}},
		// A field that is tested only where another one has some value is asked for only there.
		{"src=1;dst=2", 0, []api.Rule{
			rule(2, only(any, any, 1, 2), only()),
			rule(1, only(any, any, 1)),
			rule(0, only()),
		}},
		// Rules that do the same, but of other packets, are not the same.
		{"pt=1;typ=1 + !pt=1;typ=2", 0, []api.Rule{
			rule(3, only(1, 1), only()),
			rule(2, only(1)),
			rule(1, only(any, 2), only()),
			rule(0, only()),
		}},
		// A test behind a setting asks nothing of the packet that came.
		{"tag:=1;tag=2;id", 0, []api.Rule{rule(0, only())}},
		// What was set to the value that it had was left as it was.
		{"pt=1;(pt:=1 + id)", 0, []api.Rule{rule(1, only(1), only()), rule(0, only())}},
	} {
		l := tableOf(t, c.text, c.sw)
		if len(l) != len(c.want) {
			t.Errorf("%q: %v, want %v", c.text, l, c.want)
			continue
		}
		for i, r := range l {
			w := c.want[i]
			if r.Priority != w.Priority || r.Match != w.Match || !slices.Equal(r.Actions, w.Actions) {
				t.Errorf("%q: the rule %d is %v, want %v", c.text, i, r, w)
			}
		}
	}
}

func TestManyValues(t *testing.T) {
	var parts []string
	for i := range api.MaxAtoms {
		parts = append(parts, "tag="+strconv.Itoa(i))
	}
	l := tableOf(t, strings.Join(parts, "+"), 0)
	if len(l) != api.MaxAtoms+1 {
		t.Fatalf("%d rules", len(l))
	}
	for i, r := range l[:api.MaxAtoms] {
		if r.Match != only(-1, -1, -1, -1, i) || !slices.Equal(r.Actions, []api.Packet{only()}) {
			t.Errorf("the rule %d is %v", i, r)
		}
	}
	if r := l[api.MaxAtoms]; r.Match != only() || len(r.Actions) != 0 {
		t.Errorf("the last rule is %v", r)
	}
}

func TestLookup(t *testing.T) {
	rules := []api.Rule{
		rule(0, only(1), only(5), only(), only(1), only(5)),
		rule(9, api.Packet{7, -1, 2, -1, -1, -1}, api.Packet{8, -1, -1, -1, -1, 6}),
		rule(9, only(1), only(7)),
		rule(9, only(-5), only(-9, 1<<63-1)),
		rule(9, only(4)),
	}
	for _, c := range []struct {
		k    api.Packet
		want []api.Packet
		hit  bool
	}{
		{api.Packet{0, 1, 2}, []api.Packet{{0, 1, 2}, {0, 5, 2}}, true},
		{api.Packet{0, 3, 2}, []api.Packet{{0, 3, 2, 0, 0, 6}}, true},
		{api.Packet{3, -5, 0}, []api.Packet{{3, -9, 1<<63 - 1}}, true},
		{api.Packet{-1, 4}, nil, true},
		{api.Packet{0, 0}, nil, false},
		{api.Packet{0, -1}, nil, false},
	} {
		if l, hit := Lookup(rules, c.k); !slices.Equal(l, c.want) || hit != c.hit {
			t.Errorf("Lookup(%v) = %v, %v, want %v, %v", c.k, l, hit, c.want, c.hit)
		}
	}
}
