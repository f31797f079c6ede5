package flow

import (
	"slices"
	"strings"
	"testing"

	"weft/api"
	"weft/read"
)

func run(t *testing.T, text string, k api.Packet) []api.Packet {
	t.Helper()
	n, e, at := read.Policy(text)
	if e != api.OK {
		t.Fatalf("%q: %d at %d", text, e, at)
	}
	return New(n).Run(k)
}

func TestRun(t *testing.T) {
	at := func(pt, tag int) api.Packet { return api.Packet{0, pt, 0, 0, 0, tag} }
	for _, c := range []struct {
		text string
		want []api.Packet
	}{
		{"id", []api.Packet{at(1, 0)}},
		{"drop", nil},
		{"drop*", []api.Packet{at(1, 0)}},
		{"pt=1", []api.Packet{at(1, 0)}},
		{"pt=2", nil},
		{"!pt=2", []api.Packet{at(1, 0)}},
		{"pt:=3", []api.Packet{at(3, 0)}},
		{"pt:=3;pt=1", nil},
		{"pt=1;pt:=3", []api.Packet{at(3, 0)}},
		{"tag:=2 + pt:=0 + tag:=2", []api.Packet{at(0, 0), at(1, 2)}},
		{"(pt:=2)*", []api.Packet{at(1, 0), at(2, 0)}},
		{"(pt=1;pt:=2 + pt=2;tag:=1 + tag=1;pt:=1)*", []api.Packet{at(1, 0), at(1, 1), at(2, 0), at(2, 1)}},
		{"((pt=1;pt:=2)*;pt=2;tag:=1)*;tag=1", []api.Packet{at(2, 1)}},
		{"(drop + id)*;drop", nil},
	} {
		if l := run(t, c.text, at(1, 0)); !slices.Equal(l, c.want) {
			t.Errorf("%q: %v, want %v", c.text, l, c.want)
		}
	}
}

// TestStarsWithinStars has policies for which going through the inner star anew for each round of the outer one would not end in a lifetime.
func TestStarsWithinStars(t *testing.T) {
	part := "pt:=1+pt:=2+pt:=3+typ:=1+typ:=2+typ:=3+src:=1+src:=2+src:=3+dst:=1+dst:=2+dst:=3+tag:=1+tag:=2+tag:=3+tag:=4"
	for _, text := range []string{
		"(" + part + ")" + strings.Repeat("*", api.MaxText-len(part)-2),
		strings.Repeat("(", api.MaxDeep) + part + strings.Repeat(")*", api.MaxDeep),
		strings.Repeat("(", api.MaxDeep) + part + strings.Repeat(")*;id*", api.MaxDeep),
	} {
		if l := run(t, text, api.Packet{}); len(l) != 4*4*4*4*5 {
			t.Errorf("%q: %d packets, want %d", text, len(l), 4*4*4*4*5)
		}
	}
}
