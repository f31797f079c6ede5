package tree

import (
	"slices"
	"testing"

	"weft/api"
)

func test(f, n int) Node { return Test{Pair{f, n}} }

func set(f, n int) Node { return Setting{Pair{f, n}} }

func TestField(t *testing.T) {
	for _, c := range []struct {
		name  string
		field int
	}{{"sw", api.Sw}, {"pt", api.Pt}, {"typ", api.Typ}, {"src", api.Src}, {"dst", api.Dst}, {"tag", api.Tag}} {
		if f, ok := Field(c.name); f != c.field || !ok {
			t.Errorf("Field(%q) = %d, %v, want %d", c.name, f, ok, c.field)
		}
	}
	for _, name := range []string{"", "s", "id", "drop", "port", "SW"} {
		if f, ok := Field(name); f != 0 || ok {
			t.Errorf("Field(%q) = %d, %v, want none", name, f, ok)
		}
	}
}

func TestText(t *testing.T) {
	a, b := test(api.Pt, 1), set(api.Tag, 31)
	for _, c := range []struct {
		node Node
		want string
	}{
		{ID(), "id"},
		{Drop(), "drop"},
		{a, "pt=1"},
		{b, "tag:=31"},
		{Sum(a), "pt=1"},
		{Seq(Sum(a)), "pt=1"},
		{Sum(a, b, a), "pt=1 + tag:=31 + pt=1"},
		{Seq(a, b, a), "pt=1;tag:=31;pt=1"},
		{Sum(Sum(a, b), Sum(a, a)), "pt=1 + tag:=31 + pt=1 + pt=1"},
		{Seq(Seq(a, b), Seq(a, a)), "pt=1;tag:=31;pt=1;pt=1"},
		{Sum(Seq(a, b), a), "pt=1;tag:=31 + pt=1"},
		{Seq(Sum(a, b), a), "(pt=1 + tag:=31);pt=1"},
		{Star(a), "pt=1*"},
		{Star(Star(a)), "pt=1**"},
		{Star(Seq(a, b)), "(pt=1;tag:=31)*"},
		{Star(Sum(a, b)), "(pt=1 + tag:=31)*"},
		{Star(Not(a)), "!pt=1*"},
		{Not(Not(a)), "!!pt=1"},
		{Not(Seq(a, a)), "!(pt=1;pt=1)"},
		{Not(Sum(a, a)), "!(pt=1 + pt=1)"},
		{Seq(Not(Sum(a, a)), Star(b)), "!(pt=1 + pt=1);tag:=31*"},
	} {
		if s := c.node.Text(); s != c.want {
			t.Errorf("Text = %q, want %q", s, c.want)
		}
	}
}

func TestIsTest(t *testing.T) {
	a, b := test(api.Pt, 1), set(api.Tag, 31)
	for _, c := range []struct {
		node Node
		want bool
	}{
		{ID(), true}, {Drop(), true}, {a, true}, {b, false}, {Not(a), true}, {Not(b), true}, {Star(a), false},
		{Sum(a, ID()), true}, {Seq(a, Drop()), true}, {Sum(a, b), false}, {Seq(b, a), false},
		{Seq(a, Sum(a, Not(b))), true}, {Seq(a, Sum(a, Star(a))), false}, {Sum(a, Seq(a, b)), false},
	} {
		if IsTest(c.node) != c.want {
			t.Errorf("IsTest of %s: want %v", c.node.Text(), c.want)
		}
	}
}

func TestPasses(t *testing.T) {
	yes, no := test(api.Pt, 1), test(api.Pt, 2)
	for _, c := range []struct {
		node Node
		want bool
	}{
		{ID(), true}, {Drop(), false}, {yes, true}, {no, false}, {Not(yes), false}, {Not(no), true},
		{Sum(no, yes), true}, {Sum(no, no), false}, {Seq(yes, yes), true}, {Seq(yes, no), false},
		{Not(Seq(yes, Sum(no, Not(no)))), false},
	} {
		if Passes(c.node, api.Packet{0, 1}) != c.want {
			t.Errorf("Passes of %s: want %v", c.node.Text(), c.want)
		}
	}
}

func TestPromoted(t *testing.T) {
	k := api.Packet{1, 2, 3, 4, 5, 6}
	if s := (Setting{Pair{api.Dst, 9}}); s.Put(k) != (api.Packet{1, 2, 3, 4, 9, 6}) || k[api.Dst] != 5 {
		t.Errorf("Put: %v, of %v", s.Put(k), k)
	}
	if !(Test{Pair{api.Dst, 5}}).Holds(k) || (Test{Pair{api.Dst, 4}}).Holds(k) {
		t.Errorf("Holds")
	}
}

func TestAtoms(t *testing.T) {
	a, b, c := test(api.Pt, 1), set(api.Tag, 31), test(api.Sw, 0)
	for _, x := range []struct {
		node Node
		want []Node
	}{
		{ID(), nil}, {Drop(), nil}, {a, []Node{a}}, {b, []Node{b}},
		{Star(Star(b)), []Node{b}}, {Not(Not(Drop())), nil},
		{Sum(Seq(b, a, ID()), Star(Sum(a, Drop())), Not(Seq(c, a))), []Node{b, a, a, c, a}},
	} {
		if l := Atoms(x.node); !slices.Equal(l, x.want) {
			t.Errorf("Atoms of %s: %v, want %v", x.node.Text(), l, x.want)
		}
	}
}
