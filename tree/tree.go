// Package tree has policies as trees: their nodes, and how these are printed.
package tree

import (
	"strconv"
	"strings"

	"weft/api"
)

// Kind tells what a node is. The kinds stand in the order in which they bind, the loosest one first: a node needs brackets within another just if its kind is the lesser one.
type Kind int

const (
	SumKind Kind = iota
	SeqKind
	StarKind
	NotKind
	IDKind
	DropKind
	TestKind
	SettingKind
)

// names has the fields' names, by their numbers.
var names = [api.Fields]string{"sw", "pt", "typ", "src", "dst", "tag"}

// Field tells the number of the field with this name, and whether there is one.
func Field(name string) (int, bool) {
	for i, n := range names {
		if n == name {
			return i, true
		}
	}
	return 0, false
}

// Node is a policy or a part of one.
type Node interface {
	Kind() Kind
	Text() string
}

// Pair is a field and a value of it: what tests and settings have in common.
type Pair struct {
	Field, Value int
}

// Holds tells whether a packet's field has the value.
func (p Pair) Holds(k api.Packet) bool { return k[p.Field] == p.Value }

// Put tells the packet with the value in the field.
func (p Pair) Put(k api.Packet) api.Packet {
	k[p.Field] = p.Value
	return k
}

func (p Pair) textWith(sign string) string {
	return names[p.Field] + sign + strconv.Itoa(p.Value)
}

// Test lets a packet pass whose field has the value.
type Test struct{ Pair }

func (t Test) Kind() Kind { return TestKind }

func (t Test) Text() string { return t.textWith("=") }

// Setting puts the value into a packet's field.
type Setting struct{ Pair }

func (s Setting) Kind() Kind { return SettingKind }

func (s Setting) Text() string { return s.textWith(":=") }

// Leaf is `id` or `drop`.
type Leaf struct{ kind Kind }

// ID tells the policy that leaves a packet as it is.
func ID() Node { return Leaf{IDKind} }

// Drop tells the policy that makes nothing of a packet.
func Drop() Node { return Leaf{DropKind} }

func (l Leaf) Kind() Kind { return l.kind }

func (l Leaf) Text() string {
	if l.kind == DropKind {
		return "drop"
	}
	return "id"
}

// Group is a sum or a seq of its parts, or the star or negation of its only one.
type Group struct {
	kind  Kind
	parts []Node
}

// Sum tells the sum of some parts.
func Sum(parts ...Node) Node { return join(SumKind, parts) }

// Seq tells the seq of some parts.
func Seq(parts ...Node) Node { return join(SeqKind, parts) }

// Star tells `p*`.
func Star(p Node) Node { return Group{StarKind, []Node{p}} }

// Not tells `!p`.
func Not(p Node) Node { return Group{NotKind, []Node{p}} }

// join makes one node of parts. One of its own kind need not be taken apart: it is printed without brackets, and does the same.
func join(kind Kind, parts []Node) Node {
	if len(parts) == 1 {
		return parts[0]
	}
	return Group{kind, parts}
}

func (g Group) Kind() Kind { return g.kind }

// Parts tells the parts, in their order.
func (g Group) Parts() []Node { return g.parts }

// Atoms tells the tests and settings of a policy, in their order.
func Atoms(n Node) []Node {
	var list []Node
	switch x := n.(type) {
	case Test, Setting:
		list = append(list, n)
	case Group:
		for _, p := range x.parts {
			list = append(list, Atoms(p)...)
		}
	}
	return list
}

func (g Group) Text() string {
	texts := make([]string, len(g.parts))
	for i, p := range g.parts {
		texts[i] = g.textOf(p)
	}
	switch g.kind {
	case SeqKind:
		return strings.Join(texts, ";")
	case StarKind:
		return texts[0] + "*"
	case NotKind:
		return "!" + texts[0]
	}
	return strings.Join(texts, " + ")
}

func (g Group) textOf(part Node) string {
	if part.Kind() < g.kind {
		return "(" + part.Text() + ")"
	}
	return part.Text()
}
