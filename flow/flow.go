// Package flow does policies on packets.
package flow

import (
	"slices"

	"weft/api"
	"weft/packet"
	"weft/tree"
)

// Flow is a policy as places with ways between them. What comes of a packet is what arrives at the end, so that a star is no more than a way back: however stars stand within one another, a packet need not come to a place twice.
type Flow struct {
	places []place
	start  int
}

// place has what is done there (a test, a negation or a setting; nil: nothing), and the places that come next.
type place struct {
	does tree.Node
	next []int
}

// end is the place behind the policy.
const end = 0

// spot is a packet at a place.
type spot struct {
	place  int
	packet api.Packet
}

// New makes the flow of a policy.
func New(policy tree.Node) Flow {
	f := Flow{places: []place{{}}}
	f.start = f.ahead(policy, end)
	return f
}

// add makes a place, and tells its number.
func (f *Flow) add(does tree.Node, next ...int) int {
	f.places = append(f.places, place{does, next})
	return len(f.places) - 1
}

// ahead lays a node ahead of a place, and tells the place at which it begins.
func (f *Flow) ahead(n tree.Node, next int) int {
	switch n.Kind() {
	case tree.IDKind:
		return next
	case tree.DropKind:
		return f.add(nil)
	case tree.SumKind:
		return f.sum(n.(tree.Group).Parts(), next)
	case tree.SeqKind:
		return f.seq(n.(tree.Group).Parts(), next)
	case tree.StarKind:
		return f.star(n.(tree.Group).Parts()[0], next)
	}
	return f.add(n, next)
}

func (f *Flow) sum(parts []tree.Node, next int) int {
	var starts []int
	for _, p := range parts {
		starts = append(starts, f.ahead(p, next))
	}
	return f.add(nil, starts...)
}

func (f *Flow) seq(parts []tree.Node, next int) int {
	for _, p := range slices.Backward(parts) {
		next = f.ahead(p, next)
	}
	return next
}

// star lays a star: a packet goes on, or through the part and back. The star of a star is that star itself.
func (f *Flow) star(part tree.Node, next int) int {
	if part.Kind() == tree.StarKind {
		return f.ahead(part, next)
	}
	fork := f.add(nil)
	through := f.ahead(part, fork)
	f.places[fork].next = []int{next, through}
	return fork
}

// Run tells what the policy makes of a packet, as a set.
func (f Flow) Run(k api.Packet) []api.Packet {
	var made []api.Packet
	first := spot{f.start, k}
	seen := map[spot]struct{}{first: {}}
	todo := []spot{first}
	for len(todo) > 0 {
		s := todo[len(todo)-1]
		todo = todo[:len(todo)-1]
		if s.place == end {
			made = append(made, s.packet)
			continue
		}
		for _, t := range f.after(s) {
			if _, known := seen[t]; !known {
				seen[t] = struct{}{}
				todo = append(todo, t)
			}
		}
	}
	slices.SortFunc(made, packet.Compare)
	return made
}

// after tells where a packet goes from its place, and as what.
func (f Flow) after(s spot) []spot {
	p := f.places[s.place]
	k, ok := do(p.does, s.packet)
	if !ok {
		return nil
	}
	list := make([]spot, len(p.next))
	for i, n := range p.next {
		list[i] = spot{n, k}
	}
	return list
}

// do tells what a place makes of a packet, and whether that is anything.
func do(n tree.Node, k api.Packet) (api.Packet, bool) {
	if n == nil {
		return k, true
	}
	if s, ok := n.(tree.Setting); ok {
		return s.Put(k), true
	}
	return k, tree.Passes(n, k)
}
