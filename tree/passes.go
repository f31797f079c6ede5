package tree

import "weft/api"

// IsTest tells whether a negation may stand ahead of a node.
func IsTest(n Node) bool {
	switch n.Kind() {
	case StarKind, SettingKind:
		return false
	case SumKind, SeqKind:
		for _, p := range n.(Group).parts {
			if !IsTest(p) {
				return false
			}
		}
	}
	return true
}

// Passes tells whether a test lets a packet pass. (What is no test lets none pass.)
func Passes(n Node, k api.Packet) bool {
	switch x := n.(type) {
	case Leaf:
		return x.kind == IDKind
	case Test:
		return x.Holds(k)
	case Group:
		return x.passes(k)
	}
	return false
}

func (g Group) passes(k api.Packet) bool {
	switch g.kind {
	case NotKind:
		return !Passes(g.parts[0], k)
	case SumKind:
		return g.countPassing(k) > 0
	case SeqKind:
		return g.countPassing(k) == len(g.parts)
	}
	return false
}

func (g Group) countPassing(k api.Packet) int {
	count := 0
	for _, p := range g.parts {
		if Passes(p, k) {
			count++
		}
	}
	return count
}
