// Package packet has what goes for packets by themselves: which are right, and how they are ordered.
package packet

import (
	"slices"

	"weft/api"
)

// Right tells whether every field has a value that it may have.
func Right(k api.Packet) bool {
	for _, v := range k {
		if v < 0 || v > api.MaxValue {
			return false
		}
	}
	return true
}

// Compare orders packets by the first field in which they differ.
func Compare(a, b api.Packet) int {
	return slices.Compare(a[:], b[:])
}

// Set makes a list into a set: in order, each once. It works in the list's own memory.
func Set(list []api.Packet) []api.Packet {
	slices.SortFunc(list, Compare)
	return slices.Compact(list)
}
