// Package tables makes policies into tables of rules, and does packets by such rules.
package tables

import (
	"slices"

	"weft/api"
	"weft/flow"
	"weft/packet"
	"weft/tree"
)

// Maker makes the tables of one policy. The policy can tell packets apart only by the values that it tests: with one packet for each choice of those, and of a value that it doesn't name, all is known of what it does.
type Maker struct {
	flow   flow.Flow
	tested [api.Fields][]int // in order, each once
	other  [api.Fields]int   // neither tested nor set, so that a field that has it still was left as it is
}

// everything is the match of all packets.
var everything = api.Packet{api.Any, api.Any, api.Any, api.Any, api.Any, api.Any}

// NewMaker tells the maker of a policy, of which this is the flow.
func NewMaker(policy tree.Node, f flow.Flow) Maker {
	m := Maker{flow: f}
	var named [api.Fields][]int
	for _, atom := range tree.Atoms(policy) {
		switch a := atom.(type) {
		case tree.Test:
			m.tested[a.Field] = append(m.tested[a.Field], a.Value)
			named[a.Field] = append(named[a.Field], a.Value)
		case tree.Setting:
			named[a.Field] = append(named[a.Field], a.Value)
		}
	}
	for field := range api.Fields {
		slices.Sort(m.tested[field])
		m.tested[field] = slices.Compact(m.tested[field])
		m.other[field] = leastMissing(named[field])
	}
	return m
}

// leastMissing tells the least value that isn't in a list. (A policy has fewer atoms than there are values.)
func leastMissing(list []int) int {
	v := 0
	for slices.Contains(list, v) {
		v++
	}
	return v
}

// Table tells the table of a switch.
func (m Maker) Table(sw int) []api.Rule {
	rules := m.rules(api.Packet{api.Sw: sw}, api.Pt)
	for i := range rules {
		rules[i].Priority = len(rules) - 1 - i
	}
	return rules
}

// rules tells those for the packets that are as k ahead of a field. The rules of each value that makes a difference stand ahead of those of all others, so that none hides one behind it, and something matches at last.
func (m Maker) rules(k api.Packet, field int) []api.Rule {
	if field == api.Fields {
		return []api.Rule{{Match: everything, Actions: m.actions(k)}}
	}
	k[field] = m.other[field]
	others := m.rules(k, field+1)
	var list []api.Rule
	for _, v := range m.tested[field] {
		k[field] = v
		own := m.rules(k, field+1)
		if slices.EqualFunc(own, others, doSame) {
			continue
		}
		for i := range own {
			own[i].Match[field] = v
		}
		list = append(list, own...)
	}
	return append(list, others...)
}

func doSame(a, b api.Rule) bool {
	return a.Match == b.Match && slices.Equal(a.Actions, b.Actions)
}

// actions tells what makes of k, and of all packets that it stands for, what the policy makes of them.
func (m Maker) actions(k api.Packet) []api.Packet {
	list := m.flow.Run(k)
	for i := range list {
		for f, v := range list[i] {
			if v == k[f] {
				list[i][f] = api.Any
			}
		}
	}
	return packet.Set(list)
}

// Lookup tells what the first rule that matches a packet makes of it, as a set, and whether one does.
func Lookup(rules []api.Rule, k api.Packet) ([]api.Packet, bool) {
	for _, r := range rules {
		if matches(r.Match, k) {
			return made(r.Actions, k), true
		}
	}
	return nil, false
}

func matches(match, k api.Packet) bool {
	for f := api.Pt; f < api.Fields; f++ {
		if match[f] != api.Any && match[f] != k[f] {
			return false
		}
	}
	return true
}

func made(actions []api.Packet, k api.Packet) []api.Packet {
	list := make([]api.Packet, len(actions))
	for i, a := range actions {
		list[i] = act(a, k)
	}
	return packet.Set(list)
}

func act(action, k api.Packet) api.Packet {
	for f := api.Pt; f < api.Fields; f++ {
		if action[f] != api.Any {
			k[f] = action[f]
		}
	}
	return k
}
