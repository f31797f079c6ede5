package network

import (
	"slices"

	"weft/api"
	"weft/message"
)

// device is a switch, with all that is on its way to it and from it.
type device struct {
	rules   []api.Rule // by falling priority, as the controller sends them one by one
	waiting []api.Packet
	down    []string   // from the controller
	up      []string   // to the controller
	unsent  []api.Rule // what the controller still has to send
}

// written tells the bytes of a message. The network makes none that is wrong: the packets and rules that come of a policy are far fewer than a message has room for.
func written(m api.Message) string {
	b, _ := message.Encode(m)
	return b
}

// taken takes a message out of a list, and reads it.
func taken(list *[]string, i int) api.Message {
	m, _ := message.Decode(takeOut(list, i))
	return m
}

// takeOut takes an element out of a list. Those ahead of it are moved, not those behind, as mostly the first one is taken.
func takeOut[T any](list *[]T, i int) T {
	l := *list
	x := l[i]
	copy(l[1:], l[:i])
	*list = l[1:]
	return x
}

// send lets the controller send a message.
func (d *device) send(m api.Message) { d.down = append(d.down, written(m)) }

// tell lets the switch send a message.
func (d *device) tell(m api.Message) { d.up = append(d.up, written(m)) }

// sendRule lets the controller send the next rule, if there is one.
func (d *device) sendRule() {
	if len(d.unsent) > 0 {
		d.send(api.Message{Kind: api.Add, Rule: takeOut(&d.unsent, 0)})
		d.send(api.Message{Kind: api.Barrier})
	}
}

// mayTake tells whether there is a message i, and it need not wait for a Barrier or, if it is one, for those ahead of it.
func (d *device) mayTake(i int) bool {
	if i < 0 || i >= len(d.down) {
		return false
	}
	return i == 0 || !slices.Contains(d.down[:i+1], written(api.Message{Kind: api.Barrier}))
}

// join lets a rule join the table, if there is room.
func (d *device) join(r api.Rule, room int) {
	if len(d.rules) >= room {
		d.tell(api.Message{Kind: api.Full})
		return
	}
	d.rules = append(d.rules, r)
}
