// Package network has switches with links between them, and a controller that sends them their tables.
package network

import (
	"slices"

	"weft/api"
	"weft/flow"
	"weft/packet"
	"weft/tables"
)

// Network is one that does a policy. A method that is given the number of a switch is given one that there is.
type Network struct {
	policy    flow.Flow
	links     links
	room      int
	devices   []device
	delivered []api.Packet
}

// New makes a network at its beginning, of settings that are right.
func New(c api.Config, policy flow.Flow, m tables.Maker) Network {
	n := Network{policy: policy, links: slices.Clone(c.Links), room: c.Room, devices: make([]device, c.Switches)}
	for sw := range n.devices {
		d := &n.devices[sw]
		d.unsent = m.Table(sw)
		d.sendRule()
	}
	return n
}

// Has tells whether there is a switch of this number.
func (n *Network) Has(sw int) bool { return isSwitch(len(n.devices), sw) }

// Send lets a packet come from a host.
func (n *Network) Send(sw, pt int, k api.Packet) api.Errno {
	switch {
	case !n.links.host(sw, pt):
		return api.ErrPort
	case !packet.Right(k):
		return api.ErrPacket
	case n.crowded():
		return api.ErrMany
	}
	n.wait(sw, pt, k)
	return api.OK
}

// crowded tells whether no more packets may wait.
func (n *Network) crowded() bool {
	count := 0
	for _, d := range n.devices {
		count += len(d.waiting)
	}
	return count >= api.MaxUnder
}

// wait lets a packet wait at a switch to which it came by a port.
func (n *Network) wait(sw, pt int, k api.Packet) {
	k[api.Sw], k[api.Pt] = sw, pt
	n.devices[sw].waiting = append(n.devices[sw].waiting, k)
}

// Take lets a switch take the message i of the controller's.
func (n *Network) Take(sw, i int) api.Errno {
	d := &n.devices[sw]
	if !d.mayTake(i) {
		return api.ErrIndex
	}
	switch m := taken(&d.down, i); m.Kind {
	case api.Add:
		d.join(m.Rule, n.room)
	case api.Barrier:
		d.tell(api.Message{Kind: api.Done})
	case api.Out:
		n.out(m.Packets)
	}
	return api.OK
}

// Do lets a switch do a packet.
func (n *Network) Do(sw int) api.Errno {
	d := &n.devices[sw]
	if len(d.waiting) == 0 {
		return api.ErrIndex
	}
	k := takeOut(&d.waiting, 0)
	made, hit := tables.Lookup(d.rules, k)
	if !hit {
		d.tell(api.Message{Kind: api.Miss, Packets: []api.Packet{k}})
	}
	n.out(made)
	return api.OK
}

// out lets packets go out of the switch that they are at.
func (n *Network) out(list []api.Packet) {
	for _, k := range list {
		sw, pt := k[api.Sw], k[api.Pt]
		link, begins := n.links.from(sw, pt)
		switch {
		case begins && !n.crowded():
			n.wait(link.To, link.ToPort, k)
		case n.links.host(sw, pt):
			n.delivered = append(n.delivered, k)
		}
	}
}

// Control lets the controller take a message of a switch.
func (n *Network) Control(sw int) api.Errno {
	d := &n.devices[sw]
	if len(d.up) == 0 {
		return api.ErrIndex
	}
	switch m := taken(&d.up, 0); m.Kind {
	case api.Miss:
		d.send(api.Message{Kind: api.Out, Packets: n.policy.Run(m.Packets[0])})
	case api.Done:
		d.sendRule()
	case api.Full:
		d.unsent = nil
	}
	return api.OK
}

// Down tells the messages from the controller to a switch.
func (n *Network) Down(sw int) []string { return slices.Clone(n.devices[sw].down) }

// Up tells the messages from a switch to the controller.
func (n *Network) Up(sw int) []string { return slices.Clone(n.devices[sw].up) }

// Waiting tells the packets that wait at a switch.
func (n *Network) Waiting(sw int) []api.Packet { return slices.Clone(n.devices[sw].waiting) }

// Rules tells the table that a switch has.
func (n *Network) Rules(sw int) []api.Rule {
	list := slices.Clone(n.devices[sw].rules)
	for i := range list {
		list[i].Actions = slices.Clone(list[i].Actions)
	}
	return list
}

// Delivered tells what was delivered, in that order.
func (n *Network) Delivered() []api.Packet { return slices.Clone(n.delivered) }
