// Package weft: a network whose switches do what a policy says: see DOC.md.
package weft

import (
	"weft/api"
	"weft/flow"
	"weft/message"
	"weft/network"
	"weft/packet"
	"weft/read"
	"weft/tables"
)

// Policy is one that was read.
type Policy struct {
	flow   flow.Flow
	tables tables.Maker
}

// Network is switches, links, hosts and a controller.
type Network struct {
	inner network.Network
}

// Print reads a policy, and prints it (P3).
func Print(text string) (string, api.Errno, int) {
	n, e, at := read.Policy(text)
	if e != api.OK {
		return "", e, at
	}
	return n.Text(), api.OK, 0
}

// Compile reads a policy (P4).
func Compile(text string) (*Policy, api.Errno, int) {
	n, e, at := read.Policy(text)
	if e != api.OK {
		return nil, e, at
	}
	f := flow.New(n)
	return &Policy{f, tables.NewMaker(n, f)}, api.OK, 0
}

// Eval tells what the policy makes of a packet (P4).
func (p *Policy) Eval(k api.Packet) ([]api.Packet, api.Errno) {
	if p == nil {
		return nil, api.ErrNil
	}
	if !packet.Right(k) {
		return nil, api.ErrPacket
	}
	return p.flow.Run(k), api.OK
}

// Table tells the policy's table for a switch (P5).
func (p *Policy) Table(sw int) ([]api.Rule, api.Errno) {
	if p == nil {
		return nil, api.ErrNil
	}
	if sw < 0 || sw > api.MaxValue {
		return nil, api.ErrSwitch
	}
	return p.tables.Table(sw), api.OK
}

// Lookup does a packet by a table (P5).
func Lookup(table []api.Rule, k api.Packet) ([]api.Packet, bool) {
	return tables.Lookup(table, k)
}

// Encode writes a message (P6).
func Encode(m api.Message) (string, api.Errno) { return message.Encode(m) }

// Decode reads a message (P6).
func Decode(b string) (api.Message, api.Errno) { return message.Decode(b) }

// New makes a network (P7).
func (p *Policy) New(c api.Config) (*Network, api.Errno) {
	if p == nil {
		return nil, api.ErrNil
	}
	if !network.Right(c) {
		return nil, api.ErrNet
	}
	return &Network{network.New(c, p.flow, p.tables)}, api.OK
}

// refuse tells why a call on a switch is refused, or OK.
func (n *Network) refuse(sw int) api.Errno {
	switch {
	case n == nil:
		return api.ErrNil
	case !n.inner.Has(sw):
		return api.ErrSwitch
	}
	return api.OK
}

// Send lets a host send a packet (P7).
func (n *Network) Send(sw int, pt int, k api.Packet) api.Errno {
	if e := n.refuse(sw); e != api.OK {
		return e
	}
	return n.inner.Send(sw, pt, k)
}

// Down tells the messages on the way to a switch (P7).
func (n *Network) Down(sw int) ([]string, api.Errno) {
	if e := n.refuse(sw); e != api.OK {
		return nil, e
	}
	return n.inner.Down(sw), api.OK
}

// Up tells the messages on the way to the controller (P7).
func (n *Network) Up(sw int) ([]string, api.Errno) {
	if e := n.refuse(sw); e != api.OK {
		return nil, e
	}
	return n.inner.Up(sw), api.OK
}

// Waiting tells the packets that wait at a switch (P7).
func (n *Network) Waiting(sw int) ([]api.Packet, api.Errno) {
	if e := n.refuse(sw); e != api.OK {
		return nil, e
	}
	return n.inner.Waiting(sw), api.OK
}

// Take lets a switch take a message (P7).
func (n *Network) Take(sw int, i int) api.Errno {
	if e := n.refuse(sw); e != api.OK {
		return e
	}
	return n.inner.Take(sw, i)
}

// Do lets a switch do a packet (P7).
func (n *Network) Do(sw int) api.Errno {
	if e := n.refuse(sw); e != api.OK {
		return e
	}
	return n.inner.Do(sw)
}

// Control lets the controller take a message (P7).
func (n *Network) Control(sw int) api.Errno {
	if e := n.refuse(sw); e != api.OK {
		return e
	}
	return n.inner.Control(sw)
}

// Rules tells a switch's table (P7).
func (n *Network) Rules(sw int) ([]api.Rule, api.Errno) {
	if e := n.refuse(sw); e != api.OK {
		return nil, e
	}
	return n.inner.Rules(sw), api.OK
}

// Delivered tells what was delivered (P7).
func (n *Network) Delivered() ([]api.Packet, api.Errno) {
	if n == nil {
		return nil, api.ErrNil
	}
	return n.inner.Delivered(), api.OK
}
