// Package message writes the messages between the controller and a switch as bytes, and reads them.
package message

import (
	"weft/api"
	"weft/packet"
)

const (
	maxTwo  = 1<<16 - 1            // the greatest number of two bytes
	head    = 1 + 2                // the kind, and how many bytes follow
	outHead = 2                    // how many packets
	matchAt = 2                    // the match stands behind the priority
	countAt = matchAt + api.Fields // how many actions
	addHead = countAt + 2
)

// Encode tells the bytes of a message.
func Encode(m api.Message) (string, api.Errno) {
	if !right(m) {
		return "", api.ErrValue
	}
	b := body(m)
	if len(b) > maxTwo {
		return "", api.ErrValue
	}
	return string(append(addTwo([]byte{byte(m.Kind)}, len(b)), b...)), api.OK
}

// body tells the bytes that follow kind and length.
func body(m api.Message) []byte {
	switch m.Kind {
	case api.Add:
		b := addTwo(nil, m.Rule.Priority)
		b = addPackets(b, m.Rule.Match)
		b = addTwo(b, len(m.Rule.Actions))
		return addPackets(b, m.Rule.Actions...)
	case api.Out:
		return addPackets(addTwo(nil, len(m.Packets)), m.Packets...)
	}
	return addPackets(nil, m.Packets...)
}

func addTwo(b []byte, n int) []byte {
	return append(b, byte(n>>8), byte(n))
}

// addPackets adds packets, matches or actions: Any is ff as a byte of itself.
func addPackets(b []byte, list ...api.Packet) []byte {
	for _, k := range list {
		for _, v := range k {
			b = append(b, byte(v))
		}
	}
	return b
}

// Decode tells the message of some bytes.
func Decode(b string) (api.Message, api.Errno) {
	if len(b) < head || len(b) < head+two(b[1:]) {
		return api.Message{}, api.ErrShort
	}
	if len(b) > head+two(b[1:]) {
		return api.Message{}, api.ErrMore
	}
	m := loose(int(b[0]), b[head:])
	// What was read without asking whether it is right is right, if it is written so.
	if again, e := Encode(m); e != api.OK || again != b {
		return api.Message{}, api.ErrForm
	}
	return m, api.OK
}

// loose tells a message of this kind that may be written with such bytes behind kind and length: if any is, it is this one.
func loose(kind int, b string) api.Message {
	m := api.Message{Kind: kind}
	switch {
	case kind == api.Add && len(b) >= addHead:
		m.Rule.Priority = two(b)
		m.Rule.Match = one(b[matchAt:countAt])
		m.Rule.Actions = several(b[addHead:])
	case kind == api.Out && len(b) >= outHead:
		m.Packets = several(b[outHead:])
	case kind == api.Miss:
		m.Packets = several(b)
	}
	return m
}

func two(b string) int { return int(b[0])<<8 | int(b[1]) }

// several tells the packets, matches or actions of some bytes, as far as they are whole.
func several(b string) []api.Packet {
	var list []api.Packet
	for ; len(b) >= api.Fields; b = b[api.Fields:] {
		list = append(list, one(b[:api.Fields]))
	}
	return list
}

// one tells a packet, a match or an action: with its sign ff is Any, which is wrong in a packet, and whatever else is too great is wrong in all of them.
func one(b string) api.Packet {
	var k api.Packet
	for f := range k {
		k[f] = int(int8(b[f]))
	}
	return k
}

func right(m api.Message) bool {
	switch m.Kind {
	case api.Add:
		return rightRule(m.Rule) && len(m.Packets) == 0
	case api.Miss:
		return noRule(m.Rule) && len(m.Packets) == 1 && all(m.Packets, packet.Right)
	case api.Out:
		return noRule(m.Rule) && all(m.Packets, packet.Right)
	case api.Barrier, api.Done, api.Full:
		return noRule(m.Rule) && len(m.Packets) == 0
	}
	return false
}

func noRule(r api.Rule) bool {
	return r.Priority == 0 && r.Match == api.Packet{} && len(r.Actions) == 0
}

func rightRule(r api.Rule) bool {
	return r.Priority >= 0 && r.Priority <= maxTwo && rightPattern(r.Match) && all(r.Actions, rightPattern)
}

// rightPattern tells whether this may be a match or an action.
func rightPattern(k api.Packet) bool {
	if k[api.Sw] != api.Any {
		return false
	}
	for f, v := range k {
		if v == api.Any {
			k[f] = 0
		}
	}
	return packet.Right(k)
}

func all(list []api.Packet, ok func(api.Packet) bool) bool {
	for _, k := range list {
		if !ok(k) {
			return false
		}
	}
	return true
}
