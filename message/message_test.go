package message

import (
	"testing"

	"weft/api"
)

func TestBothWays(t *testing.T) {
	any := api.Packet{-1, -1, -1, -1, -1, -1}
	for _, c := range []struct {
		m     api.Message
		bytes string
	}{
		{api.Message{Kind: api.Barrier}, "\x02\x00\x00"},
		{api.Message{Kind: api.Miss, Packets: []api.Packet{{0, 1, 2, 3, 30, 31}}}, "\x04\x00\x06\x00\x01\x02\x03\x1e\x1f"},
		{api.Message{Kind: api.Out, Packets: []api.Packet{{1}}}, "\x05\x00\x08\x00\x01\x01\x00\x00\x00\x00\x00"},
		{api.Message{Kind: api.Add, Rule: api.Rule{Priority: 0x1234, Match: any}}, "\x01\x00\x0a\x12\x34\xff\xff\xff\xff\xff\xff\x00\x00"},
	} {
		if b, e := Encode(c.m); b != c.bytes || e != api.OK {
			t.Errorf("Encode(%v) = %x, %d, want %x", c.m, b, e, c.bytes)
		}
		m, e := Decode(c.bytes)
		if b, _ := Encode(m); b != c.bytes || e != api.OK {
			t.Errorf("Decode(%x) = %v, %d, want %v", c.bytes, m, e, c.m)
		}
	}
}

func TestRightPattern(t *testing.T) {
	for _, c := range []struct {
		k    api.Packet
		want bool
	}{
		{api.Packet{-1, -1, -1, -1, -1, -1}, true},
		{api.Packet{-1, 0, 31, 0, 31, 0}, true},
		{api.Packet{0, -1, -1, -1, -1, -1}, false},
		{api.Packet{-2, 0, 0, 0, 0, 0}, false},
		{api.Packet{-1, 0, 0, 0, 0, 32}, false},
		{api.Packet{-1, -2, 0, 0, 0, 0}, false},
		{api.Packet{-1, 255, 0, 0, 0, 0}, false},
	} {
		if rightPattern(c.k) != c.want {
			t.Errorf("rightPattern(%v) = %v", c.k, !c.want)
		}
	}
}
