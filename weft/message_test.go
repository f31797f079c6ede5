package weft

import (
	"math/rand"
	"slices"
	"strings"
	"testing"

	"weft/api"
)

const anyBytes = "\xff\xff\xff\xff\xff\xff"

// pattern tells a match or an action that names the fields from Pt on.
func pattern(values ...int) api.Packet {
	k := api.Packet{api.Any, api.Any, api.Any, api.Any, api.Any, api.Any}
	copy(k[api.Pt:], values)
	return k
}

func sameMessage(a, b api.Message) bool {
	return a.Kind == b.Kind && sameRule(a.Rule, b.Rule) && slices.Equal(a.Packets, b.Packets)
}

func isZero(m api.Message) bool {
	return m.Kind == 0 && m.Rule.Priority == 0 && m.Rule.Match == api.Packet{} && m.Rule.Actions == nil && m.Packets == nil
}

// wantBoth holds Encode and Decode against each other's answer, of a message that is right.
func wantBoth(t *testing.T, m api.Message, bytes string) {
	t.Helper()
	if b, e := Encode(m); b != bytes || e != api.OK {
		t.Errorf("P6: Encode(%v) = %x, %d, want %x", m, b, e, bytes)
	}
	if d, e := Decode(bytes); !sameMessage(d, m) || e != api.OK {
		t.Errorf("P6: Decode(%x) = %v, %d, want %v", bytes, d, e, m)
	}
}

func wantNoMessage(t *testing.T, b string, want api.Errno) {
	t.Helper()
	if m, e := Decode(b); !isZero(m) || e != want {
		t.Errorf("P6: Decode(%x) = %v, %d, want %d", b, m, e, want)
	}
}

func add(priority int, match api.Packet, actions ...api.Packet) api.Message {
	return api.Message{Kind: api.Add, Rule: api.Rule{Priority: priority, Match: match, Actions: actions}}
}

func packets(kind int, list ...api.Packet) api.Message {
	return api.Message{Kind: kind, Packets: list}
}

func TestMessages(t *testing.T) {
	for _, c := range []struct {
		m     api.Message
		bytes string
	}{
		{packets(api.Barrier), "\x02\x00\x00"},
		{packets(api.Done), "\x03\x00\x00"},
		{packets(api.Full), "\x06\x00\x00"},
		{packets(api.Miss, api.Packet{1, 2, 3, 4, 5, 31}), "\x04\x00\x06\x01\x02\x03\x04\x05\x1f"},
		{packets(api.Miss, api.Packet{}), "\x04\x00\x06\x00\x00\x00\x00\x00\x00"},
		{packets(api.Out), "\x05\x00\x02\x00\x00"},
		{packets(api.Out, api.Packet{2}, api.Packet{1, 0, 0, 0, 0, 9}, api.Packet{2}), "\x05\x00\x14\x00\x03\x02\x00\x00\x00\x00\x00\x01\x00\x00\x00\x00\x09\x02\x00\x00\x00\x00\x00"},
		{add(0, pattern()), "\x01\x00\x0a\x00\x00" + anyBytes + "\x00\x00"},
		{add(258, pattern(0, 31)), "\x01\x00\x0a\x01\x02\xff\x00\x1f\xff\xff\xff\x00\x00"},
		{add(65535, pattern(1, 2, 3, 4, 5), pattern(7), pattern(), pattern(7)), "\x01\x00\x1c\xff\xff\xff\x01\x02\x03\x04\x05\x00\x03\xff\x07\xff\xff\xff\xff" + anyBytes + "\xff\x07\xff\xff\xff\xff"},
	} {
		wantBoth(t, c.m, c.bytes)
		for i := range c.bytes {
			wantNoMessage(t, c.bytes[:i], api.ErrShort)
		}
		wantNoMessage(t, c.bytes+"\x00", api.ErrMore)
		wantNoMessage(t, c.bytes+c.bytes, api.ErrMore)
	}
}

func TestEmptyListsMayBeThere(t *testing.T) {
	b, e := Encode(api.Message{Kind: api.Barrier, Rule: api.Rule{Actions: []api.Packet{}}, Packets: []api.Packet{}})
	if b != "\x02\x00\x00" || e != api.OK {
		t.Errorf("P6: Encode = %x, %d", b, e)
	}
}

func TestWrongMessages(t *testing.T) {
	k := api.Packet{1, 2, 3, 4, 5, 6}
	list := []api.Message{
		{}, packets(7), packets(-1), packets(256 + api.Barrier), packets(0, k), packets(-1 << 63), packets(1<<63 - 1),
		packets(api.Miss), packets(api.Miss, k, k),
		add(-1, pattern()), add(65536, pattern()), add(1<<63-1, pattern()), add(-1<<63, pattern()),
		{Kind: api.Add}, add(0, k), add(0, api.Packet{0, -1, -1, -1, -1, -1}), add(0, api.Packet{-2, -1, -1, -1, -1, -1}),
		add(0, pattern(), api.Packet{}), add(0, pattern(), pattern(), api.Packet{5, -1, -1, -1, -1, -1}, pattern()),
		{Kind: api.Add, Rule: api.Rule{Match: pattern()}, Packets: []api.Packet{k}},
	}
	for _, kind := range []int{api.Barrier, api.Done, api.Full} {
		list = append(list, packets(kind, k))
	}
	for _, m := range []api.Message{packets(api.Barrier), packets(api.Done), packets(api.Full), packets(api.Out), packets(api.Out, k), packets(api.Miss, k)} {
		for _, r := range []api.Rule{{Priority: 1}, {Priority: -1}, {Match: pattern()}, {Match: api.Packet{api.Tag: 1}}, {Actions: []api.Packet{{}}}, {Actions: []api.Packet{pattern()}}} {
			m.Rule = r
			list = append(list, m)
		}
	}
	for f := range api.Fields {
		for _, v := range []int{-1 << 63, -256, -2, -1, api.MaxValue + 1, 255, 256, 1<<63 - 1} {
			wrong := k
			wrong[f] = v
			list = append(list, packets(api.Miss, wrong), packets(api.Out, k, wrong), packets(api.Out, wrong, k))
			if v != api.Any {
				wrong[api.Sw] = api.Any
				wrong[max(f, 1)] = v
				list = append(list, add(0, wrong), add(0, pattern(), wrong), add(0, pattern(), pattern(), wrong, pattern()))
			}
		}
	}
	for _, m := range list {
		if b, e := Encode(m); b != "" || e != api.ErrValue {
			t.Errorf("P6: Encode(%v) = %x, %d, want %d", m, b, e, api.ErrValue)
		}
	}
}

func TestLongMessages(t *testing.T) {
	for _, c := range []struct {
		m     api.Message
		bytes string
	}{
		{packets(api.Out, make([]api.Packet, 10922)...), "\x05\xff\xfe\x2a\xaa" + times(6*10922, "\x00")},
		{add(0, pattern(), slices.Repeat([]api.Packet{pattern()}, 10920)...), "\x01\xff\xfa\x00\x00" + anyBytes + "\x2a\xa8" + times(10920, anyBytes)},
	} {
		if b, e := Encode(c.m); b != c.bytes || e != api.OK {
			t.Errorf("P6: Encode of a long message: %d bytes, %d", len(b), e)
		}
		if m, e := Decode(c.bytes); !sameMessage(m, c.m) || e != api.OK {
			t.Errorf("P6: Decode of a long message: %d", e)
		}
	}
	for _, m := range []api.Message{
		packets(api.Out, make([]api.Packet, 10923)...), packets(api.Out, make([]api.Packet, 65536)...), packets(api.Out, make([]api.Packet, 1<<20)...),
		add(0, pattern(), slices.Repeat([]api.Packet{pattern()}, 10921)...), add(0, pattern(), slices.Repeat([]api.Packet{pattern()}, 65536)...),
	} {
		if b, e := Encode(m); b != "" || e != api.ErrValue {
			t.Errorf("P6: Encode of a message that is too long: %d bytes, %d", len(b), e)
		}
	}
}

func TestWrongBytes(t *testing.T) {
	wantNoMessage(t, "", api.ErrShort)
	// Whatever else is wrong, the length comes first.
	for _, s := range []string{"\x00", "\xff\xff", "\x07\x00\x01", "\x02\x00\x01", "\x01\xff\xff" + times(65534, "\x00"), "\x04\x01\x00" + times(255, "\x00")} {
		wantNoMessage(t, s, api.ErrShort)
	}
	for _, s := range []string{"\x00\x00\x00\x00", "\x07\x00\x01\x00\x00", "\x04\x00\x05" + times(6, "\x00"), "\x02\x00\x00\x02\x00\x00", "\x01\x00\x00" + times(65536, "\x00")} {
		wantNoMessage(t, s, api.ErrMore)
	}
	for _, s := range []string{
		"\x00\x00\x00", "\x07\x00\x00", "\xff\x00\x00", "\x82\x00\x00",
		"\x02\x00\x01\x00", "\x03\x00\x01\x00", "\x06\x00\x06" + times(6, "\x00"),
		"\x04\x00\x00", "\x04\x00\x05" + times(5, "\x00"), "\x04\x00\x07" + times(7, "\x00"), "\x04\x00\x0c" + times(12, "\x00"),
		"\x05\x00\x00", "\x05\x00\x01\x00", "\x05\x00\x02\x00\x01", "\x05\x00\x02\x01\x00", "\x05\x00\x08\x00\x00" + times(6, "\x00"),
		"\x05\x00\x07\x00\x01" + times(5, "\x00"), "\x05\x00\x09\x00\x01" + times(7, "\x00"), "\x05\x00\x03\x00\x00\x00",
		"\x01\x00\x00", "\x01\x00\x09\x00\x00" + anyBytes + "\x00", "\x01\x00\x0b\x00\x00" + anyBytes + "\x00\x00\x00",
		"\x01\x00\x0a\x00\x00" + anyBytes + "\x00\x01", "\x01\x00\x10\x00\x00" + anyBytes + "\x00\x00" + anyBytes,
		"\x01\x00\x0f\x00\x00" + anyBytes + "\x00\x01" + anyBytes[1:],
	} {
		wantNoMessage(t, s, api.ErrForm)
	}
	for f := range api.Fields {
		for _, v := range []string{"\x20", "\x7f", "\x80", "\xfe", "\xff"} {
			wrong := times(f, "\x00") + v + times(5-f, "\x00")
			wantNoMessage(t, "\x04\x00\x06"+wrong, api.ErrForm)
			wantNoMessage(t, "\x05\x00\x0e\x00\x02"+times(6, "\x00")+wrong, api.ErrForm)
			at := f
			if v == "\xff" {
				at, v = api.Sw, "\x00" // Any may stand in matches and actions, but at Sw nothing else
			}
			wrong = anyBytes[:at] + v + anyBytes[at+1:]
			wantNoMessage(t, "\x01\x00\x0a\x00\x00"+wrong+"\x00\x00", api.ErrForm)
			wantNoMessage(t, "\x01\x00\x10\x00\x00"+anyBytes+"\x00\x01"+wrong, api.ErrForm)
		}
	}
}

// strict goes through bytes by the document's words, one after the other, whatever the program does.
type strict struct {
	rest string
	bad  bool
}

func (s *strict) one() int {
	if s.rest == "" {
		s.bad = true
		return 0
	}
	v := int(s.rest[0])
	s.rest = s.rest[1:]
	return v
}

func (s *strict) two() int {
	high := s.one()
	return 256*high + s.one()
}

func (s *strict) packet(pattern bool) api.Packet {
	var k api.Packet
	for f := range k {
		k[f] = s.one()
		switch {
		case pattern && k[f] == 255:
			k[f] = api.Any
		case k[f] > 31, pattern && f == 0:
			s.bad = true
		}
	}
	return k
}

func (s *strict) packets(count int, pattern bool) []api.Packet {
	var list []api.Packet
	for range count {
		if s.bad {
			break
		}
		list = append(list, s.packet(pattern))
	}
	return list
}

func decodedByWords(b string) (api.Message, api.Errno) {
	s := &strict{rest: b}
	m := api.Message{Kind: s.one()}
	length := s.two()
	if s.bad || len(s.rest) < length {
		return api.Message{}, api.ErrShort
	}
	if len(s.rest) > length {
		return api.Message{}, api.ErrMore
	}
	switch m.Kind {
	case 1:
		m.Rule.Priority = s.two()
		m.Rule.Match = s.packet(true)
		m.Rule.Actions = s.packets(s.two(), true)
	case 5:
		m.Packets = s.packets(s.two(), false)
	case 4:
		m.Packets = s.packets(1, false)
	case 2, 3, 6:
	default:
		s.bad = true
	}
	if s.bad || s.rest != "" {
		return api.Message{}, api.ErrForm
	}
	return m, api.OK
}

func randomMessage(r *rand.Rand) api.Message {
	patterns := func(n int) []api.Packet {
		var list []api.Packet
		for range n {
			k := pattern()
			for f := 1; f < api.Fields; f++ {
				k[f] = r.Intn(33) - 1
			}
			list = append(list, k)
		}
		return list
	}
	switch kind := 1 + r.Intn(6); kind {
	case api.Add:
		return add(r.Intn(65536), patterns(1)[0], patterns(r.Intn(4))...)
	case api.Miss:
		return packets(kind, randomPacket(r))
	case api.Out:
		var list []api.Packet
		for range r.Intn(4) {
			list = append(list, randomPacket(r))
		}
		return packets(kind, list...)
	default:
		return packets(kind)
	}
}

func randomPacket(r *rand.Rand) api.Packet {
	var k api.Packet
	for f := range k {
		k[f] = r.Intn(api.MaxValue + 1)
	}
	return k
}

// randomBytes changes right bytes at some places, so that they are right still or nearly so.
func randomBytes(r *rand.Rand, b string) string {
	bytes := []byte(b)
	for range r.Intn(3) {
		v := []byte{0, 1, 2, 6, 31, 32, 127, 128, 254, 255, byte(r.Intn(256))}[r.Intn(11)]
		switch i := r.Intn(len(bytes) + 1); {
		case r.Intn(3) == 0:
			bytes = slices.Insert(bytes, i, v)
		case i == len(bytes):
		case r.Intn(2) == 0:
			bytes = slices.Delete(bytes, i, i+1)
		default:
			bytes[i] = v
		}
	}
	if len(bytes) > 2 && r.Intn(2) == 0 {
		bytes[1], bytes[2] = byte((len(bytes)-3)>>8), byte(len(bytes)-3)
	}
	return string(bytes)
}

func TestRandomMessages(t *testing.T) {
	r := rand.New(rand.NewSource(8))
	counts := map[api.Errno]int{}
	for range 60000 {
		m := randomMessage(r)
		b, e := Encode(m)
		if e != api.OK {
			t.Fatalf("P6: Encode(%v): %d", m, e)
		}
		wantBoth(t, m, b)
		if d, e := decodedByWords(b); !sameMessage(d, m) || e != api.OK {
			t.Fatalf("P6: Encode(%v) = %x, which is %v, %d", m, b, d, e)
		}
		b = randomBytes(r, b)
		want, wantErrno := decodedByWords(b)
		d, e := Decode(b)
		if !sameMessage(d, want) || e != wantErrno {
			t.Fatalf("P6: Decode(%x) = %v, %d, want %v, %d", b, d, e, want, wantErrno)
		}
		counts[e]++
	}
	for _, e := range []api.Errno{api.OK, api.ErrShort, api.ErrMore, api.ErrForm} {
		if counts[e] < 500 {
			t.Errorf("%d was answered %d times only: the bytes try too little", e, counts[e])
		}
	}
}

func TestMessagesAreNew(t *testing.T) {
	actions := []api.Packet{pattern(3), pattern(1)}
	list := []api.Packet{{3}, {1}}
	Encode(add(1, pattern(), actions...))
	Encode(packets(api.Out, list...))
	if actions[0] != pattern(3) || actions[1] != pattern(1) || list[0] != (api.Packet{3}) || list[1] != (api.Packet{1}) {
		t.Errorf("P2: Encode has changed lists to %v, %v", actions, list)
	}
	for _, b := range []string{"\x05\x00\x0e\x00\x02" + strings.Repeat("\x01", 12), "\x01\x00\x16\x00\x01" + anyBytes + "\x00\x02" + anyBytes + anyBytes} {
		first, _ := Decode(b)
		second, _ := Decode(b)
		spoil(first.Packets)
		spoil(first.Rule.Actions)
		if third, _ := Decode(b); !sameMessage(second, third) {
			t.Errorf("P2: Decode answers %v after another answer was changed, want %v", third, second)
		}
	}
}
