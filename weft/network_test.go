package weft

import (
	"fmt"
	"math/rand"
	"slices"
	"strings"
	"sync"
	"testing"

	"weft/api"
)

func networkOf(t *testing.T, p *Policy, c api.Config) *Network {
	t.Helper()
	n, e := p.New(c)
	if n == nil || e != api.OK {
		t.Fatalf("P7: New(%v) = %v, %d", c, n, e)
	}
	return n
}

func wantErrno(t *testing.T, what string, e, want api.Errno) {
	t.Helper()
	if e != want {
		t.Errorf("P7: %s: %d, want %d", what, e, want)
	}
}

// wantMessages holds messages in bytes against those that they should be.
func wantMessages(t *testing.T, what string, list []string, e api.Errno, want []api.Message) {
	t.Helper()
	if e != api.OK || len(list) != len(want) {
		t.Errorf("P7: %s = %x, %d, want %v", what, list, e, want)
		return
	}
	for i, b := range list {
		if m, e := decodedByWords(b); e != api.OK || !sameMessage(m, want[i]) {
			t.Errorf("P7: %s: message %d is %x, want %v", what, i, b, want[i])
		}
	}
}

func wantDown(t *testing.T, n *Network, sw int, want ...api.Message) {
	t.Helper()
	l, e := n.Down(sw)
	wantMessages(t, "Down", l, e, want)
}

func wantUp(t *testing.T, n *Network, sw int, want ...api.Message) {
	t.Helper()
	l, e := n.Up(sw)
	wantMessages(t, "Up", l, e, want)
}

func wantWaiting(t *testing.T, n *Network, sw int, want ...api.Packet) {
	t.Helper()
	if l, e := n.Waiting(sw); !slices.Equal(l, want) || e != api.OK {
		t.Errorf("P7: Waiting(%d) = %v, %d, want %v", sw, l, e, want)
	}
}

func wantDelivered(t *testing.T, n *Network, want ...api.Packet) {
	t.Helper()
	if l, e := n.Delivered(); !slices.Equal(l, want) || e != api.OK {
		t.Errorf("P7: Delivered = %v, %d, want %v", l, e, want)
	}
}

func wantRules(t *testing.T, n *Network, sw int, want []api.Rule) {
	t.Helper()
	if l, e := n.Rules(sw); !slices.EqualFunc(l, want, sameRule) || e != api.OK {
		t.Errorf("P7: Rules(%d) = %v, %d, want %v", sw, l, e, want)
	}
}

// look tells all that is to be seen of a network.
func look(n *Network, switches int) string {
	var s strings.Builder
	for sw := range switches {
		down, a := n.Down(sw)
		up, b := n.Up(sw)
		waiting, c := n.Waiting(sw)
		rules, d := n.Rules(sw)
		fmt.Fprintf(&s, "%x %d %x %d %v %d %v %d\n", down, a, up, b, waiting, c, rules, d)
	}
	delivered, e := n.Delivered()
	fmt.Fprint(&s, delivered, e)
	return s.String()
}

// settle does all that can be done, in any order, and tells whether that ended.
func settle(r *rand.Rand, n *Network, switches int) bool {
	for range 20000 {
		some := false
		for _, i := range r.Perm(3 * switches) {
			var e api.Errno
			switch sw := i / 3; i % 3 {
			case 0:
				e = n.Take(sw, r.Intn(2))
				if e != api.OK {
					e = n.Take(sw, 0)
				}
			case 1:
				e = n.Do(sw)
			default:
				e = n.Control(sw)
			}
			some = some || e == api.OK
		}
		if !some {
			return true
		}
	}
	return false
}

// ready tells a network whose switches have their tables.
func ready(t *testing.T, text string, c api.Config) *Network {
	t.Helper()
	n := networkOf(t, compiled(t, text), c)
	if !settle(rand.New(rand.NewSource(1)), n, c.Switches) {
		t.Fatalf("P9: %q never ends", text)
	}
	return n
}

func TestNetworkAtItsBeginning(t *testing.T) {
	p := compiled(t, "sw=0;pt=1 + sw=2;(pt=1 + pt=2)")
	n := networkOf(t, p, api.Config{Switches: 3, Room: 9})
	for sw := range 3 {
		wantDown(t, n, sw, api.Message{Kind: api.Add, Rule: tableOf(t, p, sw)[0]}, packets(api.Barrier))
		wantUp(t, n, sw)
		wantWaiting(t, n, sw)
		wantRules(t, n, sw, nil)
	}
	wantDelivered(t, n)
}

func TestTableComesRuleByRule(t *testing.T) {
	p := compiled(t, "pt=1;tag:=1 + pt=2;tag:=2 + pt=3;tag:=3")
	for room := range 7 {
		n := networkOf(t, p, api.Config{Switches: 2, Room: room})
		table := tableOf(t, p, 1)
		for i, rule := range table {
			wantDown(t, n, 1, api.Message{Kind: api.Add, Rule: rule}, packets(api.Barrier))
			wantErrno(t, "Take of a Barrier behind an Add", n.Take(1, 1), api.ErrIndex)
			wantErrno(t, "Take of an Add", n.Take(1, 0), api.OK)
			wantDown(t, n, 1, packets(api.Barrier))
			wantRules(t, n, 1, table[:min(i+1, room)])
			if i >= room {
				wantUp(t, n, 1, packets(api.Full))
				wantErrno(t, "Take of a Barrier", n.Take(1, 0), api.OK)
				wantUp(t, n, 1, packets(api.Full), packets(api.Done))
				wantErrno(t, "Control of Full", n.Control(1), api.OK)
				wantDown(t, n, 1)
				wantErrno(t, "Control of Done", n.Control(1), api.OK)
				break
			}
			wantUp(t, n, 1)
			wantErrno(t, "Take of a Barrier", n.Take(1, 0), api.OK)
			wantUp(t, n, 1, packets(api.Done))
			wantDown(t, n, 1)
			wantErrno(t, "Control of Done", n.Control(1), api.OK)
		}
		wantDown(t, n, 1)
		wantUp(t, n, 1)
		wantRules(t, n, 1, table[:min(len(table), room)])
		wantDown(t, n, 0, api.Message{Kind: api.Add, Rule: tableOf(t, p, 0)[0]}, packets(api.Barrier))
	}
}

// TestFullIsNotHeededEarly has a Full that the controller has not taken yet.
func TestFullIsNotHeededEarly(t *testing.T) {
	p := compiled(t, "pt=1;pt:=2 + pt=3")
	n := networkOf(t, p, api.Config{Switches: 1})
	n.Send(0, 1, api.Packet{})
	n.Do(0)
	n.Take(0, 0)
	n.Take(0, 0)
	k := api.Packet{0, 1}
	wantUp(t, n, 0, packets(api.Miss, k), packets(api.Full), packets(api.Done))
	wantErrno(t, "Control of Miss", n.Control(0), api.OK)
	wantDown(t, n, 0, packets(api.Out, api.Packet{0, 2}))
	wantErrno(t, "Control of Full", n.Control(0), api.OK)
	wantErrno(t, "Control of Done", n.Control(0), api.OK)
	wantErrno(t, "Control of nothing", n.Control(0), api.ErrIndex)
	wantDown(t, n, 0, packets(api.Out, api.Packet{0, 2}))
	wantErrno(t, "Take of Out", n.Take(0, 0), api.OK)
	wantDelivered(t, n, api.Packet{0, 2})
}

// TestTakenOutOfOrder has several messages ahead of a Barrier and behind it.
func TestTakenOutOfOrder(t *testing.T) {
	p := compiled(t, "!pt=9;(tag:=1 + tag:=2)")
	n := networkOf(t, p, api.Config{Switches: 1, Room: 1})
	n.Take(0, 0)
	n.Take(0, 0)
	miss := func(pt int) {
		t.Helper()
		n.Send(0, pt, api.Packet{})
		n.Do(0)
	}
	// A rule for pt 9 alone is there, so that all others are asked for; the Done is in front of them.
	miss(1)
	miss(2)
	miss(3)
	n.Control(0)
	n.Control(0)
	n.Control(0)
	n.Control(0)
	out := func(pt int) api.Message {
		return packets(api.Out, api.Packet{0, pt, 0, 0, 0, 1}, api.Packet{0, pt, 0, 0, 0, 2})
	}
	wantDown(t, n, 0, api.Message{Kind: api.Add, Rule: tableOf(t, p, 0)[1]}, packets(api.Barrier), out(1), out(2), out(3))
	for i := 1; i < 7; i++ {
		wantErrno(t, "Take of a Barrier, or behind it", n.Take(0, i), api.ErrIndex)
	}
	n.Take(0, 0)
	wantErrno(t, "Take behind a Barrier that is the first", n.Take(0, 1), api.ErrIndex)
	wantErrno(t, "Take behind a Barrier that is the first", n.Take(0, 3), api.ErrIndex)
	n.Take(0, 0)
	wantDown(t, n, 0, out(1), out(2), out(3))
	wantErrno(t, "Take of the third", n.Take(0, 2), api.OK)
	wantDown(t, n, 0, out(1), out(2))
	wantErrno(t, "Take of a third that is none", n.Take(0, 2), api.ErrIndex)
	wantErrno(t, "Take of the second", n.Take(0, 1), api.OK)
	wantErrno(t, "Take of the first", n.Take(0, 0), api.OK)
	wantErrno(t, "Take of none", n.Take(0, 0), api.ErrIndex)
	wantDelivered(t, n, api.Packet{0, 3, 0, 0, 0, 1}, api.Packet{0, 3, 0, 0, 0, 2}, api.Packet{0, 2, 0, 0, 0, 1}, api.Packet{0, 2, 0, 0, 0, 2}, api.Packet{0, 1, 0, 0, 0, 1}, api.Packet{0, 1, 0, 0, 0, 2})
}

// TestBarrierBehindOut has messages ahead of an Add and its Barrier.
func TestBarrierBehindOut(t *testing.T) {
	p := compiled(t, "pt=1;pt:=2 + pt=2;pt:=3 + pt=3;pt:=4")
	table := tableOf(t, p, 0)
	start := func() *Network {
		n := networkOf(t, p, api.Config{Switches: 1, Room: 9})
		n.Take(0, 0)
		n.Send(0, 5, api.Packet{})
		n.Send(0, 3, api.Packet{})
		n.Do(0)
		n.Do(0)
		n.Control(0)
		n.Control(0)
		n.Take(0, 0)
		n.Control(0)
		wantDown(t, n, 0, packets(api.Out), packets(api.Out, api.Packet{0, 4}), api.Message{Kind: api.Add, Rule: table[1]}, packets(api.Barrier))
		return n
	}
	for _, order := range [][]int{{0, 0, 0, 0}, {0, 1, 0, 0}, {1, 0, 0, 0}, {1, 1, 0, 0}, {2, 0, 0, 0}, {2, 1, 0, 0}} {
		n := start()
		for _, i := range order {
			l, _ := n.Down(0)
			wantErrno(t, "Take of a Barrier that is not the first", n.Take(0, max(len(l)-1, 1)), api.ErrIndex)
			wantErrno(t, "Take ahead of a Barrier", n.Take(0, i), api.OK)
		}
		wantDown(t, n, 0)
		wantUp(t, n, 0, packets(api.Done))
		wantRules(t, n, 0, table[:2])
		wantDelivered(t, n, api.Packet{0, 4})
	}
}

func TestPacketsWaitInOrder(t *testing.T) {
	n := ready(t, "pt:=7", api.Config{Switches: 2, Room: 9, Links: []api.Link{{From: 1, FromPort: 7, To: 0, ToPort: 5}}})
	wantErrno(t, "Send", n.Send(0, 1, api.Packet{9, 9, 1}), api.OK)
	wantErrno(t, "Send", n.Send(1, 2, api.Packet{31, 31, 2, 31, 31, 31}), api.OK)
	wantErrno(t, "Do", n.Do(1), api.OK)
	wantErrno(t, "Send", n.Send(0, 3, api.Packet{0, 0, 3}), api.OK)
	wantWaiting(t, n, 0, api.Packet{0, 1, 1}, api.Packet{0, 5, 2, 31, 31, 31}, api.Packet{0, 3, 3})
	wantWaiting(t, n, 1)
	for range 3 {
		wantErrno(t, "Do", n.Do(0), api.OK)
	}
	wantErrno(t, "Do where none waits", n.Do(0), api.ErrIndex)
	wantErrno(t, "Do where none waits", n.Do(1), api.ErrIndex)
	wantDelivered(t, n, api.Packet{0, 7, 1}, api.Packet{0, 7, 2, 31, 31, 31}, api.Packet{0, 7, 3})
}

func TestPorts(t *testing.T) {
	links := []api.Link{{From: 0, FromPort: 0, To: 1, ToPort: 7}, {From: 1, FromPort: 7, To: 1, ToPort: 7 - 1}, {From: 1, FromPort: 3, To: 1, ToPort: 3}}
	c := api.Config{Switches: 2, Room: 99, Links: links}
	host := func(sw, pt int) bool {
		return pt >= 0 && pt <= 7 && [2]int{sw, pt} != [2]int{0, 0} && [2]int{sw, pt} != [2]int{1, 7} && [2]int{sw, pt} != [2]int{1, 6} && [2]int{sw, pt} != [2]int{1, 3}
	}
	for sw := range 2 {
		for _, pt := range []int{-1 << 63, -1, 0, 1, 2, 3, 4, 5, 6, 7, 8, 31, 1<<63 - 1} {
			n := ready(t, "drop", c)
			want := api.ErrPort
			if host(sw, pt) {
				want = api.OK
			}
			wantErrno(t, fmt.Sprint("Send at ", sw, " ", pt), n.Send(sw, pt, api.Packet{}), want)
			if want == api.OK {
				wantWaiting(t, n, sw, api.Packet{sw, pt})
			}
			if pt < 0 || pt > api.MaxValue {
				continue
			}
			n = ready(t, "tag:=1;pt:="+fmt.Sprint(pt), c)
			n.Send(sw, 2, api.Packet{})
			n.Do(sw)
			if host(sw, pt) {
				wantDelivered(t, n, api.Packet{sw, pt, 0, 0, 0, 1})
			} else {
				wantDelivered(t, n)
			}
			for i := range links {
				if links[i].From == sw && links[i].FromPort == pt {
					wantWaiting(t, n, links[i].To, api.Packet{links[i].To, links[i].ToPort, 0, 0, 0, 1})
				}
			}
		}
	}
}

func TestCrowd(t *testing.T) {
	c := api.Config{Switches: 3, Room: 99, Links: []api.Link{{From: 0, FromPort: 1, To: 1, ToPort: 1}, {From: 0, FromPort: 2, To: 2, ToPort: 2}}}
	n := ready(t, "sw=0;pt=0;(pt:=1 + pt:=2 + pt:=3) + sw=0;pt=4;pt:=1;(tag:=1 + tag:=2) + sw=0;pt=5 + sw=2;pt:=7", c)
	send := func(sw, pt, times int) {
		t.Helper()
		for range times {
			wantErrno(t, "Send", n.Send(sw, pt, api.Packet{}), api.OK)
		}
	}
	send(0, 0, 1)
	send(0, 4, 1)
	send(0, 5, 1)
	send(1, 3, 150)
	send(2, 4, api.MaxUnder-153)
	for sw := range 3 {
		wantErrno(t, "Send in a crowd", n.Send(sw, 3, api.Packet{}), api.ErrMany)
	}
	before := look(n, 3)
	wantErrno(t, "Send of no packet in a crowd", n.Send(0, 3, api.Packet{0, 0, 0, 0, 0, 32}), api.ErrPacket)
	wantErrno(t, "Send at no port in a crowd", n.Send(0, 1, api.Packet{}), api.ErrPort)
	if look(n, 3) != before {
		t.Errorf("P1: a Send that is refused changes something")
	}
	// The packet that is done waits no more, so that one has room, the first in order; what goes to a host needs none.
	wantErrno(t, "Do", n.Do(0), api.OK)
	if l, _ := n.Waiting(1); len(l) != 151 || l[150] != (api.Packet{1, 1}) {
		t.Errorf("P7: Waiting(1): %d packets", len(l))
	}
	if l, _ := n.Waiting(2); len(l) != api.MaxUnder-153 {
		t.Errorf("P7: Waiting(2): %d packets", len(l))
	}
	wantDelivered(t, n, api.Packet{0, 3})
	wantErrno(t, "Send in a crowd", n.Send(0, 3, api.Packet{}), api.ErrMany)
	wantErrno(t, "Do", n.Do(0), api.OK)
	if l, _ := n.Waiting(1); len(l) != 152 || l[151] != (api.Packet{1, 1, 0, 0, 0, 1}) {
		t.Errorf("P7: Waiting(1): %d packets", len(l))
	}
	wantErrno(t, "Do", n.Do(0), api.OK)
	wantDelivered(t, n, api.Packet{0, 3}, api.Packet{0, 5})
	wantErrno(t, "Send", n.Send(0, 3, api.Packet{}), api.OK)
	wantErrno(t, "Send in a crowd", n.Send(0, 3, api.Packet{}), api.ErrMany)
	for range 300 {
		n.Do(1)
		n.Do(2)
	}
	send(0, 3, api.MaxUnder-1)
	wantErrno(t, "Send in a crowd", n.Send(2, 4, api.Packet{}), api.ErrMany)
}

// TestCrowdOfOut has packets of an Out that come into a crowd; those of a Miss don't wait.
func TestCrowdOfOut(t *testing.T) {
	c := api.Config{Switches: 2, Links: []api.Link{{From: 0, FromPort: 1, To: 1, ToPort: 1}}}
	n := networkOf(t, compiled(t, "pt:=1;(tag:=5 + tag:=3 + tag:=4)"), c)
	n.Send(0, 0, api.Packet{})
	n.Do(0)
	for range api.MaxUnder - 2 {
		wantErrno(t, "Send", n.Send(1, 0, api.Packet{}), api.OK)
	}
	n.Control(0)
	n.Take(0, 0)
	n.Take(0, 0)
	out := packets(api.Out, api.Packet{0, 1, 0, 0, 0, 3}, api.Packet{0, 1, 0, 0, 0, 4}, api.Packet{0, 1, 0, 0, 0, 5})
	wantDown(t, n, 0, out)
	n.Take(0, 0)
	l, _ := n.Waiting(1)
	if len(l) != api.MaxUnder || l[298] != (api.Packet{1, 1, 0, 0, 0, 3}) || l[299] != (api.Packet{1, 1, 0, 0, 0, 4}) {
		t.Errorf("P7: %d packets wait", len(l))
	}
	wantErrno(t, "Send in a crowd", n.Send(0, 0, api.Packet{}), api.ErrMany)
}

func TestSettings(t *testing.T) {
	p := compiled(t, "pt=1")
	var none *Policy
	link := func(from, fromPort, to, toPort int) api.Link {
		return api.Link{From: from, FromPort: fromPort, To: to, ToPort: toPort}
	}
	for _, c := range []api.Config{
		{Switches: 1}, {Switches: 6}, {Switches: 1, Room: 5000}, {Switches: 1, Links: []api.Link{}},
		{Switches: 1, Links: []api.Link{link(0, 7, 0, 0)}},
		{Switches: 1, Links: []api.Link{link(0, 3, 0, 3)}},
		{Switches: 6, Links: []api.Link{link(5, 7, 5, 0), link(5, 0, 5, 7), link(0, 0, 0, 1), link(0, 1, 0, 0), link(0, 2, 0, 2)}},
		{Switches: 3, Links: []api.Link{link(1, 2, 2, 1), link(2, 1, 1, 2), link(1, 1, 2, 2), link(2, 2, 1, 1)}},
	} {
		networkOf(t, p, c)
		if n, e := none.New(c); n != nil || e != api.ErrNil {
			t.Errorf("P1: New(%v) of a policy that is nil: %v, %d", c, n, e)
		}
	}
	wrong := []api.Config{
		{Switches: 2, Links: []api.Link{link(0, 1, 1, 2), link(0, 1, 1, 3)}},
		{Switches: 2, Links: []api.Link{link(0, 1, 1, 2), link(1, 1, 1, 2)}},
		{Switches: 2, Links: []api.Link{link(0, 1, 1, 2), link(0, 2, 1, 3), link(0, 3, 1, 4), link(0, 1, 1, 5)}},
		{Switches: 2, Links: []api.Link{link(0, 1, 1, 2), link(0, 2, 1, 3), link(0, 3, 1, 4), link(1, 5, 1, 3)}},
		{Switches: 2, Links: []api.Link{link(0, 1, 1, 2), link(0, 1, 1, 2)}},
		{Switches: 1, Links: make([]api.Link, 100000)},
	}
	for _, v := range []int{-1 << 63, -1, 0, 7, 1<<63 - 1} {
		wrong = append(wrong, api.Config{Switches: v})
	}
	for _, v := range []int{-1 << 63, -1, 5001, 1<<63 - 1} {
		wrong = append(wrong, api.Config{Switches: 1, Room: v})
	}
	for _, v := range []int{-1 << 63, -1, 2, 6, 1<<63 - 1} {
		wrong = append(wrong, api.Config{Switches: 2, Links: []api.Link{link(v, 0, 0, 0)}}, api.Config{Switches: 2, Links: []api.Link{link(0, 0, v, 0)}})
		wrong = append(wrong, api.Config{Switches: 2, Links: []api.Link{link(1, 1, 1, 1), link(0, 0, v, 0)}})
	}
	for _, v := range []int{-1 << 63, -1, 8, 31, 1<<63 - 1} {
		wrong = append(wrong, api.Config{Switches: 2, Links: []api.Link{link(0, v, 0, 0)}}, api.Config{Switches: 2, Links: []api.Link{link(0, 0, 0, v)}})
	}
	for _, c := range wrong {
		if n, e := p.New(c); n != nil || e != api.ErrNet {
			t.Errorf("P7: New(%.60v) = %v, %d, want %d", fmt.Sprint(c), n, e, api.ErrNet)
		}
		if n, e := none.New(c); n != nil || e != api.ErrNil {
			t.Errorf("P1: New(%.60v) of a policy that is nil: %v, %d", fmt.Sprint(c), n, e)
		}
	}
}

// wantRefused holds all calls that name a switch against an error that all of them have.
func wantRefused(t *testing.T, n *Network, sw int, want api.Errno) {
	t.Helper()
	down, a := n.Down(sw)
	up, b := n.Up(sw)
	waiting, c := n.Waiting(sw)
	rules, d := n.Rules(sw)
	if len(down)+len(up)+len(waiting)+len(rules) > 0 {
		t.Errorf("P1: a call that is refused tells %x, %x, %v, %v", down, up, waiting, rules)
	}
	list := []api.Errno{a, b, c, d, n.Do(sw), n.Control(sw)}
	for _, v := range []int{-1 << 63, -1, 0, 1, 99, 1<<63 - 1} {
		list = append(list, n.Take(sw, v), n.Send(sw, v, api.Packet{}), n.Send(sw, v, api.Packet{-1}))
	}
	for i, e := range list {
		if e != want {
			t.Errorf("P1: the call %d on the switch %d: %d, want %d", i, sw, e, want)
		}
	}
}

func TestNetworksThatAreNil(t *testing.T) {
	var n *Network
	for _, sw := range []int{-1 << 63, -1, 0, 1, 99, 1<<63 - 1} {
		wantRefused(t, n, sw, api.ErrNil)
	}
	if l, e := n.Delivered(); len(l) != 0 || e != api.ErrNil {
		t.Errorf("P1: Delivered = %v, %d", l, e)
	}
}

func TestWrongCallsChangeNothing(t *testing.T) {
	c := api.Config{Switches: 2, Room: 1, Links: []api.Link{{From: 0, FromPort: 1, To: 1, ToPort: 1}}}
	n := networkOf(t, compiled(t, "pt=0;(pt:=1 + pt:=2)"), c)
	empty := look(n, 2)
	wantErrno(t, "Do where none waits", n.Do(0), api.ErrIndex)
	wantErrno(t, "Control where nothing is", n.Control(0), api.ErrIndex)
	if look(n, 2) != empty {
		t.Errorf("P1: Do and Control change something though there is nothing")
	}
	for range 3 {
		n.Send(0, 0, api.Packet{})
	}
	n.Do(0)
	n.Control(0)
	n.Take(0, 0)
	n.Do(0)
	before := look(n, 2)
	for _, sw := range []int{-1 << 63, -1, 2, 6, 31, 1<<63 - 1} {
		wantRefused(t, n, sw, api.ErrSwitch)
	}
	for _, i := range []int{-1 << 63, -1, 1, 2, 3, 1<<63 - 1} {
		wantErrno(t, "Take", n.Take(0, i), api.ErrIndex)
		wantErrno(t, "Send", n.Send(0, []int{-1, 1, 8}[(i%3+3)%3], api.Packet{-1}), api.ErrPort)
	}
	for f := range api.Fields {
		for _, v := range []int{-1 << 63, -1, 32, 1<<63 - 1} {
			k := api.Packet{}
			k[f] = v
			wantErrno(t, "Send of no packet", n.Send(0, 0, k), api.ErrPacket)
		}
	}
	if look(n, 2) != before {
		t.Errorf("P1: calls that are refused change something:\n%s\n%s", before, look(n, 2))
	}
}

// spoilRules writes into all of a table, its spare room too.
func spoilRules(l []api.Rule) {
	l = l[:cap(l)]
	for i := range l {
		spoil(l[i].Actions)
		l[i] = api.Rule{Priority: 77}
	}
}

func TestNetworksKeepToThemselves(t *testing.T) {
	links := []api.Link{{From: 0, FromPort: 1, To: 1, ToPort: 1}, {From: 1, FromPort: 2, To: 0, ToPort: 2}}
	p := compiled(t, "pt=0;(pt:=1 + pt:=3 + pt:=4) + pt=1;(pt:=2 + pt:=5)")
	n := networkOf(t, p, api.Config{Switches: 2, Room: 2, Links: links})
	twin := networkOf(t, p, api.Config{Switches: 2, Room: 2, Links: slices.Clone(links)})
	other := networkOf(t, p, api.Config{Switches: 2, Room: 2, Links: links})
	untouched := look(other, 2)
	for i := range links {
		links[i] = api.Link{From: 5, FromPort: 5, To: 5, ToPort: 5}
	}
	r := rand.New(rand.NewSource(11))
	for range 2000 {
		sw, pt, i := r.Intn(2), r.Intn(8), r.Intn(3)
		k := api.Packet{api.Tag: r.Intn(2)}
		var a, b api.Errno
		switch r.Intn(5) {
		case 0:
			a, b = n.Send(sw, pt, k), twin.Send(sw, pt, k)
		case 1, 2:
			a, b = n.Take(sw, i), twin.Take(sw, i)
		case 3:
			a, b = n.Do(sw), twin.Do(sw)
		default:
			a, b = n.Control(sw), twin.Control(sw)
		}
		if a != b || look(n, 2) != look(twin, 2) {
			t.Fatalf("P2: two networks of one policy answer %d, %d and are\n%s\n%s", a, b, look(n, 2), look(twin, 2))
		}
		spoilAnswers(n, sw)
	}
	if look(other, 2) != untouched {
		t.Errorf("P2: what is done with one network changes another")
	}
}

// spoilAnswers changes all that a network tells.
func spoilAnswers(n *Network, sw int) {
	down, _ := n.Down(sw)
	up, _ := n.Up(sw)
	for _, l := range [][]string{down[:cap(down)], up[:cap(up)]} {
		for i := range l {
			l[i] = "spoilt"
		}
	}
	waiting, _ := n.Waiting(sw)
	spoil(waiting)
	delivered, _ := n.Delivered()
	spoil(delivered)
	rules, _ := n.Rules(sw)
	spoilRules(rules)
}

func TestRulesShareNothing(t *testing.T) {
	n := ready(t, "(pt=1 + pt=2 + pt=3);(tag:=1 + tag:=2 + tag:=3)", api.Config{Switches: 1, Room: 9})
	want, _ := n.Rules(0)
	l, _ := n.Rules(0)
	for i := range l {
		spoil(l[i].Actions)
		for j := i + 1; j < len(l); j++ {
			if !slices.Equal(l[j].Actions, want[j].Actions) {
				t.Errorf("P2: the rules %d and %d share memory", i, j)
			}
		}
	}
}

// TestAnswersStay has answers that later steps must leave as they are.
func TestAnswersStay(t *testing.T) {
	n := networkOf(t, compiled(t, "pt=0;pt:=1 + pt=2"), api.Config{Switches: 1, Room: 9})
	for _, pt := range []int{0, 2, 0, 2, 3} {
		n.Send(0, pt, api.Packet{})
	}
	n.Do(0)
	n.Do(0)
	n.Control(0)
	type told struct {
		down, up           []string
		waiting, delivered []api.Packet
		rules              []api.Rule
	}
	tell := func() told {
		var x told
		x.down, _ = n.Down(0)
		x.up, _ = n.Up(0)
		x.waiting, _ = n.Waiting(0)
		x.delivered, _ = n.Delivered()
		x.rules, _ = n.Rules(0)
		return x
	}
	r := rand.New(rand.NewSource(12))
	for range 60 {
		x := tell()
		before := fmt.Sprint(x)
		n.Take(0, r.Intn(2))
		n.Take(0, 0)
		n.Do(0)
		n.Control(0)
		n.Send(0, r.Intn(4), api.Packet{})
		if fmt.Sprint(x) != before {
			t.Fatalf("P2: a later step changes an answer from %s to %v", before, x)
		}
	}
}

func TestPolicyServesManyAtOnce(t *testing.T) {
	text := "(pt=0;pt:=1 + tag=1;tag:=2;src:=3)*;!(pt=0;dst=1)"
	p := compiled(t, text)
	c := api.Config{Switches: 2, Room: 5, Links: []api.Link{{From: 0, FromPort: 1, To: 1, ToPort: 0}}}
	answers := make([]string, 16)
	var group sync.WaitGroup
	for i := range answers {
		group.Go(func() {
			n, _ := p.New(c)
			n.Send(0, 0, api.Packet{0, 0, 0, 0, 0, 1})
			n.Do(0)
			n.Control(0)
			settle(rand.New(rand.NewSource(13)), n, 2)
			answers[i] = look(n, 2)
		})
	}
	group.Wait()
	for _, s := range answers {
		if s != answers[0] {
			t.Errorf("P2: two networks come to\n%s\n%s", s, answers[0])
		}
	}
}

func TestManyRules(t *testing.T) {
	p := compiled(t, "(pt=0+typ=0);(pt=1+src=0)+(src=1+dst=0);(dst=1+tag=0)+(tag=1+pt=1);(pt=2+typ=2)+(src=2+dst=2);(tag=2+pt=3)")
	table := tableOf(t, p, 1)
	r := rand.New(rand.NewSource(18))
	for _, room := range []int{100, len(table) - 1, len(table), len(table) + 1, api.MaxRules} {
		n := networkOf(t, p, api.Config{Switches: 2, Room: room})
		if len(table) < 150 || !settle(r, n, 2) {
			t.Fatalf("P9: of %d rules it never ends", len(table))
		}
		wantRules(t, n, 1, table[:min(room, len(table))])
		wantDown(t, n, 1)
		wantUp(t, n, 1)
	}
}

// TestManyPackets has a policy that makes nearly as many packets of one as a policy can: all of them are told in one message.
func TestManyPackets(t *testing.T) {
	p := compiled(t, "(pt:=1+pt:=2+pt:=3+pt:=4);(id+typ:=1+typ:=2+typ:=3);(id+src:=1+src:=2+src:=3);(id+dst:=1+dst:=2+dst:=3);(id+tag:=1+tag:=2+tag:=3)")
	want := evaluated(t, p, api.Packet{})
	n := networkOf(t, p, api.Config{Switches: 1})
	n.Send(0, 0, api.Packet{})
	n.Do(0)
	n.Control(0)
	n.Take(0, 0)
	n.Take(0, 0)
	wantDown(t, n, 0, packets(api.Out, want...))
	wantErrno(t, "Take", n.Take(0, 0), api.OK)
	if len(want) != 1024 {
		t.Errorf("P4: %d packets", len(want))
	}
	wantDelivered(t, n, want...)
}

// TestUse is the example of README.md.
func TestUse(t *testing.T) {
	p := compiled(t, "pt=1;pt:=2 + pt=1;tag:=7;pt:=3")
	n := networkOf(t, p, api.Config{Switches: 2, Links: []api.Link{{From: 0, FromPort: 2, To: 1, ToPort: 0}}, Room: 10})
	for i, e := range []api.Errno{n.Send(0, 1, api.Packet{}), n.Do(0), n.Control(0), n.Take(0, 0), n.Take(0, 0), n.Take(0, 0)} {
		if e != api.OK {
			t.Errorf("P7: the step %d answers %d", i, e)
		}
	}
	wantWaiting(t, n, 1, api.Packet{1})
	wantDelivered(t, n, api.Packet{0, 3, 0, 0, 0, 7})
}

// TestExampleOfWays follows a packet through three switches, over the tables and over the controller.
func TestExampleOfWays(t *testing.T) {
	c := api.Config{Switches: 3, Room: 1, Links: []api.Link{{From: 0, FromPort: 1, To: 1, ToPort: 0}, {From: 1, FromPort: 1, To: 2, ToPort: 0}, {From: 2, FromPort: 1, To: 2, ToPort: 5}}}
	text := "pt=0;pt:=1 + pt=5;pt:=6;tag:=9"
	r := rand.New(rand.NewSource(14))
	for range 50 {
		n := networkOf(t, compiled(t, text), c)
		wantErrno(t, "Send", n.Send(0, 7, api.Packet{}), api.OK)
		wantErrno(t, "Send", n.Send(0, 0, api.Packet{0, 0, 4}), api.OK)
		if !settle(r, n, 3) {
			t.Fatal("P9: it never ends")
		}
		wantDelivered(t, n, api.Packet{2, 6, 4, 0, 0, 9})
	}
}
