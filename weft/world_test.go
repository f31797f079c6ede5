package weft

import (
	"math/rand"
	"slices"

	"weft/api"
)

// world is a network by the document's words, whatever the program does: its lists hold messages, not bytes, and of what the policy says it asks a model.
type world struct {
	policy    model
	config    api.Config
	tables    [][]api.Rule
	next      []int // how many rules the controller has sent
	full      []bool
	rules     [][]api.Rule
	waiting   [][]api.Packet
	down, up  [][]api.Message
	delivered []api.Packet
	lost      int // for want of room
}

func newWorld(m model, c api.Config, tables [][]api.Rule) *world {
	s := c.Switches
	w := &world{policy: m, config: c, tables: tables, next: make([]int, s), full: make([]bool, s), rules: make([][]api.Rule, s), waiting: make([][]api.Packet, s), down: make([][]api.Message, s), up: make([][]api.Message, s)}
	for sw := range s {
		w.sendNext(sw)
	}
	return w
}

func (w *world) sendNext(sw int) {
	if w.full[sw] || w.next[sw] == len(w.tables[sw]) {
		return
	}
	w.down[sw] = append(w.down[sw], api.Message{Kind: api.Add, Rule: w.tables[sw][w.next[sw]]}, packets(api.Barrier))
	w.next[sw]++
}

func (w *world) under() int {
	count := 0
	for _, l := range w.waiting {
		count += len(l)
	}
	return count
}

// at tells of a port whether a link begins there, where it ends, and whether it is a host's.
func (w *world) at(sw, pt int) (begins bool, to, toPort int, host bool) {
	host = pt >= 0 && pt <= 7
	for _, l := range w.config.Links {
		if l.From == sw && l.FromPort == pt {
			begins, to, toPort, host = true, l.To, l.ToPort, false
		}
		if l.To == sw && l.ToPort == pt {
			host = false
		}
	}
	return begins, to, toPort, host
}

func (w *world) send(sw, pt int, k api.Packet) api.Errno {
	if sw < 0 || sw >= w.config.Switches {
		return api.ErrSwitch
	}
	if _, _, _, host := w.at(sw, pt); !host {
		return api.ErrPort
	}
	for _, v := range k {
		if v < 0 || v > 31 {
			return api.ErrPacket
		}
	}
	if w.under() >= 300 {
		return api.ErrMany
	}
	k[0], k[1] = sw, pt
	w.waiting[sw] = append(w.waiting[sw], k)
	return api.OK
}

func (w *world) take(sw, i int) api.Errno {
	if sw < 0 || sw >= w.config.Switches {
		return api.ErrSwitch
	}
	if i < 0 || i >= len(w.down[sw]) {
		return api.ErrIndex
	}
	m := w.down[sw][i]
	for _, ahead := range w.down[sw][:i] {
		if ahead.Kind == api.Barrier || m.Kind == api.Barrier {
			return api.ErrIndex
		}
	}
	w.down[sw] = slices.Concat(w.down[sw][:i], w.down[sw][i+1:])
	switch {
	case m.Kind == api.Barrier:
		w.up[sw] = append(w.up[sw], packets(api.Done))
	case m.Kind == api.Out:
		w.out(sw, m.Packets)
	case len(w.rules[sw]) >= w.config.Room:
		w.up[sw] = append(w.up[sw], packets(api.Full))
	default:
		w.rules[sw] = append(w.rules[sw], m.Rule)
	}
	return api.OK
}

func (w *world) out(sw int, list []api.Packet) {
	for _, k := range list {
		begins, to, toPort, host := w.at(sw, k[1])
		switch {
		case begins && w.under() >= 300:
			w.lost++
		case begins:
			k[0], k[1] = to, toPort
			w.waiting[to] = append(w.waiting[to], k)
		case host:
			w.delivered = append(w.delivered, k)
		}
	}
}

func (w *world) do(sw int) api.Errno {
	if sw < 0 || sw >= w.config.Switches {
		return api.ErrSwitch
	}
	if len(w.waiting[sw]) == 0 {
		return api.ErrIndex
	}
	k := w.waiting[sw][0]
	w.waiting[sw] = w.waiting[sw][1:]
	made, rule := byWords(w.rules[sw], k)
	if rule < 0 {
		w.up[sw] = append(w.up[sw], packets(api.Miss, k))
	}
	w.out(sw, made)
	return api.OK
}

func (w *world) control(sw int) api.Errno {
	if sw < 0 || sw >= w.config.Switches {
		return api.ErrSwitch
	}
	if len(w.up[sw]) == 0 {
		return api.ErrIndex
	}
	m := w.up[sw][0]
	w.up[sw] = w.up[sw][1:]
	switch m.Kind {
	case api.Miss:
		w.down[sw] = append(w.down[sw], packets(api.Out, w.policy.eval(m.Packets)...))
	case api.Done:
		w.sendNext(sw)
	case api.Full:
		w.full[sw] = true
	}
	return api.OK
}

// bringForth tells what policy and links bring forth of a packet that waits, each as often as it is; false, if that never ends.
func (w *world) bringForth(k api.Packet, way []api.Packet) ([]api.Packet, bool) {
	if slices.Contains(way, k) || len(way) > 60 {
		return nil, false
	}
	way = append(slices.Clone(way), k)
	var list []api.Packet
	for _, x := range w.policy.eval([]api.Packet{k}) {
		begins, to, toPort, host := w.at(x[0], x[1])
		if host {
			list = append(list, x)
		}
		if begins {
			x[0], x[1] = to, toPort
			more, ends := w.bringForth(x, way)
			if !ends || len(list)+len(more) > 2000 {
				return nil, false
			}
			list = append(list, more...)
		}
	}
	return list, true
}

// everForth tells the set of packets that are ever delivered of one, also where that never ends.
func (w *world) everForth(k api.Packet) []api.Packet {
	var seen, list []api.Packet
	todo := []api.Packet{k}
	for len(todo) > 0 {
		k, todo = todo[0], todo[1:]
		if slices.Contains(seen, k) {
			continue
		}
		seen = append(seen, k)
		for _, x := range w.policy.eval([]api.Packet{k}) {
			begins, to, toPort, host := w.at(x[0], x[1])
			if host {
				list = append(list, x)
			}
			if begins {
				x[0], x[1] = to, toPort
				todo = append(todo, x)
			}
		}
	}
	return list
}

// randomConfig tells settings that may be, with the ports that random policies name on many links.
func randomConfig(r *rand.Rand) api.Config {
	c := api.Config{Switches: 1 + r.Intn(api.MaxSwitch), Room: []int{0, 1, 2, 3, 5, 9, api.MaxRules}[r.Intn(7)]}
	var starts, ends [][2]int
	for range r.Intn(12) {
		pt := func() int { return []int{0, 1, 2, 3, 7, r.Intn(8)}[r.Intn(6)] }
		start, end := [2]int{r.Intn(c.Switches), pt()}, [2]int{r.Intn(c.Switches), pt()}
		if slices.Contains(starts, start) || slices.Contains(ends, end) {
			continue
		}
		starts, ends = append(starts, start), append(ends, end)
		c.Links = append(c.Links, api.Link{From: start[0], FromPort: start[1], To: end[0], ToPort: end[1]})
	}
	return c
}

// routes tells a model that sends packets on: they are asked where they are, and go out at some ports.
func routes(r *rand.Rand) model {
	sum := model{op: "+"}
	for range 1 + r.Intn(2) {
		route := model{op: ";", parts: []model{goingOut(r)}}
		switch r.Intn(4) {
		case 0:
			route.parts = slices.Insert(route.parts, 0, model{op: "=", field: api.Sw, value: r.Intn(4)})
		case 1:
			route.parts = slices.Insert(route.parts, 0, model{op: "=", field: api.Pt, value: r.Intn(4)})
		case 2:
			test := (&maker{Rand: r}).test(0)
			route.parts = slices.Insert(route.parts, 0, model{op: "!", parts: []model{test}})
		}
		sum.parts = append(sum.parts, route)
	}
	return sum
}

// goingOut tells a model that makes a packet go out at two or three ports, some of which are none.
func goingOut(r *rand.Rand) model {
	sum := model{op: "+"}
	for range 2 + r.Intn(2) {
		part := model{op: ";", parts: []model{{op: ":=", field: api.Pt, value: r.Intn(9)}}}
		if r.Intn(2) == 0 {
			part.parts = append(part.parts, model{op: ":=", field: api.Tag, value: r.Intn(3)})
		}
		sum.parts = append(sum.parts, part)
	}
	return sum
}

// netPolicy tells a model for a network, and a text of it.
func netPolicy(r *rand.Rand) (model, string) {
	if r.Intn(4) > 0 {
		m := routes(r)
		return m, m.print()
	}
	m, text, _ := randomPolicy(r, false)
	return m, text
}
