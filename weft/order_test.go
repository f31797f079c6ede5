package weft

import (
	"math/rand"
	"slices"
	"testing"

	"weft/api"
)

// pairOf is a network and the same by the document's words.
type pairOf struct {
	n *Network
	w *world
}

func randomPair(t *testing.T, r *rand.Rand) pairOf {
	t.Helper()
	m, text := netPolicy(r)
	c := randomConfig(r)
	p := compiled(t, text)
	var tables [][]api.Rule
	for sw := range c.Switches {
		tables = append(tables, tableOf(t, p, sw))
	}
	return pairOf{networkOf(t, p, c), newWorld(m, c, tables)}
}

// step does one of the calls with both, and tells whether they answer the same.
func (x pairOf) step(r *rand.Rand, what int) bool {
	sw := r.Intn(x.w.config.Switches)
	if r.Intn(40) == 0 {
		sw = []int{-1, x.w.config.Switches, 6}[r.Intn(3)]
	}
	switch what {
	case 0:
		pt, k := r.Intn(9)-r.Intn(2), somePackets(r)[0]
		if r.Intn(20) == 0 {
			k[r.Intn(api.Fields)] = []int{-1, 32}[r.Intn(2)]
		}
		return x.n.Send(sw, pt, k) == x.w.send(sw, pt, k)
	case 1:
		i := max(r.Intn(8)-4, -1)
		return x.n.Take(sw, i) == x.w.take(sw, i)
	case 2:
		return x.n.Do(sw) == x.w.do(sw)
	}
	return x.n.Control(sw) == x.w.control(sw)
}

// wantSame holds all that is to be seen of the one against the other.
func (x pairOf) wantSame(t *testing.T) {
	t.Helper()
	for sw := range x.w.config.Switches {
		wantDown(t, x.n, sw, x.w.down[sw]...)
		wantUp(t, x.n, sw, x.w.up[sw]...)
		wantWaiting(t, x.n, sw, x.w.waiting[sw]...)
		wantRules(t, x.n, sw, x.w.rules[sw])
	}
	wantDelivered(t, x.n, x.w.delivered...)
}

func TestRandomNetworks(t *testing.T) {
	r := rand.New(rand.NewSource(15))
	delivered, asked, full := 0, 0, 0
	for range 600 {
		x := randomPair(t, r)
		x.wantSame(t)
		likely := [][]int{{0, 1, 2, 3}, {0, 1, 1, 2, 2, 3, 3}, {0, 0, 0, 2, 1, 3}, {1, 1, 3, 3, 2, 0}}[r.Intn(4)]
		for range 20 + r.Intn(280) {
			if !x.step(r, likely[r.Intn(len(likely))]) {
				t.Errorf("P7: a call answers another number")
			}
			if r.Intn(8) == 0 || t.Failed() {
				x.wantSame(t)
			}
			if t.Failed() {
				t.Fatalf("the settings are %v", x.w.config)
			}
		}
		x.wantSame(t)
		delivered += len(x.w.delivered)
		for sw := range x.w.config.Switches {
			if x.w.full[sw] {
				full++
			}
			asked += len(x.w.up[sw])
		}
	}
	if delivered < 2000 || asked < 1000 || full < 100 {
		t.Errorf("%d delivered, %d messages, %d switches without room: the networks try too little", delivered, asked, full)
	}
}

// TestRandomCrowds lets packets be many, so that some are lost on the way.
func TestRandomCrowds(t *testing.T) {
	r := rand.New(rand.NewSource(16))
	lost := 0
	for range 150 {
		x := randomPair(t, r)
		for step := range 1200 {
			what := 0
			if step > 1000 || x.w.under() == api.MaxUnder {
				what = r.Intn(4)
			}
			if !x.step(r, what) {
				t.Fatalf("P7: a call answers another number; the settings are %v", x.w.config)
			}
		}
		x.wantSame(t)
		lost += x.w.lost
	}
	if lost < 300 {
		t.Errorf("%d packets were lost only: the networks try too little", lost)
	}
}

// without takes packets out of a list, each as often as it is among them; false, if one is not there.
func without(list, some []api.Packet) ([]api.Packet, bool) {
	list = slices.Clone(list)
	for _, k := range some {
		i := slices.Index(list, k)
		if i < 0 {
			return nil, false
		}
		list = slices.Delete(list, i, i+1)
	}
	return list, true
}

func TestWhatComesOfIt(t *testing.T) {
	r := rand.New(rand.NewSource(17))
	ended, endless, came := 0, 0, 0
	for range 3000 {
		x := randomPair(t, r)
		var ever, all []api.Packet
		ends := true
		for range 60 {
			if r.Intn(8) > 0 {
				anyStep(r, x.n, x.w.config.Switches)
				continue
			}
			sw, pt, k := r.Intn(x.w.config.Switches), r.Intn(8), somePackets(r)[0]
			if x.n.Send(sw, pt, k) != api.OK {
				continue
			}
			k[0], k[1] = sw, pt
			ever = append(ever, x.w.everForth(k)...)
			more, end := x.w.bringForth(k, nil)
			all, ends = append(all, more...), ends && end
		}
		if !ends {
			endless++
			wantOnly(t, x, ever)
			continue
		}
		l, _ := x.n.Delivered()
		if _, ok := without(all, l); !ok {
			t.Fatalf("P8: %v was delivered, want no more than %v; the settings are %v", l, all, x.w.config)
		}
		if len(all) > 200 {
			continue // some may be lost for want of room
		}
		ended, came = ended+1, came+len(all)
		wantAll(t, r, x, all)
	}
	if ended < 500 || endless < 100 || came < 1000 {
		t.Errorf("%d ended, %d never end, %d were delivered: the networks try too little", ended, endless, came)
	}
}

func anyStep(r *rand.Rand, n *Network, switches int) {
	sw := r.Intn(switches)
	switch r.Intn(3) {
	case 0:
		n.Take(sw, r.Intn(3))
	case 1:
		n.Do(sw)
	default:
		n.Control(sw)
	}
}

func wantOnly(t *testing.T, x pairOf, ever []api.Packet) {
	t.Helper()
	l, _ := x.n.Delivered()
	for _, k := range l {
		if !slices.Contains(ever, k) {
			t.Fatalf("P8: %v was delivered, want some of %v only; the settings are %v", k, ever, x.w.config)
		}
	}
}

// wantAll does all that can be done, and holds what came of it against P9.
func wantAll(t *testing.T, r *rand.Rand, x pairOf, all []api.Packet) {
	t.Helper()
	if !settle(r, x.n, x.w.config.Switches) {
		t.Fatalf("P9: it never ends; the settings are %v", x.w.config)
	}
	l, _ := x.n.Delivered()
	if rest, ok := without(all, l); !ok || len(rest) > 0 {
		t.Fatalf("P9: %v was delivered, want %v; the settings are %v", l, all, x.w.config)
	}
	for sw, table := range x.w.tables {
		wantRules(t, x.n, sw, table[:min(len(table), x.w.config.Room)])
		wantDown(t, x.n, sw)
		wantUp(t, x.n, sw)
		wantWaiting(t, x.n, sw)
	}
}
