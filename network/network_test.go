package network

import (
	"slices"
	"testing"

	"weft/api"
	"weft/flow"
	"weft/read"
	"weft/tables"
)

func link(from, fromPort, to, toPort int) api.Link {
	return api.Link{From: from, FromPort: fromPort, To: to, ToPort: toPort}
}

func made(t *testing.T, text string, c api.Config) *Network {
	t.Helper()
	tree, e, at := read.Policy(text)
	if e != api.OK {
		t.Fatalf("%q: %d at %d", text, e, at)
	}
	f := flow.New(tree)
	n := New(c, f, tables.NewMaker(tree, f))
	return &n
}

func TestRight(t *testing.T) {
	for _, c := range []struct {
		config api.Config
		want   bool
	}{
		{api.Config{Switches: 1}, true},
		{api.Config{Switches: api.MaxSwitch, Room: api.MaxRules}, true},
		{api.Config{}, false},
		{api.Config{Switches: api.MaxSwitch + 1}, false},
		{api.Config{Switches: 1, Room: -1}, false},
		{api.Config{Switches: 1, Room: api.MaxRules + 1}, false},
		{api.Config{Switches: 2, Links: []api.Link{link(0, 0, 1, 7), link(1, 7, 0, 0), link(0, 1, 0, 1)}}, true},
		{api.Config{Switches: 2, Links: []api.Link{link(0, 0, 1, 7), link(1, 1, 1, 1), link(0, 0, 0, 0)}}, false},
		{api.Config{Switches: 2, Links: []api.Link{link(0, 0, 1, 7), link(1, 1, 1, 1), link(0, 1, 1, 7)}}, false},
		{api.Config{Switches: 2, Links: []api.Link{link(2, 0, 0, 0)}}, false},
		{api.Config{Switches: 2, Links: []api.Link{link(0, 8, 0, 0)}}, false},
		{api.Config{Switches: 2, Links: []api.Link{link(0, 0, -1, 0)}}, false},
		{api.Config{Switches: 2, Links: []api.Link{link(0, 0, 0, -1)}}, false},
	} {
		if Right(c.config) != c.want {
			t.Errorf("Right(%v) = %v", c.config, !c.want)
		}
	}
}

func TestHosts(t *testing.T) {
	l := links{link(0, 1, 1, 2), link(1, 3, 1, 4)}
	for sw := range 2 {
		for pt := -1; pt <= api.MaxPorts; pt++ {
			port := [2]int{sw, pt}
			want := pt >= 0 && pt < api.MaxPorts && !slices.Contains([][2]int{{0, 1}, {1, 2}, {1, 3}, {1, 4}}, port)
			if l.host(sw, pt) != want {
				t.Errorf("host(%d, %d) = %v", sw, pt, !want)
			}
		}
	}
	if x, begins := l.from(1, 3); !begins || x != link(1, 3, 1, 4) {
		t.Errorf("from(1, 3) = %v, %v", x, begins)
	}
	if x, begins := l.from(1, 2); begins || x != (api.Link{}) {
		t.Errorf("from(1, 2) = %v, %v, though a link only ends there", x, begins)
	}
}

func TestTakeOut(t *testing.T) {
	for i := range 4 {
		list := []int{0, 1, 2, 3}
		if x := takeOut(&list, i); x != i || !slices.Equal(list, slices.Delete([]int{0, 1, 2, 3}, i, i+1)) {
			t.Errorf("takeOut of %d tells %d and leaves %v", i, x, list)
		}
	}
}

func TestMayTake(t *testing.T) {
	var d device
	for _, kind := range []int{api.Out, api.Out, api.Barrier, api.Out, api.Barrier} {
		d.send(api.Message{Kind: kind})
	}
	may := func() []int {
		var list []int
		for i := -2; i < 8; i++ {
			if d.mayTake(i) {
				list = append(list, i)
			}
		}
		return list
	}
	for _, want := range [][]int{{0, 1}, {0}, {0}, {0}, {0}, nil} {
		if l := may(); !slices.Equal(l, want) {
			t.Errorf("with %x the messages %v may be taken, want %v", d.down, l, want)
		}
		if len(d.down) > 0 {
			taken(&d.down, 0)
		}
	}
}

func TestSteps(t *testing.T) {
	n := made(t, "pt=0;(pt:=1 + pt:=2)", api.Config{Switches: 2, Room: 1, Links: []api.Link{link(0, 1, 1, 0)}})
	if !n.Has(0) || !n.Has(1) || n.Has(2) || n.Has(-1) {
		t.Errorf("the switches are others than 0 and 1")
	}
	for i, e := range []api.Errno{n.Do(0), n.Control(0), n.Take(0, 1), n.Send(0, 1, api.Packet{}), n.Send(1, 0, api.Packet{-1})} {
		if want := []api.Errno{api.ErrIndex, api.ErrIndex, api.ErrIndex, api.ErrPort, api.ErrPort}[i]; e != want {
			t.Errorf("the step %d answers %d, want %d", i, e, want)
		}
	}
	for i, e := range []api.Errno{n.Send(0, 0, api.Packet{}), n.Do(0), n.Take(0, 0), n.Control(0), n.Take(0, 0), n.Take(0, 0), n.Do(1), n.Control(1)} {
		if e != api.OK {
			t.Errorf("the step %d answers %d", i, e)
		}
	}
	if l := n.Delivered(); !slices.Equal(l, []api.Packet{{0, 2}}) {
		t.Errorf("delivered is %v", l)
	}
	if l := n.Down(1); len(l) != 3 {
		t.Errorf("the messages to switch 1 are %x", l)
	}
	if l := n.Rules(0); len(l) != 1 || l[0].Match[api.Pt] != 0 || len(l[0].Actions) != 2 {
		t.Errorf("the rules of switch 0 are %v", l)
	}
	if l := n.Up(0); !slices.Equal(l, []string{"\x03\x00\x00"}) {
		t.Errorf("the messages of switch 0 are %x", l)
	}
	if l := n.Waiting(1); len(l) != 0 {
		t.Errorf("%v wait at switch 1", l)
	}
}
