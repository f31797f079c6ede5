package weft

import (
	"math/rand"
	"slices"
	"strings"
	"sync"
	"testing"

	"weft/api"
)

func compiled(t *testing.T, text string) *Policy {
	t.Helper()
	p, e, at := Compile(text)
	if p == nil || e != api.OK || at != 0 {
		t.Fatalf("P4: Compile(%q) = %v, %d at %d", text, p, e, at)
	}
	return p
}

func evaluated(t *testing.T, p *Policy, k api.Packet) []api.Packet {
	t.Helper()
	l, e := p.Eval(k)
	if e != api.OK {
		t.Fatalf("P4: Eval(%v): %d", k, e)
	}
	return l
}

// somePackets tells packets with values that the models test and set, and others.
func somePackets(r *rand.Rand) []api.Packet {
	l := make([]api.Packet, 4)
	for i := range l {
		for f := range l[i] {
			l[i][f] = []int{0, 1, 2, 3, api.MaxValue}[r.Intn(5)]
		}
	}
	return l
}

func TestEvalExamples(t *testing.T) {
	p := compiled(t, "pt=1;pt:=2 + pt=1;tag:=7;pt:=3")
	if l := evaluated(t, p, api.Packet{0, 1}); !slices.Equal(l, []api.Packet{{0, 2}, {0, 3, 0, 0, 0, 7}}) {
		t.Errorf("P4: %v", l)
	}
	if l := evaluated(t, p, api.Packet{0, 5}); len(l) != 0 {
		t.Errorf("P4: %v", l)
	}
}

func TestEval(t *testing.T) {
	for _, c := range []struct {
		text string
		want []api.Packet
	}{
		{"id", []api.Packet{{1, 2, 3, 4, 5, 6}}},
		{"drop", nil},
		{"sw=1;pt=2;typ=3;src=4;dst=5;tag=6", []api.Packet{{1, 2, 3, 4, 5, 6}}},
		{"pt:=7;typ:=8;src:=9;dst:=10;tag:=11", []api.Packet{{1, 7, 8, 9, 10, 11}}},
		{"sw=2 + tag=5", nil},
		{"!sw=2;!tag=5", []api.Packet{{1, 2, 3, 4, 5, 6}}},
		{"!sw=1", nil},
		{"!!sw=1", []api.Packet{{1, 2, 3, 4, 5, 6}}},
		{"!(sw=1;tag=5)", []api.Packet{{1, 2, 3, 4, 5, 6}}},
		{"!(sw=2 + tag=6)", nil},
		{"tag:=9 + pt:=1 + tag:=7 + tag:=9", []api.Packet{{1, 1, 3, 4, 5, 6}, {1, 2, 3, 4, 5, 7}, {1, 2, 3, 4, 5, 9}}},
		{"tag:=6 + id", []api.Packet{{1, 2, 3, 4, 5, 6}}},
		{"(tag=6;tag:=5 + tag=5;tag:=4)*", []api.Packet{{1, 2, 3, 4, 5, 4}, {1, 2, 3, 4, 5, 5}, {1, 2, 3, 4, 5, 6}}},
		{"(tag=6;tag:=5 + tag=5;tag:=6)*;tag=5", []api.Packet{{1, 2, 3, 4, 5, 5}}},
		{"drop*", []api.Packet{{1, 2, 3, 4, 5, 6}}},
	} {
		if l := evaluated(t, compiled(t, c.text), api.Packet{1, 2, 3, 4, 5, 6}); !slices.Equal(l, c.want) {
			t.Errorf("P4: Eval of %q: %v, want %v", c.text, l, c.want)
		}
	}
}

func TestEvalOfWrongPackets(t *testing.T) {
	for _, text := range []string{"id", "drop", "pt=1;pt:=2"} {
		p := compiled(t, text)
		for f := range api.Fields {
			for _, v := range []int{-1 << 63, -1, api.MaxValue + 1, 1<<63 - 1} {
				k := api.Packet{}
				k[f] = v
				if l, e := p.Eval(k); len(l) != 0 || e != api.ErrPacket {
					t.Errorf("P4: Eval(%v) of %q = %v, %d, want %d", k, text, l, e, api.ErrPacket)
				}
			}
		}
	}
}

func TestEvalOfNil(t *testing.T) {
	var p *Policy
	for _, k := range []api.Packet{{}, {-1}} {
		if l, e := p.Eval(k); len(l) != 0 || e != api.ErrNil {
			t.Errorf("P1: Eval(%v) of a policy that is nil: %v, %d", k, l, e)
		}
	}
}

func TestRandomPolicies(t *testing.T) {
	r := rand.New(rand.NewSource(3))
	some := 0
	for range 4000 {
		m, text, _ := randomPolicy(r, false)
		wantPrint(t, text, m.print(), api.OK, 0)
		p := compiled(t, text)
		for _, k := range somePackets(r) {
			want := m.eval([]api.Packet{k})
			l := evaluated(t, p, k)
			if !slices.Equal(l, want) {
				t.Fatalf("P4: Eval(%v) of %q = %v, want %v", k, text, l, want)
			}
			if len(l) > 1 {
				some++
			}
		}
	}
	if some < 200 {
		t.Errorf("several packets were made %d times only: the policies try too little", some)
	}
}

func TestRandomNegations(t *testing.T) {
	r := rand.New(rand.NewSource(4))
	wrong := 0
	for range 4000 {
		m, text, at := randomPolicy(r, true)
		if at < 0 {
			wantPrint(t, text, m.print(), api.OK, 0)
			continue
		}
		wrong++
		wantPrint(t, text, "", api.ErrTest, at)
	}
	if wrong < 200 {
		t.Errorf("%d negations were wrong only: the policies try too little", wrong)
	}
}

// wantSame holds what is printed of a text against the text (P10).
func wantSame(t *testing.T, text string, packets []api.Packet) {
	t.Helper()
	s, e, _ := Print(text)
	if e != api.OK || len(s) > api.MaxText {
		return
	}
	wantPrint(t, s, s, api.OK, 0)
	p, q := compiled(t, text), compiled(t, s)
	for _, k := range packets {
		if a, b := evaluated(t, p, k), evaluated(t, q, k); !slices.Equal(a, b) {
			t.Fatalf("P10: Eval(%v) of %q is %v, of %q %v", k, text, a, s, b)
		}
	}
}

func TestPrintedAgain(t *testing.T) {
	r := rand.New(rand.NewSource(5))
	for range 4000 {
		_, text, _ := randomPolicy(r, false)
		wantSame(t, text, somePackets(r))
		wantSame(t, randomText(r), somePackets(r))
	}
	for _, text := range []string{
		times(api.MaxDeep, "(") + "pt=1" + times(api.MaxDeep, ")*"),
		times(api.MaxDeep, "!") + "pt=1",
		"id" + times(api.MaxText-2, "*"),
		times(5, "pt=1+pt:=2;") + "!(pt=1;!(typ=2 + (src=1;src=0)))",
		times(80, "id+") + "id",
	} {
		wantSame(t, text, somePackets(r))
	}
}

func TestPrintedTooLong(t *testing.T) {
	s, e, at := Print(times(100, "id+") + "id")
	if len(s) != 502 || e != api.OK || at != 0 {
		t.Fatalf("P3: %d bytes, %d at %d", len(s), e, at)
	}
	wantPrint(t, s, "", api.ErrLong, 0)
}

func TestAnswersAreNew(t *testing.T) {
	p := compiled(t, "tag:=1 + tag:=2 + tag:=3 + tag:=4 + tag:=5")
	first := evaluated(t, p, api.Packet{})
	want := slices.Clone(first)
	first = first[:cap(first)]
	for i := range first {
		first[i] = api.Packet{9, 9, 9, 9, 9, 9}
	}
	if l := evaluated(t, p, api.Packet{}); !slices.Equal(l, want) {
		t.Errorf("P2: Eval answers %v after its first answer was changed, want %v", l, want)
	}
	if first[0] != (api.Packet{9, 9, 9, 9, 9, 9}) {
		t.Errorf("P2: a later call changed an answer: %v", first)
	}
}

func TestAnswersHangOnNothingElse(t *testing.T) {
	text := "(pt=0;pt:=1 + tag:=2;src:=3)*;!pt=0"
	p, q := compiled(t, text), compiled(t, text)
	want := evaluated(t, p, api.Packet{})
	evaluated(t, compiled(t, "drop"), api.Packet{})
	evaluated(t, q, api.Packet{1, 2, 3, 4, 5, 6})
	q.Eval(api.Packet{-1})
	Print("sw:=1")
	var group sync.WaitGroup
	answers := make([][]api.Packet, 20)
	for i := range answers {
		group.Go(func() { answers[i], _ = []*Policy{p, q}[i%2].Eval(api.Packet{}) })
	}
	group.Wait()
	for _, l := range answers {
		if !slices.Equal(l, want) {
			t.Errorf("P2: Eval = %v, earlier %v", l, want)
		}
	}
}

func TestEvalEnds(t *testing.T) {
	sets := "pt:=1+pt:=2+pt:=3+typ:=1+typ:=2+typ:=3+src:=1+src:=2+src:=3+dst:=1+dst:=2+dst:=3+tag:=1+tag:=2+tag:=3+tag:=4"
	for _, text := range []string{
		"(" + sets + ")" + strings.Repeat("*", api.MaxText-len(sets)-2),
		strings.Repeat("(", api.MaxDeep) + sets + strings.Repeat(")*;id*", api.MaxDeep),
	} {
		if l := evaluated(t, compiled(t, text), api.Packet{}); len(l) != 4*4*4*4*5 {
			t.Errorf("P1: Eval of %q: %d packets, want %d", text, len(l), 4*4*4*4*5)
		}
	}
}
