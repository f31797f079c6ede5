package weft

import (
	"math/rand"
	"slices"
	"strconv"
	"strings"
	"sync"
	"testing"

	"weft/api"
)

func tableOf(t *testing.T, p *Policy, sw int) []api.Rule {
	t.Helper()
	l, e := p.Table(sw)
	if e != api.OK {
		t.Fatalf("P5: Table(%d): %d", sw, e)
	}
	return l
}

// byWords does a packet by rules as the document has it: of those that match the one with the greatest priority. It tells the number of that rule, or -1.
func byWords(rules []api.Rule, k api.Packet) ([]api.Packet, int) {
	done := -1
	for i, r := range rules {
		if covers(r.Match, k) && (done < 0 || r.Priority > rules[done].Priority) {
			done = i
		}
	}
	if done < 0 {
		return nil, -1
	}
	var made []api.Packet
	for _, a := range rules[done].Actions {
		for f, v := range a {
			if v == api.Any || f == api.Sw {
				a[f] = k[f]
			}
		}
		made = union(made, []api.Packet{a})
	}
	return made, done
}

func covers(match, k api.Packet) bool {
	for f := 1; f < api.Fields; f++ {
		if match[f] != api.Any && match[f] != k[f] {
			return false
		}
	}
	return true
}

// wantForm holds a table against what P5 asks of every one, but for what it does.
func wantForm(t *testing.T, rules []api.Rule) {
	t.Helper()
	pattern := func(k api.Packet) {
		for f, v := range k {
			if v != api.Any && (f == api.Sw || v < 0 || v > api.MaxValue) {
				t.Errorf("P5: a match or an action is %v", k)
			}
		}
	}
	if len(rules) == 0 {
		t.Errorf("P5: a table without rules")
	}
	for i, r := range rules {
		if r.Priority != len(rules)-1-i {
			t.Errorf("P5: of %d rules the priority of rule %d is %d", len(rules), i, r.Priority)
		}
		pattern(r.Match)
		for _, a := range r.Actions {
			pattern(a)
		}
		if !slices.Equal(r.Actions, union(r.Actions, nil)) {
			t.Errorf("P5: the actions %v are not in order, each once", r.Actions)
		}
	}
}

// classes tells a packet for each choice of values that a table's matches name, or of another one, at random.
func classes(r *rand.Rand, rules []api.Rule, sw int) []api.Packet {
	list := []api.Packet{{api.Sw: sw}}
	for f := 1; f < api.Fields; f++ {
		var named, values []int
		for _, x := range rules {
			if v := x.Match[f]; v != api.Any && !slices.Contains(named, v) {
				named = append(named, v)
			}
		}
		values = append(values, named...)
		for _, v := range r.Perm(api.MaxValue + 1) {
			if !slices.Contains(named, v) {
				values = append(values, v)
				break
			}
		}
		var longer []api.Packet
		for _, k := range list {
			for _, v := range values {
				k[f] = v
				longer = append(longer, k)
			}
		}
		list = longer
	}
	return list
}

// wantTable holds a policy's table for a switch against what P5 asks; want tells what the policy makes of a packet.
func wantTable(t *testing.T, r *rand.Rand, p *Policy, sw int, want func(api.Packet) []api.Packet) {
	t.Helper()
	rules := tableOf(t, p, sw)
	wantForm(t, rules)
	reached := make([]bool, len(rules))
	packets := classes(r, rules, sw)
	for range 4 {
		packets = append(packets, somePackets(r)...)
	}
	for _, k := range packets {
		k[api.Sw] = sw
		made, i := byWords(rules, k)
		if i < 0 {
			t.Fatalf("P5: no rule matches %v", k)
		}
		if reached[i] && r.Intn(4) > 0 {
			continue
		}
		reached[i] = true
		asked := want(k)
		if !slices.Equal(made, asked) {
			t.Fatalf("P5: the rule %v makes %v of %v, want %v", rules[i], made, k, asked)
		}
		if l, hit := Lookup(rules, k); !slices.Equal(l, asked) || !hit {
			t.Fatalf("P5: Lookup(%v) = %v, %v, want %v", k, l, hit, asked)
		}
	}
	if i := slices.Index(reached, false); i >= 0 {
		t.Errorf("P5: the rule %v of %v can't be reached", rules[i], rules)
	}
}

func TestTableExample(t *testing.T) {
	rules := tableOf(t, compiled(t, "pt=1;pt:=2 + pt=1;tag:=7;pt:=3"), 0)
	want := []api.Rule{
		{Priority: 1, Match: api.Packet{-1, 1, -1, -1, -1, -1}, Actions: []api.Packet{{-1, 2, -1, -1, -1, -1}, {-1, 3, -1, -1, -1, 7}}},
		{Priority: 0, Match: api.Packet{-1, -1, -1, -1, -1, -1}},
	}
	if !slices.EqualFunc(rules, want, sameRule) {
		t.Errorf("P5: %v, want %v", rules, want)
	}
}

func sameRule(a, b api.Rule) bool {
	return a.Priority == b.Priority && a.Match == b.Match && slices.Equal(a.Actions, b.Actions)
}

func TestTablesOfRandomPolicies(t *testing.T) {
	r := rand.New(rand.NewSource(6))
	many := 0
	for range 1500 {
		m, text, _ := randomPolicy(r, false)
		p := compiled(t, text)
		for _, sw := range []int{r.Intn(3), 3 + r.Intn(api.MaxValue-2)} {
			wantTable(t, r, p, sw, func(k api.Packet) []api.Packet { return m.eval([]api.Packet{k}) })
			if len(tableOf(t, p, sw)) > 4 {
				many++
			}
		}
		if t.Failed() {
			t.Fatalf("the policy is %q", text)
		}
	}
	if many < 100 {
		t.Errorf("%d tables only had more than 4 rules: the policies try too little", many)
	}
}

// TestTablesOfEdges has policies that name many values, the greatest and the least ones, and those that other parts set.
func TestTablesOfEdges(t *testing.T) {
	r := rand.New(rand.NewSource(7))
	var tests, settings, all []string
	for i := range api.MaxAtoms {
		tests = append(tests, "dst="+strconv.Itoa(i))
		settings = append(settings, "dst:="+strconv.Itoa(2*i))
		all = append(all, fieldNames[1+i%5]+"="+strconv.Itoa(31-i/5))
	}
	for _, text := range []string{
		strings.Join(tests, "+"),
		"!(" + strings.Join(tests, "+") + ")",
		strings.Join(settings, "+"),
		strings.Join(all, "+"),
		"!(" + strings.Join(all[:5], "+") + ");!(" + strings.Join(all[5:10], ";") + ")",
		"pt=0;pt:=31 + pt=31;pt:=0 + !pt=0;!pt=31",
		"pt=1;typ=1 + !pt=1;typ=2",
		"pt=1;(src=1;tag=1 + !src=1;tag=2) + !pt=1;(src=1;tag=2 + !src=1;tag=1)",
		"(pt=0;pt:=1 + pt=1;pt:=2 + pt=2;pt:=3)*;(tag:=0 + tag:=31)",
		"id + pt:=0 + pt:=1 + typ:=0 + src:=0 + dst:=0 + tag:=0",
		"sw=31;pt=1 + sw=0;typ=1 + !sw=0;!sw=31;src=1",
		"(pt:=1 + id);(pt=1;tag:=1 + !pt=1;tag:=2)",
		"(tag=0;tag:=1;src:=1 + tag=1;tag:=2;dst:=1 + tag=2;tag:=0)*;!src=0",
	} {
		p := compiled(t, text)
		for _, sw := range []int{0, 1, 30, api.MaxValue} {
			wantTable(t, r, p, sw, func(k api.Packet) []api.Packet { return evaluated(t, p, k) })
		}
		if t.Failed() {
			t.Fatalf("the policy is %q", text)
		}
	}
}

// TestTableOfEveryPacket goes through all packets of a policy that changes two fields only.
func TestTableOfEveryPacket(t *testing.T) {
	p := compiled(t, "(pt=3;pt:=4 + tag=31;pt:=3 + pt=4;tag:=0)*;!(pt=3;tag=0)")
	rules := tableOf(t, p, 2)
	for pt := range api.MaxValue + 1 {
		for tag := range api.MaxValue + 1 {
			k := api.Packet{2, pt, 9, 9, 9, tag}
			want := evaluated(t, p, k)
			if l, hit := Lookup(rules, k); !slices.Equal(l, want) || !hit {
				t.Errorf("P5: Lookup(%v) = %v, %v, want %v", k, l, hit, want)
			}
		}
	}
}

func TestTableOfWrongSwitches(t *testing.T) {
	p := compiled(t, "sw=1;pt=1")
	var none *Policy
	for _, sw := range []int{-1 << 63, -1, api.MaxValue + 1, 1<<63 - 1} {
		if l, e := p.Table(sw); len(l) != 0 || e != api.ErrSwitch {
			t.Errorf("P5: Table(%d) = %v, %d", sw, l, e)
		}
		if l, e := none.Table(sw); len(l) != 0 || e != api.ErrNil {
			t.Errorf("P1: Table(%d) of a policy that is nil: %v, %d", sw, l, e)
		}
	}
	for _, sw := range []int{0, 1, api.MaxSwitch, api.MaxValue} {
		tableOf(t, p, sw)
		if l, e := none.Table(sw); len(l) != 0 || e != api.ErrNil {
			t.Errorf("P1: Table(%d) of a policy that is nil: %v, %d", sw, l, e)
		}
	}
}

// spoil writes into all of a list, its spare room too.
func spoil(l []api.Packet) {
	l = l[:cap(l)]
	for i := range l {
		l[i] = api.Packet{9, 9, 9, 9, 9, 9}
	}
}

func TestTablesAreNew(t *testing.T) {
	p := compiled(t, "(pt=1 + pt=2);(tag:=1 + tag:=2 + tag:=3) + src=1 + id")
	want := tableOf(t, p, 0)
	l := tableOf(t, p, 0)
	for i := range l {
		spoil(l[i].Actions)
		for j := i + 1; j < len(l); j++ {
			if !slices.Equal(l[j].Actions, want[j].Actions) {
				t.Errorf("P2: the rules %d and %d share memory", i, j)
			}
		}
	}
	l = l[:cap(l)]
	for i := range l {
		l[i] = api.Rule{Priority: 77}
	}
	if again := tableOf(t, p, 0); !slices.EqualFunc(again, want, sameRule) {
		t.Errorf("P2: Table answers %v after its first answer was changed, want %v", again, want)
	}
}

func TestTablesHangOnNothingElse(t *testing.T) {
	text := "(sw=1;pt=0;pt:=1 + tag=1;tag:=2;src:=3)*;!(pt=0;dst=1)"
	p, q := compiled(t, text), compiled(t, text)
	want := tableOf(t, p, 1)
	tableOf(t, q, 0)
	q.Table(-1)
	evaluated(t, q, api.Packet{1})
	tableOf(t, compiled(t, "drop"), 1)
	answers := make([][]api.Rule, 20)
	var group sync.WaitGroup
	for i := range answers {
		group.Go(func() { answers[i], _ = []*Policy{p, q}[i%2].Table(1) })
	}
	group.Wait()
	for _, l := range answers {
		if !slices.EqualFunc(l, want, sameRule) {
			t.Errorf("P2: Table = %v, earlier %v", l, want)
		}
	}
}

func TestTableEnds(t *testing.T) {
	tests := "pt=0+typ=0+src=0+dst=0+tag=0+pt=1+typ=1+src=1"
	settings := "pt:=2+typ:=2+src:=2+dst:=2+tag:=2+pt:=3+typ:=3+src:=3"
	text := strings.Repeat("(", api.MaxDeep-1) + "(" + settings + ")*;(" + tests + ")" + strings.Repeat(")*;id*", api.MaxDeep-1)
	rules := tableOf(t, compiled(t, text), 0)
	wantForm(t, rules)
	if l, hit := Lookup(rules, api.Packet{0, 9, 9, 9, 9, 9}); len(l) == 0 || !hit {
		t.Errorf("P5: Lookup = %v, %v", l, hit)
	}
}

func TestLookup(t *testing.T) {
	const any = api.Any
	all := api.Packet{any, any, any, any, any, any}
	rules := []api.Rule{
		{Priority: 0, Match: api.Packet{any, 1, any, 3, any, any}, Actions: []api.Packet{{any, 9, any, any, any, any}, all, {any, 9, any, any, any, any}, {any, any, any, 3, any, any}}},
		{Priority: 5, Match: api.Packet{7, any, 2, any, any, any}, Actions: []api.Packet{{3, any, any, 8, any, any}}},
		{Priority: 5, Match: api.Packet{any, 1, any, any, any, any}},
		{Priority: 9, Match: api.Packet{any, 1, any, any, any, any}, Actions: []api.Packet{all}},
		{Priority: -1, Match: api.Packet{any, -7, 99, any, any, any}, Actions: []api.Packet{{any, any, any, any, 1<<63 - 1, -2}, {any, any, any, any, -1 << 63, 0}}},
		{Match: api.Packet{any, any, any, 6, 6, 6}, Actions: []api.Packet{{5, 1, 2, 3, 4, 5}}},
	}
	for _, c := range []struct {
		k    api.Packet
		want []api.Packet
		hit  bool
	}{
		{api.Packet{0, 1, 0, 3}, []api.Packet{{0, 1, 0, 3}, {0, 9, 0, 3}}, true},
		{api.Packet{0, 1, 2, 3}, []api.Packet{{0, 1, 2, 3}, {0, 9, 2, 3}}, true},
		{api.Packet{5, 4, 2, 3}, []api.Packet{{5, 4, 2, 8}}, true},
		{api.Packet{-5, 400, 2}, []api.Packet{{-5, 400, 2, 8}}, true},
		{api.Packet{0, 1, 0, 4}, nil, true},
		{api.Packet{0, -7, 99, -1}, []api.Packet{{0, -7, 99, -1, -1 << 63, 0}, {0, -7, 99, -1, 1<<63 - 1, -2}}, true},
		{api.Packet{9, 0, 0, 6, 6, 6}, []api.Packet{{9, 1, 2, 3, 4, 5}}, true},
		{api.Packet{9, 0, 0, 6, 6, 5}, nil, false},
		{api.Packet{9, 0, 0, 6, 5, 6}, nil, false},
		{api.Packet{}, nil, false},
		{all, nil, false},
		{api.Packet{0, -7, 100}, nil, false},
		{api.Packet{0, -8, 99}, nil, false},
	} {
		if l, hit := Lookup(rules, c.k); !slices.Equal(l, c.want) || hit != c.hit {
			t.Errorf("P5: Lookup(%v) = %v, %v, want %v, %v", c.k, l, hit, c.want, c.hit)
		}
	}
	for _, none := range [][]api.Rule{nil, {}} {
		if l, hit := Lookup(none, api.Packet{}); len(l) != 0 || hit {
			t.Errorf("P5: Lookup in no rules: %v, %v", l, hit)
		}
	}
	if l, hit := Lookup([]api.Rule{{}}, api.Packet{3}); len(l) != 0 || !hit {
		t.Errorf("P5: Lookup in a rule that is zero: %v, %v", l, hit)
	}
}

func TestLookupLeavesRulesAlone(t *testing.T) {
	actions := []api.Packet{{-1, 9, -1, -1, -1, -1}, {-1, 3, -1, -1, -1, -1}, {8, 9, -1, -1, -1, -1}}
	before := slices.Clone(actions)
	rules := []api.Rule{{Match: api.Packet{}, Actions: actions}}
	l, _ := Lookup(rules, api.Packet{})
	if !slices.Equal(actions, before) {
		t.Errorf("P2: Lookup has changed actions to %v", actions)
	}
	spoil(l)
	if !slices.Equal(actions, before) {
		t.Errorf("P2: Lookup's answer shares memory with the actions")
	}
	want := []api.Packet{{0, 3}, {0, 9}}
	if l, _ := Lookup(rules, api.Packet{}); !slices.Equal(l, want) {
		t.Errorf("P5: Lookup = %v, want %v", l, want)
	}
}
