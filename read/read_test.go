package read

import (
	"strings"
	"testing"

	"weft/api"
)

func TestPolicy(t *testing.T) {
	for _, c := range []struct{ text, want string }{
		{"id", "id"},
		{"pt=1+tag:=2;drop*", "pt=1 + tag:=2;drop*"},
		{"(pt=1+tag:=2);drop*", "(pt=1 + tag:=2);drop*"},
		{"!(sw=0;id)*", "!(sw=0;id)*"},
		{"pt=0;typ=9;src=10;dst:=30;tag:=31", "pt=0;typ=9;src=10;dst:=30;tag:=31"},
	} {
		n, e, at := Policy(c.text)
		if n == nil || e != api.OK || at != 0 {
			t.Errorf("Policy(%q) = %v, %d at %d", c.text, n, e, at)
			continue
		}
		if s := n.Text(); s != c.want {
			t.Errorf("Policy(%q) is %q, want %q", c.text, s, c.want)
		}
	}
}

func TestErrors(t *testing.T) {
	for _, c := range []struct {
		text string
		e    api.Errno
		at   int
	}{
		{strings.Repeat("(", api.MaxText+1), api.ErrLong, 0},
		{strings.Repeat("(", api.MaxText), api.ErrMany, api.MaxDeep},
		{strings.Repeat("id+", 16) + "pt=1 )", api.ErrSyntax, 53},
		{"!pt:=1;!(pt=32)", api.ErrNumber, 12},
		{"!(id;!id*);sw:=", api.ErrField, 11},
		{strings.Repeat("tag=1 +", 17), api.ErrMany, 112},
		{"!(!pt:=1;!(id;drop*))", api.ErrTest, 2},
	} {
		if n, e, at := Policy(c.text); n != nil || e != c.e || at != c.at {
			t.Errorf("Policy(%q) = %v, %d at %d, want %d at %d", c.text, n, e, at, c.e, c.at)
		}
	}
}

func TestValue(t *testing.T) {
	for _, c := range []struct {
		digits string
		want   int
	}{{"0", 0}, {"9", 9}, {"10", 10}, {"31", 31}, {"32", 32}, {"33", 32}, {"100", 32}, {strings.Repeat("9", 390), 32}} {
		if n := value(c.digits); n != c.want {
			t.Errorf("value(%q) = %d, want %d", c.digits, n, c.want)
		}
	}
}
