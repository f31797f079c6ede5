package packet

import (
	"slices"
	"testing"

	"weft/api"
)

func TestRight(t *testing.T) {
	for f := range api.Fields {
		for _, c := range []struct {
			value int
			want  bool
		}{{-1 << 63, false}, {-1, false}, {0, true}, {1, true}, {api.MaxValue, true}, {api.MaxValue + 1, false}, {1<<63 - 1, false}} {
			k := api.Packet{}
			k[f] = c.value
			if Right(k) != c.want {
				t.Errorf("Right(%v) = %v, want %v", k, !c.want, c.want)
			}
		}
	}
}

func TestCompare(t *testing.T) {
	for _, c := range []struct {
		a, b api.Packet
		want int
	}{
		{api.Packet{}, api.Packet{}, 0},
		{api.Packet{0, 0, 0, 0, 0, 1}, api.Packet{0, 0, 0, 0, 0, 2}, -1},
		{api.Packet{1}, api.Packet{0, 9, 9, 9, 9, 9}, 1},
		{api.Packet{3, 2, 9}, api.Packet{3, 10, 0}, -1},
	} {
		if Compare(c.a, c.b) != c.want || Compare(c.b, c.a) != -c.want {
			t.Errorf("Compare(%v, %v) = %d, want %d", c.a, c.b, Compare(c.a, c.b), c.want)
		}
	}
}

func TestSet(t *testing.T) {
	for _, c := range []struct{ list, want []api.Packet }{
		{nil, nil},
		{[]api.Packet{{1}}, []api.Packet{{1}}},
		{[]api.Packet{{2}, {1, 5}, {2}, {-1 << 63}, {1, 4}, {2}, {1<<63 - 1}}, []api.Packet{{-1 << 63}, {1, 4}, {1, 5}, {2}, {1<<63 - 1}}},
	} {
		if l := Set(slices.Clone(c.list)); !slices.Equal(l, c.want) {
			t.Errorf("Set(%v) = %v, want %v", c.list, l, c.want)
		}
	}
}
