package network

import (
	"slices"

	"weft/api"
)

// links are those of a network.
type links []api.Link

// Right tells whether a network may have these settings.
func Right(c api.Config) bool {
	if c.Switches < 1 || c.Switches > api.MaxSwitch || c.Room < 0 || c.Room > api.MaxRules {
		return false
	}
	for i, l := range c.Links {
		if !between(c.Switches, l) || links(c.Links[:i]).meet(l) {
			return false
		}
	}
	return true
}

// between tells whether a link leads from a port to a port of so many switches.
func between(switches int, l api.Link) bool {
	return isSwitch(switches, l.From) && isPort(l.FromPort) && isSwitch(switches, l.To) && isPort(l.ToPort)
}

func isSwitch(switches, sw int) bool { return sw >= 0 && sw < switches }

func isPort(pt int) bool { return pt >= 0 && pt < api.MaxPorts }

// meet tells whether one of the links begins where this one does, or ends where it does.
func (l links) meet(other api.Link) bool {
	_, begins := l.from(other.From, other.FromPort)
	return begins || l.end(other.To, other.ToPort)
}

// from tells the link that begins at a port, and whether one does.
func (l links) from(sw, pt int) (api.Link, bool) {
	for _, x := range l {
		if x.From == sw && x.FromPort == pt {
			return x, true
		}
	}
	return api.Link{}, false
}

// end tells whether a link ends at a port.
func (l links) end(sw, pt int) bool {
	return slices.ContainsFunc(l, func(x api.Link) bool { return x.To == sw && x.ToPort == pt })
}

// host tells whether this is a port, and a host's.
func (l links) host(sw, pt int) bool {
	_, begins := l.from(sw, pt)
	return isPort(pt) && !begins && !l.end(sw, pt)
}
