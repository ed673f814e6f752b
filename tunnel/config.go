package tunnel

import (
	"adit/api"
	"adit/route"
)

const lastPort = 65535

// mayBe tells whether a configuration is within its bounds.
func mayBe(c api.TunnelConfig) bool {
	if c.MTU < api.MinMTU || c.MTU > api.MaxMTU || len(c.Peers) > api.MaxPeers {
		return false
	}
	for _, p := range c.Peers {
		if p.Known && !isEndpoint(p.Endpoint) {
			return false
		}
	}
	return true
}

// isEndpoint tells whether datagrams may go to an endpoint: an address may be, if a prefix of it may.
func isEndpoint(e api.Endpoint) bool {
	return route.IsPrefix(api.Prefix{Addr: e.Addr}) && e.Port >= 1 && e.Port <= lastPort
}

// hasTwice tells whether two ends, the own one among them, have one key.
func hasTwice(own [32]byte, peers []api.PeerConfig) bool {
	for n, p := range peers {
		if p.Public == own {
			return true
		}
		for _, ahead := range peers[:n] {
			if p.Public == ahead.Public {
				return true
			}
		}
	}
	return false
}

// routesOf is the table of all peers' prefixes.
func routesOf(peers []api.PeerConfig) (*route.Table[int], api.Errno) {
	routes := route.New[int]()
	for n, p := range peers {
		for _, allowed := range p.Allowed {
			if errno := give(routes, allowed, n); errno != api.OK {
				return nil, errno
			}
		}
	}
	return routes, api.OK
}

// give puts a prefix into the table, but never in the place of another peer's.
func give(routes *route.Table[int], p api.Prefix, n int) api.Errno {
	if !route.IsPrefix(p) {
		return api.ErrPrefix
	}
	for there, owner := range routes.All() {
		if there == route.Whole(p) && owner != n {
			return api.ErrTwice
		}
	}
	return routes.Put(p, n)
}
