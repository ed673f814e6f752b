package tunnel

import (
	"adit/api"
	"adit/blake"
)

// load has when handshake messages came, the last one first: no more of them than make a load.
type load struct {
	times [api.LoadMany]int
	count int
}

func (l *load) came(now int) {
	copy(l.times[1:], l.times[:])
	l.times[0] = now
	l.count = min(l.count+1, api.LoadMany)
}

// heavy tells whether as many as make a load came of late: so it is if the oldest of them did.
func (l load) heavy(now int) bool {
	return l.count == api.LoadMany && l.times[api.LoadMany-1] > now-api.LoadSpan
}

// secret is what cookies are made by: another one after each CookieLife, so that none holds for long.
func (t *Tunnel) secret() [32]byte {
	return blake.Sum("secret", string(t.private[:]), lowestFirst(uint64(t.time/api.CookieLife), 8))
}
