package noise

import (
	"adit/api"
	"adit/curve"
)

// The steps of the four calls of a handshake: they give up by panic.

func begin(own, peer, ephemeral [32]byte, stamp [12]byte, index uint32) (string, api.Hand) {
	e, key := curve.Public(ephemeral), curve.Public(own)
	s := beginning(peer)
	s.ephemeralIn(e)
	secretInto(s.keyIn, ephemeral, peer)
	boxedKey := s.seal(string(key[:]))
	secretInto(s.keyIn, own, peer)
	boxedStamp := s.seal(string(stamp[:]))
	message := initiation{index: index, ephemeral: e, key: boxedKey, stamp: boxedStamp}
	return message.text(), api.Hand{Hash: s.hash, Chain: s.chain, Own: ephemeral, Peer: peer, Local: index}
}

func accept(own [32]byte, message string) (api.Hand, [12]byte) {
	m := initiationOf(message)
	s := beginning(curve.Public(own))
	s.ephemeralIn(m.ephemeral)
	secretInto(s.keyIn, own, m.ephemeral)
	peer := keyAt(s.open(m.key), 0)
	secretInto(s.keyIn, own, peer)
	stamp := [12]byte([]byte(s.open(m.stamp)))
	return api.Hand{Hash: s.hash, Chain: s.chain, Remote: m.ephemeral, Peer: peer, Far: m.index}, stamp
}

func answer(h api.Hand, shared, ephemeral [32]byte, index uint32) (string, api.Pair) {
	e := curve.Public(ephemeral)
	s := goingOn(h)
	s.ephemeralIn(e)
	secretInto(s.chainIn, ephemeral, h.Remote)
	secretInto(s.chainIn, ephemeral, h.Peer)
	s.shareIn(shared)
	message := response{index: index, other: h.Far, ephemeral: e, box: s.seal("")}
	first, second := s.ends()
	return message.text(), api.Pair{Send: second, Recv: first, Local: index, Far: h.Far}
}

func finish(own [32]byte, h api.Hand, shared [32]byte, message string) api.Pair {
	m := responseOf(message)
	need(m.other == h.Local, api.ErrIndex)
	s := goingOn(h)
	s.ephemeralIn(m.ephemeral)
	secretInto(s.chainIn, h.Own, m.ephemeral)
	secretInto(s.chainIn, own, m.ephemeral)
	s.shareIn(shared)
	s.open(m.box)
	first, second := s.ends()
	return api.Pair{Send: first, Recv: second, Local: h.Local, Far: m.index}
}
