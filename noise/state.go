package noise

import (
	"adit/aead"
	"adit/api"
	"adit/blake"
	"adit/curve"
)

const (
	nameOfShape = "Noise_IKpsk2_25519_ChaChaPoly_BLAKE2s"
	nameOfUse   = "adit 1"
)

// state is that of a handshake: its hash, its chain, and the key that was keyed in last.
type state struct {
	hash, chain, key [32]byte
}

// beginning is the state ahead of the first message to the owner of a key.
func beginning(answering [32]byte) *state {
	name := blake.Sum(nameOfShape)
	s := &state{hash: name, chain: name}
	s.mixIn(nameOfUse, string(answering[:]))
	return s
}

// goingOn is the state that a hand has kept.
func goingOn(h api.Hand) *state { return &state{hash: h.Hash, chain: h.Chain} }

// mixIn mixes pieces in one by one, so that no byte may move from one to another.
func (s *state) mixIn(pieces ...string) {
	for _, piece := range pieces {
		s.hash = blake.Sum(string(s.hash[:]), piece)
	}
}

func (s *state) chainIn(input string) { s.chain = s.keys(1, input)[0] }

func (s *state) keyIn(input string) {
	keys := s.keys(2, input)
	s.chain, s.key = keys[0], keys[1]
}

// shareIn is the step that only ends with the same shared key go alike.
func (s *state) shareIn(shared [32]byte) {
	keys := s.keys(3, string(shared[:]))
	s.chain, s.key = keys[0], keys[2]
	s.mixIn(string(keys[1][:]))
}

// ephemeralIn takes an ephemeral key, which both ends see.
func (s *state) ephemeralIn(e [32]byte) {
	s.chainIn(string(e[:]))
	s.mixIn(string(e[:]))
}

// keys are the next ones of the chain, so few that there is no error.
func (s *state) keys(n int, input string) [][32]byte {
	keys, _ := blake.Chain(n, s.chain, input)
	return keys
}

func (s *state) seal(text string) string {
	box := aead.Seal(s.key, aead.Nonce(0), text, string(s.hash[:]))
	s.mixIn(box)
	return box
}

func (s *state) open(box string) string {
	text, errno := aead.Open(s.key, aead.Nonce(0), box, string(s.hash[:]))
	need(errno == api.OK, errno)
	s.mixIn(box)
	return text
}

// ends are the two keys of a keypair; the end that began sends by the first one.
func (s *state) ends() (first, second [32]byte) {
	keys := s.keys(2, "")
	return keys[0], keys[1]
}

// secretInto hands the secret of a private key and a key to the step that takes it.
func secretInto(take func(string), mine, key [32]byte) {
	secret, there := curve.Shared(mine, key)
	need(there, api.ErrZero)
	take(string(secret[:]))
}

// need gives the call up by an error, unless something holds.
func need(holds bool, errno api.Errno) {
	if !holds {
		panic(errno)
	}
}

// attempt tells the error by which steps were given up.
func attempt(steps func()) (errno api.Errno) {
	defer func() {
		if reason := recover(); reason != nil {
			errno = reason.(api.Errno)
		}
	}()
	steps()
	return api.OK
}
