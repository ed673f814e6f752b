package route

import (
	"cmp"
	"iter"
	"slices"
	"strings"
	"testing"

	"adit/api"
)

// The tests hold the package against a plain model, which keeps a list of texts and goes by the chapter's words alone: a prefix is the text of its version and its bits, and has the addresses whose text begins so.

type row[T any] struct {
	text  string
	owner T
}

type model[T any] struct {
	rows []row[T]
}

// addrText is a 4 or a 6 and all bits of an address; no text for one that may not be.
func addrText(a api.Addr) string {
	text := []byte{'4'}
	if a.V6 {
		text[0] = '6'
	}
	for i, b := range a.B {
		switch {
		case a.V6 || i < 4:
			for at := range 8 {
				text = append(text, '0'+b<<at>>7)
			}
		case b != 0:
			return ""
		}
	}
	return string(text)
}

func prefixText(p api.Prefix) string {
	text := addrText(p.Addr)
	if text == "" || p.Bits < 0 || p.Bits > len(text)-1 {
		return ""
	}
	return text[:p.Bits+1]
}

// prefixOf is the whole prefix of a text.
func prefixOf(text string) api.Prefix {
	p := api.Prefix{Addr: api.Addr{V6: text[0] == '6'}, Bits: len(text) - 1}
	for i, digit := range text[1:] {
		if digit == '1' {
			p.Addr.B[i/8] |= 128 >> (i % 8)
		}
	}
	return p
}

func (m *model[T]) where(text string) int {
	return slices.IndexFunc(m.rows, func(r row[T]) bool { return r.text == text })
}

func (m *model[T]) put(p api.Prefix, owner T) api.Errno {
	text := prefixText(p)
	at := m.where(text)
	switch {
	case text == "":
		return api.ErrPrefix
	case at >= 0:
		m.rows[at].owner = owner
	case len(m.rows) == 64:
		return api.ErrFull
	default:
		m.rows = append(m.rows, row[T]{text, owner})
	}
	return api.OK
}

func (m *model[T]) drop(p api.Prefix) (owner T, ok bool) {
	at := m.where(prefixText(p))
	if at < 0 {
		return owner, false
	}
	owner = m.rows[at].owner
	m.rows = slices.Delete(m.rows, at, at+1)
	return owner, true
}

func (m *model[T]) find(a api.Addr) (owner T, p api.Prefix, ok bool) {
	text, longest := addrText(a), ""
	for _, r := range m.rows {
		if strings.HasPrefix(text, r.text) && len(r.text) > len(longest) {
			longest, owner, p, ok = r.text, r.owner, prefixOf(r.text), true
		}
	}
	return owner, p, ok
}

type told[T any] struct {
	prefix api.Prefix
	owner  T
}

func (m *model[T]) all() (all []told[T]) {
	for _, r := range m.rows {
		all = append(all, told[T]{prefixOf(r.text), r.owner})
	}
	slices.SortFunc(all, func(x, y told[T]) int {
		if x.prefix.Addr.V6 != y.prefix.Addr.V6 {
			if y.prefix.Addr.V6 {
				return -1
			}
			return 1
		}
		return cmp.Or(slices.Compare(x.prefix.Addr.B[:], y.prefix.Addr.B[:]), x.prefix.Bits-y.prefix.Bits)
	})
	return all
}

func collected[T any](seq iter.Seq2[api.Prefix, T]) (all []told[T]) {
	for p, owner := range seq {
		all = append(all, told[T]{p, owner})
	}
	return all
}

func check[V comparable](t *testing.T, what string, got, want V) {
	t.Helper()
	if got != want {
		t.Errorf("%s: %v, want %v", what, got, want)
	}
}

func checkList[T comparable](t *testing.T, what string, got, want []told[T]) {
	t.Helper()
	if !slices.Equal(got, want) {
		t.Errorf("%s: %v, want %v", what, got, want)
	}
}

func checkPut[T comparable](t *testing.T, x *Table[T], m *model[T], p api.Prefix, owner T) {
	t.Helper()
	if got, want := x.Put(p, owner), m.put(p, owner); got != want {
		t.Errorf("Put %v: %v, want %v", p, got, want)
	}
}

func checkDrop[T comparable](t *testing.T, x *Table[T], m *model[T], p api.Prefix) {
	t.Helper()
	owner, ok := x.Drop(p)
	wantOwner, wantOK := m.drop(p)
	if ok != wantOK || owner != wantOwner {
		t.Errorf("Drop %v: %v, %t, want %v, %t", p, owner, ok, wantOwner, wantOK)
	}
}

func checkFind[T comparable](t *testing.T, x *Table[T], m *model[T], a api.Addr) {
	t.Helper()
	owner, p, ok := x.Find(a)
	wantOwner, wantP, wantOK := m.find(a)
	if ok != wantOK || owner != wantOwner || p != wantP {
		t.Errorf("Find %v: %v by %v, %t, want %v by %v, %t", a, owner, p, ok, wantOwner, wantP, wantOK)
	}
}

// checkState holds all that a table tells against the model; addresses at and around the edges of its prefixes, and some others.
func checkState[T comparable](t *testing.T, x *Table[T], m *model[T], some ...api.Addr) {
	t.Helper()
	check(t, "Len", x.Len(), len(m.rows))
	checkList(t, "All", collected(x.All()), m.all())
	for _, r := range m.rows {
		for _, a := range edges(r.text) {
			checkFind(t, x, m, a)
		}
	}
	for _, a := range some {
		checkFind(t, x, m, a)
	}
}

// edges are the first and the last address of a prefix, and those with the prefix's last bit, or the one behind it, the other way.
func edges(text string) []api.Addr {
	size := 33
	if text[0] == '6' {
		size = 129
	}
	first := text + strings.Repeat("0", size-len(text))
	last := text + strings.Repeat("1", size-len(text))
	made := []api.Addr{prefixOf(first).Addr, prefixOf(last).Addr}
	for _, at := range []int{len(text) - 1, len(text)} {
		if at == 0 || at == size {
			continue
		}
		for _, whole := range []string{first, last} {
			turned := []byte(whole)
			turned[at] ^= 1
			made = append(made, prefixOf(string(turned)).Addr)
		}
	}
	return made
}

func addr4(b ...byte) (a api.Addr) {
	copy(a.B[:], b)
	return a
}

func addr6(b ...byte) api.Addr {
	a := addr4(b...)
	a.V6 = true
	return a
}

func prefix4(bits int, b ...byte) api.Prefix { return api.Prefix{Addr: addr4(b...), Bits: bits} }

func prefix6(bits int, b ...byte) api.Prefix { return api.Prefix{Addr: addr6(b...), Bits: bits} }

// full has 64 prefixes: the numbers 0 to 63 in the first byte, of both versions by turns.
func full() (*Table[int], *model[int]) {
	x, m := New[int](), &model[int]{}
	for i := range 64 {
		p := api.Prefix{Addr: api.Addr{V6: i%2 == 1, B: [16]byte{byte(i)}}, Bits: 8}
		x.Put(p, i+100)
		m.put(p, i+100)
	}
	return x, m
}
