package curve

import "adit/field"

// No step here branches on a bit: it is one of a private key.

// curveNumber is (486662 - 2) / 4, of the curve y^2 = x^3 + 486662 x^2 + x.
const curveNumber = 121665

// rungs are two points that lie the point u apart, each a fraction: x by z and v by w.
type rungs struct {
	x, z, v, w [32]byte
}

func bitOf(k [32]byte, place int) byte { return k[place/8] >> (place % 8) & 1 }

func (r rungs) step(bit byte, point [32]byte) rungs {
	return r.swapped(bit).climbed(point).swapped(bit)
}

// climbed doubles the first point and adds it to the second one, so that they still lie u apart.
func (r rungs) climbed(point [32]byte) rungs {
	a, b := field.Add(r.x, r.z), field.Sub(r.x, r.z)
	c, d := field.Add(r.v, r.w), field.Sub(r.v, r.w)
	aa, bb := field.Mul(a, a), field.Mul(b, b)
	da, cb := field.Mul(d, a), field.Mul(c, b)
	e := field.Sub(aa, bb)
	sum, rest := field.Add(da, cb), field.Sub(da, cb)
	return rungs{
		x: field.Mul(aa, bb),
		z: field.Mul(e, field.Add(aa, field.Mul(field.Of(curveNumber), e))),
		v: field.Mul(sum, sum),
		w: field.Mul(point, rest, rest),
	}
}

func (r rungs) swapped(bit byte) rungs {
	r.x, r.v = swap(bit, r.x, r.v)
	r.z, r.w = swap(bit, r.z, r.w)
	return r
}

// swap is both, in the other order if the bit is 1.
func swap(bit byte, a, b [32]byte) ([32]byte, [32]byte) {
	mask := -bit
	for i := range 32 {
		differ := mask & (a[i] ^ b[i])
		a[i] ^= differ
		b[i] ^= differ
	}
	return a, b
}
