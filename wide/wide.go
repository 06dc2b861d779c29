// Package wide is layer 1: see shared/doc/01-wide.md.
package wide

import (
	"math"
	"math/bits"

	"relievo/api"
)

// Of: the number itself.
func Of(n int) api.Wide {
	wide := int64(n)
	return api.Wide{Hi: wide >> 63, Lo: uint64(wide)}
}

// Int: a number of 64 bits.
func Int(a api.Wide) (int, bool) {
	n := int(a.Lo)
	if Of(n) != a {
		return 0, false
	}
	return n, true
}

// Add: the sum.
func Add(a, b api.Wide) (api.Wide, bool) {
	lo, carry := bits.Add64(a.Lo, b.Lo, 0)
	high, _ := bits.Add64(uint64(a.Hi), uint64(b.Hi), carry)
	hi := int64(high)
	// The sum went round just if its sign is neither of the two signs.
	if negative((a.Hi ^ hi) & (b.Hi ^ hi)) {
		return api.Wide{}, false
	}
	return api.Wide{Hi: hi, Lo: lo}, true
}

// Neg: the number with the other sign.
func Neg(a api.Wide) (api.Wide, bool) {
	// The least number alone has no other one across from it.
	if a == (api.Wide{Hi: math.MinInt64}) {
		return api.Wide{}, false
	}
	lo, borrow := bits.Sub64(0, a.Lo, 0)
	hi, _ := bits.Sub64(0, uint64(a.Hi), borrow)
	return api.Wide{Hi: int64(hi), Lo: lo}, true
}

// Cmp: is one below, at or above the other?
func Cmp(a, b api.Wide) int {
	if a == b {
		return 0
	}
	if a.Hi < b.Hi || a.Hi == b.Hi && a.Lo < b.Lo {
		return -1
	}
	return 1
}

// Mul: the product.
func Mul(a, b int) api.Wide {
	x, y := int64(a), int64(b)
	hi, lo := bits.Mul64(uint64(x), uint64(y))
	// Read without a sign, a number below 0 is 2^64 too great, so that the
	// product has the other factor once too often in its upper half.
	hi -= uint64(x>>63&y) + uint64(y>>63&x)
	return api.Wide{Hi: int64(hi), Lo: lo}
}

// Div: how often d goes into a, and what is left.
func Div(a api.Wide, d int) (api.Wide, int, bool) {
	if d < 1 {
		return api.Wide{}, 0, false
	}
	by := uint64(d)
	// All bits of a number below 0 are turned ahead, and those of the quotient
	// behind: -1 - a becomes -1 - q, which rounds down, and fits for each a.
	turn := a.Hi >> 63
	high := uint64(a.Hi ^ turn)
	hi := high / by
	lo, left := bits.Div64(high%by, a.Lo^uint64(turn), by)
	if turn != 0 {
		left = by - 1 - left
	}
	return api.Wide{Hi: int64(hi) ^ turn, Lo: lo ^ uint64(turn)}, int(left), true
}

// Sqrt: the square root, whole.
func Sqrt(a api.Wide) (int, bool) {
	// From 2^126 on the root has more than 63 bits; below 0 there is none.
	if a.Hi>>62 != 0 {
		return 0, false
	}
	root := 0
	for bit := (width(a)+1)/2 - 1; bit >= 0; bit-- {
		more := root | 1<<bit
		if Cmp(Mul(more, more), a) <= 0 {
			root = more
		}
	}
	return root, true
}

// Order: is one fraction below, at or above the other?
func Order(p, q api.Frac) (int, bool) {
	if !fraction(p) || !fraction(q) {
		return 0, false
	}
	// The products are right for 1/0 too: it is above all others, and at itself.
	return Cmp(Mul(p.N, q.D), Mul(q.N, p.D)), true
}

// fraction: is it one that api tells?
func fraction(f api.Frac) bool {
	return f.D > 0 || f == api.Frac{N: 1}
}

// negative: is it below 0?
func negative(n int64) bool {
	return uint64(n)>>63 != 0
}

// width: how many bits a number has that isn't below 0.
func width(a api.Wide) int {
	if a.Hi != 0 {
		return 64 + bits.Len64(uint64(a.Hi))
	}
	return bits.Len64(a.Lo)
}
