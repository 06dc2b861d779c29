package slab

import (
	"math"
	"math/big"
	"testing"

	"relievo/api"
)

const most, least = math.MaxInt64, math.MinInt64

// dice: numbers that look like any, the same at each run.
type dice uint64

// up: a number from -bound to bound.
func (r *dice) up(bound int) int {
	*r = *r*6364136223846793005 + 1442695040888963407
	return int(uint64(*r)>>33)%(2*bound+1) - bound
}

// point: one with its parts within a bound.
func (r *dice) point(bound int) api.V {
	return api.V{X: r.up(bound), Y: r.up(bound), Z: r.up(bound)}
}

// way: a direction within a bound.
func (r *dice) way(bound int) api.V {
	for {
		if d := r.point(bound); d != (api.V{}) {
			return d
		}
	}
}

// corner: a point with its parts at the ends of a bound, or near them.
func (r *dice) corner(bound int) api.V {
	part := func() int {
		n := bound - max(r.up(2), 0)
		if r.up(1) < 0 {
			return -n
		}
		return n
	}
	return api.V{X: part(), Y: part(), Z: part()}
}

// box: one whose corners are within a bound; now and then it has no points.
func (r *dice) box(bound int) api.Box {
	a, b := r.point(bound), r.point(bound)
	if r.up(5) == 5 {
		return api.Box{Lo: a, Hi: b}
	}
	return around(a, b)
}

// around: the least box that has both points.
func around(a, b api.V) api.Box {
	return api.Box{
		Lo: api.V{X: min(a.X, b.X), Y: min(a.Y, b.Y), Z: min(a.Z, b.Z)},
		Hi: api.V{X: max(a.X, b.X), Y: max(a.Y, b.Y), Z: max(a.Z, b.Z)},
	}
}

func parts(a api.V) [3]int { return [3]int{a.X, a.Y, a.Z} }

func rat(f api.Frac) *big.Rat { return big.NewRat(int64(f.N), int64(f.D)) }

// within: is the point of the ray at t in the box?
func within(o, d api.V, b api.Box, t *big.Rat) bool {
	from, step, lo, hi := parts(o), parts(d), parts(b.Lo), parts(b.Hi)
	for i := range 3 {
		p := new(big.Rat).Mul(t, big.NewRat(int64(step[i]), 1))
		p.Add(p, big.NewRat(int64(from[i]), 1))
		if p.Cmp(big.NewRat(int64(lo[i]), 1)) < 0 || p.Cmp(big.NewRat(int64(hi[i]), 1)) > 0 {
			return false
		}
	}
	return true
}

// crossings: the t at which a ray comes into the box, and at which it leaves,
// of each part that goes on, in the order of the parts.
func crossings(o, d api.V, b api.Box) (in, out []api.Frac) {
	from, step, lo, hi := parts(o), parts(d), parts(b.Lo), parts(b.Hi)
	for i, n := range step {
		if n > 0 {
			in = append(in, api.Frac{N: lo[i] - from[i], D: n})
			out = append(out, api.Frac{N: hi[i] - from[i], D: n})
		}
		if n < 0 {
			in = append(in, api.Frac{N: from[i] - hi[i], D: -n})
			out = append(out, api.Frac{N: from[i] - lo[i], D: -n})
		}
	}
	return in, out
}

// tried: what Range has to answer. A ray is within a box from one t to another,
// and both are 0 or a t at which a side is crossed: so all of these are tried,
// and it is asked of each, whether its point is in the box.
func tried(o, d api.V, b api.Box) (first, last api.Frac, ok bool) {
	in, out := crossings(o, d, b)
	all := append(append([]api.Frac{{D: 1}}, in...), out...)
	var lo, hi *big.Rat
	for _, f := range all {
		t := rat(f)
		if t.Sign() < 0 || !within(o, d, b, t) {
			continue
		}
		if lo == nil || t.Cmp(lo) < 0 {
			lo = t
		}
		if hi == nil || t.Cmp(hi) > 0 {
			hi = t
		}
	}
	if lo == nil {
		return api.Frac{}, api.Frac{}, false
	}
	told := func(list []api.Frac, t *big.Rat) api.Frac {
		for _, f := range list {
			if rat(f).Cmp(t) == 0 {
				return f
			}
		}
		return api.Frac{N: 1}
	}
	if lo.Sign() == 0 {
		return api.Frac{D: 1}, told(out, hi), true
	}
	return told(in, lo), told(out, hi), true
}

func TestRangeByHand(t *testing.T) { // P4.1
	box := api.Box{Lo: api.V{X: 3}, Hi: api.V{X: 5, Y: 1, Z: 1}}
	cube := api.Box{Lo: api.V{X: 2, Y: 2, Z: 2}, Hi: api.V{X: 6, Y: 6, Z: 6}}
	spot := api.Box{Lo: api.V{X: 4, Y: 4, Z: 4}, Hi: api.V{X: 4, Y: 4, Z: 4}}
	for i, c := range []struct {
		o, d        api.V
		b           api.Box
		first, last api.Frac
	}{
		{api.V{}, api.V{X: 2}, box, api.Frac{N: 3, D: 2}, api.Frac{N: 5, D: 2}},
		{api.V{X: 9}, api.V{X: -2}, box, api.Frac{N: 4, D: 2}, api.Frac{N: 6, D: 2}},
		{api.V{X: 4, Y: -6}, api.V{Y: 4}, box, api.Frac{N: 6, D: 4}, api.Frac{N: 7, D: 4}},
		{api.V{X: 4, Z: 9}, api.V{Z: -4}, box, api.Frac{N: 8, D: 4}, api.Frac{N: 9, D: 4}},
		// From within, from a side on: the least is 0/1, whatever the direction.
		{api.V{X: 4}, api.V{X: 7}, box, api.Frac{D: 1}, api.Frac{N: 1, D: 7}},
		{api.V{X: 4}, api.V{X: -7}, box, api.Frac{D: 1}, api.Frac{N: 1, D: 7}},
		{api.V{X: 3}, api.V{X: 7}, box, api.Frac{D: 1}, api.Frac{N: 2, D: 7}},
		{api.V{X: 5}, api.V{X: -7}, box, api.Frac{D: 1}, api.Frac{N: 2, D: 7}},
		// Away from a side: the greatest is 0 too, but with the part's D.
		{api.V{X: 5}, api.V{X: 7}, box, api.Frac{D: 1}, api.Frac{D: 7}},
		{api.V{X: 3}, api.V{X: -7}, box, api.Frac{D: 1}, api.Frac{D: 7}},
		{api.V{X: 4, Y: 1}, api.V{X: 3, Y: 9}, box, api.Frac{D: 1}, api.Frac{D: 9}},
		{api.V{X: 5, Y: 1, Z: 1}, api.V{X: 2, Y: 3, Z: 4}, box, api.Frac{D: 1}, api.Frac{D: 2}},
		{api.V{X: 4, Y: 1}, api.V{Y: 3, Z: -4}, box, api.Frac{D: 1}, api.Frac{D: 3}},
		// Along a side, along an edge.
		{api.V{Z: 1}, api.V{X: 2}, box, api.Frac{N: 3, D: 2}, api.Frac{N: 5, D: 2}},
		{api.V{Y: 1, Z: 1}, api.V{X: 2}, box, api.Frac{N: 3, D: 2}, api.Frac{N: 5, D: 2}},
		// The part that comes last, the part that leaves first, each of the three.
		{api.V{}, api.V{X: 1, Y: 2, Z: 2}, cube, api.Frac{N: 2, D: 1}, api.Frac{N: 6, D: 2}},
		{api.V{}, api.V{X: 2, Y: 1, Z: 2}, cube, api.Frac{N: 2, D: 1}, api.Frac{N: 6, D: 2}},
		{api.V{}, api.V{X: 2, Y: 2, Z: 1}, cube, api.Frac{N: 2, D: 1}, api.Frac{N: 6, D: 2}},
		{api.V{}, api.V{X: 3, Y: 2, Z: 2}, cube, api.Frac{N: 2, D: 2}, api.Frac{N: 6, D: 3}},
		{api.V{}, api.V{X: 2, Y: 3, Z: 2}, cube, api.Frac{N: 2, D: 2}, api.Frac{N: 6, D: 3}},
		{api.V{}, api.V{X: 2, Y: 2, Z: 3}, cube, api.Frac{N: 2, D: 2}, api.Frac{N: 6, D: 3}},
		{api.V{X: 4, Y: 9, Z: -9}, api.V{X: 1, Y: -3, Z: 6}, cube, api.Frac{N: 11, D: 6}, api.Frac{N: 2, D: 1}},
		// Of several that are equal the first one's D, of X, Y, Z.
		{api.V{Y: -2, Z: -4}, api.V{X: 1, Y: 2, Z: 3}, cube, api.Frac{N: 2, D: 1}, api.Frac{N: 10, D: 3}},
		{api.V{X: 3, Y: -2, Z: -4}, api.V{X: 1, Y: 2, Z: 3}, cube, api.Frac{N: 4, D: 2}, api.Frac{N: 3, D: 1}},
		{api.V{X: 4, Y: 2, Z: -2}, api.V{X: 1, Y: 2, Z: 4}, cube, api.Frac{N: 4, D: 4}, api.Frac{N: 2, D: 1}},
		{api.V{X: 4, Y: 2, Z: -4}, api.V{Y: 2, Z: 5}, cube, api.Frac{N: 6, D: 5}, api.Frac{N: 4, D: 2}},
		{api.V{X: 4, Y: 12, Z: -6}, api.V{Y: -3, Z: 4}, cube, api.Frac{N: 6, D: 3}, api.Frac{N: 12, D: 4}},
		{api.V{X: -2, Y: -2, Z: -2}, api.V{X: 4, Y: 4, Z: 4}, cube, api.Frac{N: 4, D: 4}, api.Frac{N: 8, D: 4}},
		// At an edge, at a corner, at a box of one point: one t, told twice.
		{api.V{Y: 4, Z: 4}, api.V{X: 1, Y: 1}, cube, api.Frac{N: 2, D: 1}, api.Frac{N: 2, D: 1}},
		{api.V{X: -4, Y: 3, Z: 4}, api.V{X: 6, Y: 3}, cube, api.Frac{N: 6, D: 6}, api.Frac{N: 3, D: 3}},
		{api.V{X: 4, Y: 10, Z: 10}, api.V{Y: -8, Z: -4}, cube, api.Frac{N: 4, D: 4}, api.Frac{N: 8, D: 8}},
		{api.V{X: 2, Y: 3}, api.V{X: 4, Y: 2, Z: 8}, spot, api.Frac{N: 2, D: 4}, api.Frac{N: 2, D: 4}},
		{api.V{X: 4, Y: 3, Z: 0}, api.V{Y: 2, Z: 8}, spot, api.Frac{N: 1, D: 2}, api.Frac{N: 1, D: 2}},
		{api.V{X: 4, Y: 4, Z: 4}, api.V{Z: -9}, spot, api.Frac{D: 1}, api.Frac{D: 9}},
		{api.V{X: 4, Y: 4, Z: 4}, api.V{X: 7, Z: -9}, spot, api.Frac{D: 1}, api.Frac{D: 7}},
	} {
		if first, last, ok, e := Range(c.o, c.d, c.b); first != c.first || last != c.last || !ok || e != api.OK {
			t.Error(i, first, last, ok, e)
		}
	}
}

func TestRangeBeside(t *testing.T) { // P4.1, P4.2
	cube := api.Box{Lo: api.V{X: 2, Y: 2, Z: 2}, Hi: api.V{X: 6, Y: 6, Z: 6}}
	for i, c := range []struct {
		o, d api.V
		b    api.Box
	}{
		// The box is behind the ray.
		{api.V{X: 7, Y: 4, Z: 4}, api.V{X: 1}, cube},
		{api.V{X: 1, Y: 4, Z: 4}, api.V{X: -1}, cube},
		{api.V{X: 4, Y: 7, Z: 4}, api.V{Y: 1}, cube},
		{api.V{X: 4, Y: 4, Z: 1}, api.V{Z: -1}, cube},
		{api.V{X: 8, Y: 8, Z: 8}, api.V{X: 1, Y: 1, Z: 1}, cube},
		// A part that stays is beside it.
		{api.V{X: 0, Y: 1, Z: 4}, api.V{X: 1}, cube},
		{api.V{X: 0, Y: 7, Z: 4}, api.V{X: 1}, cube},
		{api.V{X: 0, Y: 4, Z: 1}, api.V{X: 1}, cube},
		{api.V{X: 0, Y: 4, Z: 7}, api.V{X: 1}, cube},
		{api.V{X: 1, Y: 4, Z: 0}, api.V{Z: 1}, cube},
		{api.V{X: 7, Y: 0, Z: 0}, api.V{Y: 1, Z: 1}, cube},
		// It leaves in one part ahead of coming in in another.
		{api.V{}, api.V{X: 4, Y: 1, Z: 2}, cube},
		{api.V{}, api.V{X: 3, Y: 3, Z: 10}, cube},
		{api.V{X: 8}, api.V{X: -1, Y: 4, Z: 1}, cube},
		{api.V{X: 5, Y: 0, Z: 4}, api.V{X: 32768, Y: 32767}, cube},
		// Boxes without points, with the ray along, across, within their planes.
		{api.V{}, api.V{X: 1}, api.Box{Lo: api.V{X: 4}, Hi: api.V{X: 3}}},
		{api.V{}, api.V{X: -1}, api.Box{Lo: api.V{X: 4}, Hi: api.V{X: 3}}},
		{api.V{}, api.V{X: -1}, api.Box{Lo: api.V{X: -3}, Hi: api.V{X: -4}}},
		{api.V{}, api.V{X: 1}, api.Box{Lo: api.V{X: 1}, Hi: api.V{X: -1}}},
		{api.V{}, api.V{X: -1}, api.Box{Lo: api.V{X: 1}, Hi: api.V{X: -1}}},
		{api.V{}, api.V{X: 1}, api.Box{Lo: api.V{Y: 1}, Hi: api.V{X: 9}}},
		{api.V{Y: 1}, api.V{X: 1}, api.Box{Lo: api.V{Y: 1}, Hi: api.V{X: 9}}},
		{api.V{}, api.V{X: 1}, api.Box{Lo: api.V{Z: 1}, Hi: api.V{X: 9, Z: -1}}},
		{api.V{Z: 1}, api.V{X: 1}, api.Box{Lo: api.V{Z: 1}, Hi: api.V{X: 9, Z: -1}}},
		{api.V{}, api.V{X: 1, Y: 1, Z: 1}, api.Box{Lo: api.V{X: 1, Y: 1, Z: 1}}},
		{api.V{}, api.V{Y: 1}, api.Box{Lo: api.V{Y: 1}, Hi: api.V{X: 9, Z: 9}}},
	} {
		if first, last, ok, e := Range(c.o, c.d, c.b); first != (api.Frac{}) || last != (api.Frac{}) || ok || e != api.OK {
			t.Error(i, first, last, ok, e)
		}
	}
}

// TestRangeAll: small points, so that many rays go through edges and corners;
// any points; and points at the ends of the bounds.
func TestRangeAll(t *testing.T) { // P4.1, P4.2
	const far = 2 * api.MaxSpace
	var r dice
	hits := 0
	for i := range 24000 {
		o, d, b := r.point(3), r.way(2), r.box(3)
		switch i % 4 {
		case 1:
			o, d, b = r.corner(api.MaxSpace), r.corner(api.MaxDir), around(r.corner(far), r.corner(far))
		case 2:
			o, d, b = r.point(api.MaxSpace), r.way(api.MaxDir), r.box(far)
		}
		from, want, there := tried(o, d, b)
		first, last, ok, e := Range(o, d, b)
		if first != from || last != want || ok != there || e != api.OK {
			t.Fatal(o, d, b, first, last, ok, e, from, want, there)
		}
		if ok {
			hits++
		}
		// The direction isn't 0, and the box ends: each ray leaves it.
		if ok && (first.D < 1 || last.D < 1) {
			t.Fatal(o, d, b, first, last)
		}
	}
	if hits < 2000 {
		t.Error("too few are met for a test", hits)
	}
}

// TestBounds: what is at the ends of the bounds is reckoned, in each part.
func TestBounds(t *testing.T) { // P4.1
	const space, dir, far = api.MaxSpace, api.MaxDir, 2 * api.MaxSpace
	all := api.Box{Lo: api.V{X: -far, Y: -far, Z: -far}, Hi: api.V{X: far, Y: far, Z: far}}
	for i, c := range []struct {
		o, d        api.V
		b           api.Box
		first, last api.Frac
	}{
		{api.V{X: space, Y: space, Z: space}, api.V{X: -dir, Y: -dir, Z: -dir}, all, api.Frac{D: 1}, api.Frac{N: space + far, D: dir}},
		{api.V{X: -space, Y: -space, Z: -space}, api.V{X: dir, Y: dir, Z: dir}, all, api.Frac{D: 1}, api.Frac{N: space + far, D: dir}},
		{api.V{X: -space}, api.V{X: dir}, api.Box{Lo: api.V{X: far}, Hi: api.V{X: far}}, api.Frac{N: space + far, D: dir}, api.Frac{N: space + far, D: dir}},
		{api.V{Y: space}, api.V{Y: -dir}, api.Box{Lo: api.V{Y: -far}, Hi: api.V{Y: -far}}, api.Frac{N: space + far, D: dir}, api.Frac{N: space + far, D: dir}},
		{api.V{Z: space}, api.V{Z: -1}, api.Box{Lo: api.V{Z: -far}, Hi: api.V{Z: 1 - far}}, api.Frac{N: space + far - 1, D: 1}, api.Frac{N: space + far, D: 1}},
	} {
		if first, last, ok, e := Range(c.o, c.d, c.b); first != c.first || last != c.last || !ok || e != api.OK {
			t.Error(i, first, last, ok, e)
		}
	}
}

// outside: points with one part out of a bound.
func outside(bound int) []api.V {
	var out []api.V
	for _, n := range []int{bound + 1, -bound - 1, 1 << 32, -1 << 32, 1 << 48, most, -most, least} {
		out = append(out, api.V{X: n}, api.V{Y: n}, api.V{Z: n}, api.V{X: 1, Y: 1, Z: n})
	}
	return out
}

func TestLarge(t *testing.T) { // P4.1, P4.2: it is told of empty boxes too
	up := api.V{X: 1, Y: 1, Z: 1}
	good := api.Box{Lo: api.V{X: -1, Y: -1, Z: -1}, Hi: up}
	empty := api.Box{Lo: up}
	check := func(o, d api.V, b api.Box) {
		if first, last, ok, e := Range(o, d, b); first != (api.Frac{}) || last != (api.Frac{}) || ok || e != api.ErrLarge {
			t.Error(o, d, b, first, last, ok, e)
		}
	}
	for _, b := range []api.Box{good, empty} {
		check(api.V{}, api.V{}, b)
		check(api.V{X: 3}, api.V{}, b)
		for _, o := range outside(api.MaxSpace) {
			check(o, up, b)
		}
		for _, d := range outside(api.MaxDir) {
			check(api.V{}, d, b)
		}
		for _, p := range outside(2 * api.MaxSpace) {
			check(api.V{}, up, api.Box{Lo: p, Hi: b.Hi})
			check(api.V{}, up, api.Box{Lo: b.Lo, Hi: p})
			check(api.V{}, up, api.Box{Lo: p, Hi: p})
		}
	}
}

func TestAnyArguments(t *testing.T) { // P1: it answers at all numbers
	list := []int{0, 1, -1, api.MaxDir, -api.MaxDir - 1, api.MaxSpace, 2 * api.MaxSpace, 1 << 40, most, -most, least}
	for _, n := range list {
		for _, m := range list {
			a, b := api.V{X: n, Y: m, Z: -n}, api.V{X: m, Y: -m, Z: n}
			for _, o := range []api.V{{}, a, b} {
				for _, d := range []api.V{{X: 1}, a, b} {
					first, last, ok, e := Range(o, d, api.Box{Lo: a, Hi: b})
					if ok && (e != api.OK || first.D < 1 || last.D < 1) || !ok && (first != api.Frac{} || last != api.Frac{}) {
						t.Error(o, d, a, b, first, last, ok, e)
					}
				}
			}
		}
	}
}
