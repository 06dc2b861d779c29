package curve

import (
	"math/big"
	"testing"

	"relievo/api"
)

// dice: numbers that look like any, the same at each run.
type dice uint64

// below: a number from 0 on, below a bound.
func (r *dice) below(bound int) int {
	*r = *r*6364136223846793005 + 1442695040888963407
	return int(uint64(*r)>>33) % bound
}

// part: one within a bound, now and then at its ends.
func (r *dice) part(bound int) int {
	switch r.below(6) {
	case 0:
		return bound
	case 1:
		return -bound
	}
	return r.below(2*bound+1) - bound
}

// points: so many, all within one bound of some.
func (r *dice) points(n int) []api.V {
	bound := []int{1, 2, 9, 300, 16384, 65535, 65536}[r.below(7)]
	list := make([]api.V, n)
	for k := range list {
		list[k] = api.V{X: r.part(bound), Y: r.part(bound), Z: r.part(bound)}
	}
	return list
}

// parts: a point's parts, exactly.
type parts [3]*big.Rat

// exact: the point itself.
func exact(v api.V) parts {
	return parts{big.NewRat(int64(v.X), 1), big.NewRat(int64(v.Y), 1), big.NewRat(int64(v.Z), 1)}
}

// between: the point at i of n on the way from a to b.
func between(a, b parts, i, n int) parts {
	var out parts
	for k := range out {
		way := new(big.Rat).Sub(b[k], a[k])
		out[k] = way.Add(a[k], way.Mul(way, big.NewRat(int64(i), int64(n))))
	}
	return out
}

// along: the curve's point at i of n, exactly, and without weights: those at i of n between each two neighbours, and so on till one is left.
func along(list []parts, i, n int) parts {
	for len(list) > 1 {
		next := make([]parts, len(list)-1)
		for k := range next {
			next[k] = between(list[k], list[k+1], i, n)
		}
		list = next
	}
	return list[0]
}

// over: the patch's point, exactly: of each row that at i of n, of those four that at j of m.
func over(list []parts, i, n, j, m int) parts {
	var column []parts
	for row := 0; row < 16; row += 4 {
		column = append(column, along(list[row:row+4], i, n))
	}
	return along(column, j, m)
}

// all: points, exactly.
func all(list []api.V) []parts {
	out := make([]parts, len(list))
	for k, v := range list {
		out[k] = exact(v)
	}
	return out
}

// nearest: is it the whole number that is nearest, the greater one of two?
func nearest(got *big.Rat, want *big.Rat) bool {
	// It is above what is wanted less a half, and not above that and a half.
	off, half := new(big.Rat).Sub(got, want), big.NewRat(1, 2)
	return got.IsInt() && off.Cmp(half) <= 0 && off.Cmp(new(big.Rat).Neg(half)) > 0
}

// held: is the point the nearest one in each part?
func held(t *testing.T, got api.V, want parts, places ...int) {
	t.Helper()
	for k, part := range exact(got) {
		if !nearest(part, want[k]) {
			t.Fatal(places, k, got, want)
		}
	}
}

// inside: is no part of the point outside the box of the list?
func inside(t *testing.T, got api.V, list []api.V) {
	t.Helper()
	lo, hi := list[0], list[0]
	for _, v := range list {
		lo = api.V{X: min(lo.X, v.X), Y: min(lo.Y, v.Y), Z: min(lo.Z, v.Z)}
		hi = api.V{X: max(hi.X, v.X), Y: max(hi.Y, v.Y), Z: max(hi.Z, v.Z)}
	}
	if got.X < lo.X || got.Y < lo.Y || got.Z < lo.Z || got.X > hi.X || got.Y > hi.Y || got.Z > hi.Z {
		t.Fatal(got, lo, hi)
	}
}

// walk: calls for all places there are.
func walk(visit func(i, n int)) {
	for n := 1; n <= 16; n++ {
		for i := 0; i <= n; i++ {
			visit(i, n)
		}
	}
}

// backwards: a curve, told from its end on.
func backwards(p [4]api.V) [4]api.V { return [4]api.V{p[3], p[2], p[1], p[0]} }

// mirrored: a patch, each row told from its end on.
func mirrored(p [16]api.V) [16]api.V {
	q := p
	for k := range p {
		q[k] = p[k/4*4+3-k%4]
	}
	return q
}

// tipped: a patch, rows told as columns.
func tipped(p [16]api.V) [16]api.V {
	q := p
	for k := range p {
		q[k] = p[k%4*4+k/4]
	}
	return q
}

func TestCubics(t *testing.T) { // P11.1, P11.3: all places of many curves
	r := dice(1)
	for range 60 {
		p := [4]api.V(r.points(4))
		walk(func(i, n int) {
			got := curved(t, p, i, n)
			held(t, got, along(all(p[:]), i, n), i, n)
			inside(t, got, p[:])
			if back := curved(t, backwards(p), n-i, n); back != got {
				t.Fatal("backwards", p, i, n, got, back)
			}
		})
	}
}

func TestPoints(t *testing.T) { // P11.1, P11.3: many patches at any places
	r := dice(2)
	for range 40 {
		p := [16]api.V(r.points(16))
		for range 60 {
			n, m := 1+r.below(16), 1+r.below(16)
			i, j := r.below(n+1), r.below(m+1)
			got := patched(t, p, i, n, j, m)
			held(t, got, over(all(p[:]), i, n, j, m), i, n, j, m)
			inside(t, got, p[:])
		}
	}
}

func TestAllPlaces(t *testing.T) { // P11.1, P11.3: all places of a patch, each told in three ways more
	r := dice(3)
	p := [16]api.V(r.points(16))
	for k := range p {
		p[k].X, p[k].Z = 65536-r.below(2)*131072, k*k-p[k].Z/2
	}
	walk(func(i, n int) {
		walk(func(j, m int) {
			got := patched(t, p, i, n, j, m)
			inside(t, got, p[:])
			if q := patched(t, mirrored(p), n-i, n, j, m); q != got {
				t.Fatal("mirrored", i, n, j, m, got, q)
			}
			if q := patched(t, tipped(p), j, m, i, n); q != got {
				t.Fatal("tipped", i, n, j, m, got, q)
			}
			if q := patched(t, tipped(mirrored(tipped(p))), i, n, m-j, m); q != got {
				t.Fatal("upside down", i, n, j, m, got, q)
			}
		})
	})
}

func TestCurveEnds(t *testing.T) { // P11.3: a curve's ends, a patch's corners
	r := dice(4)
	for range 40 {
		p := [16]api.V(r.points(16))
		for side := range 4 {
			row := Row(p, side)
			for n := 1; n <= 16; n++ {
				if first, last := curved(t, row, 0, n), curved(t, row, n, n); first != row[0] || last != row[3] {
					t.Fatal(row, n, first, last)
				}
			}
		}
		for n := 1; n <= 16; n++ {
			m := 17 - n
			got := [4]api.V{patched(t, p, 0, n, 0, m), patched(t, p, n, n, 0, m), patched(t, p, n, n, m, m), patched(t, p, 0, n, m, m)}
			if got != [4]api.V{p[0], p[3], p[15], p[12]} {
				t.Fatal(p, n, got)
			}
		}
	}
}

func TestPatchEnds(t *testing.T) { // P11.1, P11.2: along its sides a patch has the points of their curves
	r := dice(5)
	for range 40 {
		p := [16]api.V(r.points(16))
		m := 1 + r.below(16)
		walk(func(i, n int) {
			got := [4]api.V{patched(t, p, i, n, 0, m), patched(t, p, m, m, i, n), patched(t, p, n-i, n, m, m), patched(t, p, 0, m, n-i, n)}
			for side, v := range got {
				if want := curved(t, Row(p, side), i, n); v != want {
					t.Fatal(side, i, n, m, v, want)
				}
			}
		})
	}
}

func TestAlike(t *testing.T) { // P11.3: all points at one place have that alone
	r := dice(6)
	for range 20 {
		v := r.points(1)[0]
		var p [16]api.V
		for k := range p {
			p[k] = v
		}
		walk(func(i, n int) {
			m := 1 + r.below(16)
			if a, b := curved(t, four(v), i, n), patched(t, p, i, n, r.below(m+1), m); a != v || b != v {
				t.Fatal(v, i, n, m, a, b)
			}
		})
	}
}

func TestSamePlace(t *testing.T) { // P11.1: the same place has the same point, in however many parts it is told
	r := dice(7)
	for range 20 {
		p := [4]api.V(r.points(4))
		walk(func(i, n int) {
			walk(func(j, m int) {
				if i*m == j*n && curved(t, p, i, n) != curved(t, p, j, m) {
					t.Fatal(p, i, n, j, m)
				}
			})
		})
	}
}

func TestStraight(t *testing.T) { // P11.1: four points evenly along a line have each place where it is told, once it is a whole one
	from, step := api.V{X: -700, Y: 31, Z: 9}, api.V{X: 16, Y: -32, Z: 48}
	walk(func(i, n int) {
		if 16%n != 0 {
			return
		}
		var p [4]api.V
		for k := range p {
			p[k] = api.V{X: from.X + k*step.X, Y: from.Y + k*step.Y, Z: from.Z + k*step.Z}
		}
		far := 3 * i
		want := api.V{X: from.X + far*step.X/n, Y: from.Y + far*step.Y/n, Z: from.Z + far*step.Z/n}
		if got := curved(t, p, i, n); got != want {
			t.Error(i, n, got, want)
		}
	})
}

func FuzzAny(f *testing.F) { // P1, P11.1 to P11.3: it answers at all numbers
	f.Add([]byte{0, 3, 6, 9, 1, 255, 128, 127}, 7, 1, 3, 2, 16)
	f.Add([]byte{1}, 65536, 16, 16, 0, 1)
	f.Add([]byte{1}, 65537, 0, 1, 0, 1)
	f.Add([]byte{}, 0, 0, 0, 0, 0)
	f.Fuzz(func(t *testing.T, bytes []byte, scale, i, n, j, m int) {
		var p [16]api.V
		near := [2]bool{true, true} // of the first four points, and of all
		for k := range min(48, len(bytes)) {
			part := int(int8(bytes[k])) * scale
			*[]*int{&p[k/3].X, &p[k/3].Y, &p[k/3].Z}[k%3] = part
			if part > 65536 || part < -65536 {
				near[0], near[1] = near[0] && k >= 12, false
			}
		}
		row := Row(p, 0)
		if near[0] && right(i, n) {
			held(t, curved(t, row, i, n), along(all(row[:]), i, n), i, n)
		} else {
			noCurve(t, row, i, n)
		}
		if near[1] && right(i, n) && right(j, m) {
			got := patched(t, p, i, n, j, m)
			held(t, got, over(all(p[:]), i, n, j, m), i, n, j, m)
			inside(t, got, p[:])
		} else {
			noPatch(t, p, i, n, j, m)
		}
	})
}
