package side

import (
	"math"
	"math/big"
	"slices"
	"testing"

	"relievo/api"
)

const most, least = math.MaxInt64, math.MinInt64

// dice: numbers that look like any, the same at each run.
type dice uint64

// up: a number from -bound to bound.
func (r *dice) up(bound int) int {
	*r = *r*6364136223846793005 + 1442695040888963407
	return int(uint64(*r)>>33)%(2*bound+1) - bound
}

// point: one with its parts within a bound.
func (r *dice) point(bound int) api.V {
	return api.V{X: r.up(bound), Y: r.up(bound), Z: r.up(bound)}
}

// way: a direction within a bound.
func (r *dice) way(bound int) api.V {
	for {
		if d := r.point(bound); d != (api.V{}) {
			return d
		}
	}
}

// corner: a point with its parts at the ends of a bound, or near them.
func (r *dice) corner(bound int) api.V {
	part := func() int {
		n := bound - max(r.up(2), 0)
		if r.up(1) < 0 {
			return -n
		}
		return n
	}
	return api.V{X: part(), Y: part(), Z: part()}
}

// triple: a point of numbers of any size.
type triple [3]*big.Int

func whole(n int) *big.Int { return big.NewInt(int64(n)) }

// tripleOf: the point, times by.
func tripleOf(a api.V, by *big.Int) triple {
	times := func(n int) *big.Int { return new(big.Int).Mul(whole(n), by) }
	return triple{times(a.X), times(a.Y), times(a.Z)}
}

func (a triple) add(b triple) triple {
	for i := range a {
		a[i] = new(big.Int).Add(a[i], b[i])
	}
	return a
}

func (a triple) sub(b triple) triple {
	for i := range a {
		a[i] = new(big.Int).Sub(a[i], b[i])
	}
	return a
}

func (a triple) dot(b triple) *big.Int {
	sum := new(big.Int)
	for i := range a {
		sum.Add(sum, new(big.Int).Mul(a[i], b[i]))
	}
	return sum
}

func (a triple) cross(b triple) triple {
	var out triple
	for i := range a {
		j, k := (i+1)%3, (i+2)%3
		out[i] = new(big.Int).Sub(new(big.Int).Mul(a[j], b[k]), new(big.Int).Mul(a[k], b[j]))
	}
	return out
}

// moved: the side of the line whose origin is a little further in X, and much
// less in Y, and less still in Z: by 2^-64, 2^-128 and 2^-192, all points taken
// 2^192 times. That is what the chapter says its second rule comes to.
func moved(o, d, a, b api.V) int {
	by := new(big.Int).Lsh(whole(1), 192)
	little := triple{new(big.Int).Lsh(whole(1), 128), new(big.Int).Lsh(whole(1), 64), whole(1)}
	from := tripleOf(o, by).add(little)
	turn := tripleOf(a, by).sub(from).cross(tripleOf(b, by).sub(from))
	return tripleOf(d, whole(1)).dot(turn).Sign()
}

// met: what Meet has to answer, by the side of the moved line and by numbers of
// any size.
func met(o, d api.V, t api.Tri) (api.Hit, bool) {
	one := whole(1)
	first := moved(o, d, t.A, t.B)
	if first == 0 || moved(o, d, t.B, t.C) != first || moved(o, d, t.C, t.A) != first {
		return api.Hit{}, false
	}
	a := tripleOf(t.A, one)
	normal := tripleOf(t.B, one).sub(a).cross(tripleOf(t.C, one).sub(a))
	n, by := normal.dot(a.sub(tripleOf(o, one))), normal.dot(tripleOf(d, one))
	if by.Sign() < 0 {
		n.Neg(n)
		by.Neg(by)
	}
	return api.Hit{T: api.Frac{N: int(n.Int64()), D: int(by.Int64())}, Front: first < 0}, true
}

// within: is the point of the line at t in the triangle, its edges with it?
// By weights: those of a, b and c, of which each tells how much of the triangle
// is between the point and the edge across from the corner.
func within(o, d api.V, t api.Tri, at api.Frac) bool {
	one, by := whole(1), whole(at.D)
	p := tripleOf(o, by).add(tripleOf(d, whole(at.N)))
	a, b, c := tripleOf(t.A, one), tripleOf(t.B, one), tripleOf(t.C, one)
	normal := b.sub(a).cross(c.sub(a))
	if p.sub(tripleOf(t.A, by)).dot(normal).Sign() != 0 {
		return false
	}
	for _, edge := range [][2]api.V{{t.A, t.B}, {t.B, t.C}, {t.C, t.A}} {
		from := tripleOf(edge[0], by)
		if tripleOf(edge[1], by).sub(from).cross(p.sub(from)).dot(normal).Sign() < 0 {
			return false
		}
	}
	return true
}

func TestSideByHand(t *testing.T) { // P3.1
	up, zero := api.V{Z: 1}, api.V{}
	for i, c := range []struct {
		o, d, a, b api.V
		want       int
	}{
		{api.V{Y: 1}, up, api.V{X: -1}, api.V{X: 1}, 1},
		{api.V{Y: -1}, up, api.V{X: -1}, api.V{X: 1}, -1},
		{api.V{Y: 1}, up, api.V{X: 1}, api.V{X: -1}, -1},
		{api.V{Y: 1}, api.V{Z: -1}, api.V{X: -1}, api.V{X: 1}, -1},
		{api.V{X: 50, Y: 1, Z: -7}, up, api.V{X: -1}, api.V{X: 1}, 1},
		{api.V{Y: 1}, api.V{Z: 9}, api.V{X: -1, Z: 30}, api.V{X: 1, Z: -8}, 1},
		// Where the turn is 0: X, ahead of Y, ahead of Z.
		{zero, up, api.V{Y: -1}, api.V{Y: 1}, -1},
		{zero, up, api.V{Y: 1}, api.V{Y: -1}, 1},
		{zero, up, api.V{X: -1}, api.V{X: 1}, 1},
		{zero, up, api.V{X: 1}, api.V{X: -1}, -1},
		{zero, up, api.V{X: -5, Y: -1}, api.V{X: 5, Y: 1}, -1},
		{zero, up, api.V{X: -5, Y: 1}, api.V{X: 5, Y: -1}, 1},
		{zero, api.V{X: 1}, api.V{Y: -1}, api.V{Y: 1}, 1},
		{zero, api.V{X: 1}, api.V{Y: 1}, api.V{Y: -1}, -1},
		{zero, api.V{X: 1}, api.V{Z: -1}, api.V{Z: 1}, -1},
		{zero, api.V{X: 1}, api.V{Y: -1, Z: -1}, api.V{Y: 1, Z: 1}, -1},
		{zero, api.V{X: 1}, api.V{Y: 1, Z: -1}, api.V{Y: -1, Z: 1}, -1},
		{zero, api.V{Y: 1}, api.V{X: -1}, api.V{X: 1}, -1},
		{zero, api.V{Y: 1}, api.V{Z: -1}, api.V{Z: 1}, 1},
		{zero, api.V{Y: 1}, api.V{X: -1, Z: 1}, api.V{X: 1, Z: -1}, -1},
		// Where all are 0: an edge along the line, or one of no length.
		{zero, up, api.V{Z: -1}, api.V{Z: 1}, 0},
		{zero, up, api.V{X: 8, Y: 3, Z: -1}, api.V{X: 8, Y: 3, Z: 1}, 0},
		{zero, api.V{X: 2, Y: -4, Z: 6}, api.V{X: 8}, api.V{X: 9, Y: -2, Z: 3}, 0},
		{zero, up, api.V{X: 8, Y: 3}, api.V{X: 8, Y: 3}, 0},
		{zero, up, zero, zero, 0},
	} {
		if got, e := Side(c.o, c.d, c.a, c.b); got != c.want || e != api.OK {
			t.Error(i, got, e)
		}
	}
}

// TestSideAll: small points, so that many lines go through edges, and points at
// the ends of the bounds; each edge from both its ends, each line both ways.
func TestSideAll(t *testing.T) { // P3.1
	var r dice
	for i := range 12000 {
		o, d, a, b := r.point(2), r.way(1), r.point(2), r.point(2)
		switch i % 4 {
		case 1:
			o, d, a, b = r.corner(api.MaxSpace), r.corner(api.MaxDir), r.corner(api.MaxSpace), r.corner(api.MaxSpace)
		case 2:
			o, d, a, b = r.point(api.MaxSpace), r.way(api.MaxDir), r.point(api.MaxSpace), r.point(api.MaxSpace)
		}
		want := moved(o, d, a, b)
		if got, e := Side(o, d, a, b); got != want || e != api.OK {
			t.Fatal(o, d, a, b, got, e, want)
		}
		if got, e := Side(o, d, b, a); got != -want || e != api.OK {
			t.Fatal("the edge from its other end", o, d, a, b, got, e)
		}
		back := api.V{X: -d.X, Y: -d.Y, Z: -d.Z}
		if got, e := Side(o, back, a, b); got != -want || e != api.OK {
			t.Fatal("the line from its other end", o, d, a, b, got, e)
		}
	}
}

func TestMeetByHand(t *testing.T) { // P3.1
	tri := api.Tri{B: api.V{X: 9}, C: api.V{Y: 9}}
	turned := api.Tri{B: api.V{Y: 9}, C: api.V{X: 9}}
	up, down := api.V{Z: 1}, api.V{Z: -1}
	for i, c := range []struct {
		o, d  api.V
		t     api.Tri
		ok    bool
		at    api.Frac
		front bool
	}{
		{api.V{X: 1, Y: 1, Z: -5}, up, tri, true, api.Frac{N: 405, D: 81}, false},
		{api.V{X: 1, Y: 1, Z: -5}, up, turned, true, api.Frac{N: 405, D: 81}, true},
		{api.V{X: 1, Y: 1, Z: -5}, down, tri, true, api.Frac{N: -405, D: 81}, true},
		{api.V{X: 1, Y: 1, Z: 5}, api.V{Z: -2}, tri, true, api.Frac{N: 405, D: 162}, true},
		{api.V{X: 1, Y: 1, Z: 5}, up, tri, true, api.Frac{N: -405, D: 81}, false},
		{api.V{X: 1, Y: 1}, up, tri, true, api.Frac{D: 81}, false},
		{api.V{X: 3, Y: 3, Z: 1}, api.V{X: 1, Y: -1, Z: 1}, tri, true, api.Frac{N: -81, D: 81}, false},
		// Beside the triangle.
		{api.V{X: 8, Y: 8}, up, tri, false, api.Frac{}, false},
		{api.V{X: -1, Y: 4}, up, tri, false, api.Frac{}, false},
		{api.V{X: 4, Y: -1}, up, tri, false, api.Frac{}, false},
		// Through its edges and corners: it is met where X, or else Y, goes in.
		{api.V{}, up, tri, true, api.Frac{D: 81}, false},
		{api.V{X: 3}, up, tri, true, api.Frac{D: 81}, false},
		{api.V{Y: 3}, up, tri, true, api.Frac{D: 81}, false},
		{api.V{X: 4, Y: 5}, up, tri, false, api.Frac{}, false},
		{api.V{X: 9}, up, tri, false, api.Frac{}, false},
		{api.V{Y: 9}, up, tri, false, api.Frac{}, false},
		// In its plane, beside that, along an edge.
		{api.V{X: 1, Y: 1}, api.V{X: 1}, tri, false, api.Frac{}, false},
		{api.V{X: 1, Y: 1, Z: 4}, api.V{X: 1}, tri, false, api.Frac{}, false},
		{api.V{}, api.V{X: 1}, tri, false, api.Frac{}, false},
		// Triangles without an inside.
		{api.V{}, up, api.Tri{}, false, api.Frac{}, false},
		{api.V{X: 1}, up, api.Tri{B: api.V{X: 4}, C: api.V{X: 9}}, false, api.Frac{}, false},
		{api.V{X: 1}, up, api.Tri{A: api.V{X: 1}, B: api.V{X: 1}, C: api.V{X: 9}}, false, api.Frac{}, false},
		{api.V{X: 1}, up, api.Tri{B: api.V{X: 4}, C: api.V{Z: 9}}, false, api.Frac{}, false},
	} {
		want := api.Hit{T: c.at, Front: c.front}
		if got, ok, e := Meet(c.o, c.d, c.t); got != want || ok != c.ok || e != api.OK {
			t.Error(i, got, ok, e)
		}
	}
}

// TestMeetAll: small triangles, so that many lines go through edges and
// corners, and triangles at the ends of the bounds.
func TestMeetAll(t *testing.T) { // P3.1, P3.3
	var r dice
	hits := 0
	for i := range 12000 {
		o, d, tri := r.point(2), r.way(1), api.Tri{A: r.point(2), B: r.point(2), C: r.point(2)}
		switch i % 4 {
		case 1:
			o, d = r.corner(api.MaxSpace), r.corner(api.MaxDir)
			tri = api.Tri{A: r.corner(api.MaxSpace), B: r.corner(api.MaxSpace), C: r.corner(api.MaxSpace)}
		case 2:
			o, d = r.point(api.MaxSpace), r.way(api.MaxDir)
			tri = api.Tri{A: r.point(api.MaxSpace), B: r.point(api.MaxSpace), C: r.point(api.MaxSpace)}
		}
		want, there := met(o, d, tri)
		got, ok, e := Meet(o, d, tri)
		if got != want || ok != there || e != api.OK {
			t.Fatal(o, d, tri, got, ok, e, want, there)
		}
		if ok {
			hits++
		}
		if ok && !within(o, d, tri, got.T) {
			t.Fatal("no point of the line", o, d, tri, got)
		}
	}
	if hits < 500 {
		t.Error("too few are met for a test", hits)
	}
}

func TestNormal(t *testing.T) { // P3.1
	for i, c := range []struct {
		t    api.Tri
		want api.V
	}{
		{api.Tri{B: api.V{X: 2}, C: api.V{Y: 3}}, api.V{Z: 6}},
		{api.Tri{B: api.V{Y: 3}, C: api.V{X: 2}}, api.V{Z: -6}},
		{api.Tri{A: api.V{X: 5, Y: -4, Z: 1}, B: api.V{X: 7, Y: -4, Z: 1}, C: api.V{X: 5, Y: -1, Z: 1}}, api.V{Z: 6}},
		{api.Tri{A: api.V{X: 1, Y: 2, Z: 3}, B: api.V{X: 4, Y: 6, Z: 8}, C: api.V{X: 0, Y: 3, Z: 5}}, api.V{X: 3, Y: -11, Z: 7}},
		{api.Tri{}, api.V{}},
		{api.Tri{A: api.V{X: 1}, B: api.V{X: 2}, C: api.V{X: 9}}, api.V{}},
		// Beyond the bounds it is told too, and goes round.
		{api.Tri{B: api.V{X: 1 << 32}, C: api.V{Y: 1<<32 + 1}}, api.V{Z: 1 << 32}},
		{api.Tri{A: api.V{X: 1}, B: api.V{X: least}, C: api.V{X: 1, Y: 1}}, api.V{Z: most}},
	} {
		if got := Normal(c.t); got != c.want {
			t.Error(i, got)
		}
	}
}

// lines: each is out of the bounds, but the first ones, at their ends.
func lines() (good, wrong [][2]api.V) {
	space, dir, up := api.MaxSpace, api.MaxDir, api.V{Z: 1}
	good = [][2]api.V{
		{{X: space, Y: -space, Z: space}, {X: dir, Y: -dir, Z: dir}},
		{{X: -space, Y: space, Z: -space}, {X: -dir, Y: dir, Z: -dir}},
		{{}, {X: -1}},
	}
	for _, n := range []int{1, 1 << 20, 1 << 47, most - space} {
		for _, far := range []int{space + n, -space - n} {
			wrong = append(wrong, [][2]api.V{{{X: far}, up}, {{Y: far}, up}, {{Z: far}, up}}...)
		}
	}
	for _, far := range []int{dir + 1, -dir - 1, space, 1 << 48, most, least, least + 1} {
		wrong = append(wrong, [][2]api.V{{{}, {X: far}}, {{}, {Y: far}}, {{}, {Z: far}}, {{}, {X: 1, Y: 1, Z: far}}}...)
	}
	return good, append(wrong, [2]api.V{{}, {}}, [2]api.V{{X: 3}, {}}, [2]api.V{{X: least}, {}})
}

func TestLargeLines(t *testing.T) { // P3.1
	a, b, c := api.V{X: -2}, api.V{X: 2}, api.V{Y: 2}
	good, wrong := lines()
	for _, l := range good {
		_, e := Side(l[0], l[1], a, b)
		_, _, f := Meet(l[0], l[1], api.Tri{A: a, B: b, C: c})
		if e != api.OK || f != api.OK {
			t.Error(l, e, f)
		}
	}
	for _, l := range wrong {
		if got, e := Side(l[0], l[1], a, b); got != 0 || e != api.ErrLarge {
			t.Error("Side", l, got, e)
		}
		if got, ok, e := Meet(l[0], l[1], api.Tri{A: a, B: b, C: c}); got != (api.Hit{}) || ok || e != api.ErrLarge {
			t.Error("Meet", l, got, ok, e)
		}
	}
}

func TestLargePoints(t *testing.T) { // P3.1
	o, up := api.V{X: 1, Y: 1, Z: -5}, api.V{Z: 1}
	corners := []api.V{{}, {X: 9}, {Y: 9}}
	for _, n := range []int{api.MaxSpace, -api.MaxSpace} {
		for i, far := range []api.V{{X: n}, {Y: n}, {Z: n}, {X: n, Y: n, Z: n}} {
			for at := range corners {
				list := slices.Clone(corners)
				list[at] = far
				_, e := Side(o, up, list[at], list[(at+1)%3])
				_, _, f := Meet(o, up, api.Tri{A: list[0], B: list[1], C: list[2]})
				if e != api.OK || f != api.OK {
					t.Error(n, i, at, e, f)
				}
			}
		}
	}
	for _, n := range []int{api.MaxSpace + 1, -api.MaxSpace - 1, 1 << 40, most, least, least + 1} {
		for i, far := range []api.V{{X: n}, {Y: n}, {Z: n}} {
			if got, e := Side(o, up, far, corners[1]); got != 0 || e != api.ErrLarge {
				t.Error("Side", n, i, got, e)
			}
			if got, e := Side(o, up, corners[1], far); got != 0 || e != api.ErrLarge {
				t.Error("Side", n, i, got, e)
			}
			for at := range corners {
				list := slices.Clone(corners)
				list[at] = far
				if got, ok, e := Meet(o, up, api.Tri{A: list[0], B: list[1], C: list[2]}); got != (api.Hit{}) || ok || e != api.ErrLarge {
					t.Error("Meet", n, i, at, got, ok, e)
				}
			}
		}
	}
}

func TestAtByHand(t *testing.T) { // P3.2
	const end = 1 << 40
	up := api.V{Z: 1}
	for i, c := range []struct {
		o, d api.V
		t    api.Frac
		want api.V
		ok   bool
	}{
		{api.V{X: 1}, api.V{X: -1, Y: 3, Z: 2}, api.Frac{N: 5, D: 2}, api.V{X: -2, Y: 7, Z: 5}, true},
		{api.V{X: 1}, api.V{X: -1, Y: 3, Z: 2}, api.Frac{N: -5, D: 2}, api.V{X: 3, Y: -8, Z: -5}, true},
		{api.V{X: 4, Y: -5, Z: 6}, api.V{X: -1, Y: 3, Z: 2}, api.Frac{N: 0, D: 7}, api.V{X: 4, Y: -5, Z: 6}, true},
		{api.V{X: 4, Y: -5, Z: 6}, api.V{X: 1, Y: -1}, api.Frac{N: 1, D: most}, api.V{X: 4, Y: -6, Z: 6}, true},
		{api.V{}, api.V{X: 1, Y: -1}, api.Frac{N: most, D: most}, api.V{X: 1, Y: -1}, true},
		{api.V{}, api.V{X: 1, Y: -1}, api.Frac{N: least, D: most}, api.V{X: -2, Y: 1}, true},
		{api.V{}, api.V{X: api.MaxDir, Y: -api.MaxDir}, api.Frac{N: most - 1, D: most}, api.V{X: api.MaxDir - 1, Y: -api.MaxDir}, true},
		// The ends of 2^40, in each part.
		{api.V{}, up, api.Frac{N: end, D: 1}, api.V{Z: end}, true},
		{api.V{}, up, api.Frac{N: -end, D: 1}, api.V{Z: -end}, true},
		{api.V{}, up, api.Frac{N: 2*end + 1, D: 2}, api.V{Z: end}, true},
		{api.V{}, up, api.Frac{N: end + 1, D: 1}, api.V{}, false},
		{api.V{}, up, api.Frac{N: -end - 1, D: 1}, api.V{}, false},
		{api.V{}, up, api.Frac{N: -2*end - 1, D: 2}, api.V{}, false},
		{api.V{X: 1}, api.V{X: 1}, api.Frac{N: end, D: 1}, api.V{}, false},
		{api.V{X: -1}, api.V{X: 1}, api.Frac{N: end, D: 1}, api.V{X: end - 1}, true},
		{api.V{Y: -1}, api.V{Y: -1}, api.Frac{N: end, D: 1}, api.V{}, false},
		{api.V{Y: 1}, api.V{Y: -1}, api.Frac{N: end, D: 1}, api.V{Y: 1 - end}, true},
		// What 64 bits don't hold is neither a point.
		{api.V{}, up, api.Frac{N: 1 << 41, D: 1}, api.V{}, false},
		{api.V{}, api.V{X: 4}, api.Frac{N: 1 << 62, D: 1}, api.V{}, false},
		{api.V{}, api.V{Y: api.MaxDir}, api.Frac{N: 1 << 49, D: 1}, api.V{}, false},
		{api.V{}, api.V{Z: api.MaxDir}, api.Frac{N: 1 << 49, D: 1}, api.V{}, false},
		{api.V{X: 1}, api.V{X: 1}, api.Frac{N: most, D: 1}, api.V{}, false},
		{api.V{X: -1}, api.V{X: 1}, api.Frac{N: least, D: 1}, api.V{}, false},
		{api.V{X: 1, Y: 1, Z: 1}, api.V{X: 1, Y: api.MaxDir, Z: 1}, api.Frac{N: 1 << 40, D: 1 << 3}, api.V{}, false},
		// Fractions that are none of a line.
		{api.V{}, up, api.Frac{N: 1}, api.V{}, false},
		{api.V{}, up, api.Frac{}, api.V{}, false},
		{api.V{}, up, api.Frac{N: 1, D: -1}, api.V{}, false},
		{api.V{}, up, api.Frac{N: -4, D: -2}, api.V{}, false},
		{api.V{}, up, api.Frac{N: 1, D: least}, api.V{}, false},
	} {
		if got, ok := At(c.o, c.d, c.t); got != c.want || ok != c.ok {
			t.Error(i, got, ok)
		}
	}
}

func TestAtLines(t *testing.T) { // P3.2
	good, wrong := lines()
	for _, l := range good {
		if got, ok := At(l[0], l[1], api.Frac{D: 1}); got != l[0] || !ok {
			t.Error(l, got, ok)
		}
	}
	for _, l := range wrong {
		if got, ok := At(l[0], l[1], api.Frac{D: 1}); got != (api.V{}) || ok {
			t.Error(l, got, ok)
		}
	}
}

func TestAtAll(t *testing.T) { // P3.2
	var r dice
	some := []int{0, 1, 2, 3, 7, 1 << 24, 1<<25 - 1, 1 << 40, 1<<40 + 1, 1 << 41, 1 << 62, most, most - 1}
	part := func(o, d int, at api.Frac) *big.Int {
		n := new(big.Int).Mul(whole(d), whole(at.N))
		n.Add(n, new(big.Int).Mul(whole(o), whole(at.D)))
		return n.Div(n, whole(at.D)) // rounds down for a divisor above 0
	}
	there := 0
	for _, n := range append(some, -1, -2, -7, -1<<40, -1<<40-1, least, -most) {
		for _, by := range some[1:] {
			for _, bound := range []int{1, 50, api.MaxDir} {
				o, d, at := r.point(api.MaxSpace), r.way(bound), api.Frac{N: n, D: by}
				x, y, z := part(o.X, d.X, at), part(o.Y, d.Y, at), part(o.Z, d.Z, at)
				want, ok := api.V{}, true
				for _, n := range []*big.Int{x, y, z} {
					ok = ok && new(big.Int).Abs(n).Cmp(whole(1<<40)) <= 0
				}
				if ok {
					there++
					want = api.V{X: int(x.Int64()), Y: int(y.Int64()), Z: int(z.Int64())}
				}
				if got, is := At(o, d, at); got != want || is != ok {
					t.Fatal(o, d, at, got, is, want, ok)
				}
			}
		}
	}
	if there < 100 {
		t.Error("too few points for a test", there)
	}
}

// surfaces: closed ones, over the points that they are given (8 of them).
func surfaces() map[string][][3]int {
	var cube [][3]int
	// Corners by their bits; each square as it is seen from without.
	for _, f := range [][4]int{{0, 2, 3, 1}, {4, 5, 7, 6}, {0, 1, 5, 4}, {2, 6, 7, 3}, {0, 4, 6, 2}, {1, 3, 7, 5}} {
		cube = append(cube, [3]int{f[0], f[1], f[2]}, [3]int{f[0], f[2], f[3]})
	}
	tetra := [][3]int{{0, 1, 2}, {0, 2, 3}, {0, 3, 1}, {1, 3, 2}}
	octa := [][3]int{{0, 2, 4}, {2, 1, 4}, {1, 3, 4}, {3, 0, 4}, {2, 0, 5}, {1, 2, 5}, {3, 1, 5}, {0, 3, 5}}
	return map[string][][3]int{
		"cube":                         cube,
		"tetrahedron":                  tetra,
		"octahedron":                   octa,
		"two sides of a triangle":      {{0, 1, 2}, {0, 2, 1}},
		"a cube and another within it": append(slices.Clone(cube), tetra...),
	}
}

// balanced: does a line meet as many from the front as from the back, each at a
// point of its own? How many does it meet?
func balanced(t *testing.T, o, d api.V, verts []api.V, tris [][3]int) int {
	front, back := 0, 0
	for _, c := range tris {
		tri := api.Tri{A: verts[c[0]], B: verts[c[1]], C: verts[c[2]]}
		hit, ok, e := Meet(o, d, tri)
		if e != api.OK || ok && !within(o, d, tri, hit.T) {
			t.Fatal(o, d, tri, hit, ok, e)
		}
		if ok && hit.Front {
			front++
		} else if ok {
			back++
		}
	}
	if front != back {
		t.Fatal("from the front, from the back", o, d, verts, front, back)
	}
	return front + back
}

// TestCube: lines through corners, along edges, in the squares' planes and in
// the diagonals between their triangles: what is met is told by no more than
// the cube's inside.
func TestCube(t *testing.T) { // P3.3
	var verts []api.V
	for n := range 8 {
		verts = append(verts, api.V{X: n&1*4 - 2, Y: n>>1&1*4 - 2, Z: n>>2*4 - 2})
	}
	cube := surfaces()["cube"]
	for i, c := range []struct {
		o, d api.V
		want int
	}{
		{api.V{}, api.V{Z: 1}, 2},
		{api.V{}, api.V{X: 1, Y: 1, Z: 1}, 2},
		{api.V{}, api.V{X: -1, Y: 1, Z: 1}, 2},
		{api.V{X: 1, Y: -1}, api.V{Z: 7}, 2},
		{api.V{X: -2, Y: -2}, api.V{Z: 1}, 2},
		{api.V{X: -2, Y: 1}, api.V{Z: 1}, 2},
		{api.V{X: 2, Y: 1}, api.V{Z: 1}, 0},
		{api.V{X: 1, Y: 2}, api.V{Z: 1}, 0},
		{api.V{X: 2, Y: 2}, api.V{Z: 1}, 0},
		{api.V{X: -2, Y: 2}, api.V{Z: -1}, 0},
		{api.V{Z: 2}, api.V{X: 1}, 0},
		{api.V{Z: -2}, api.V{X: 1}, 2},
		{api.V{X: 9}, api.V{Z: 1}, 0},
		// Both touch a corner alone. A little (e) further in X, e e in Y, e e e in
		// Z, the first would be within for a t above -e e e and below -e e: for
		// none; the second for one above -e and below -e e.
		{api.V{X: -2, Y: 2, Z: -2}, api.V{X: 1, Y: 1, Z: 1}, 0},
		{api.V{X: -2, Y: 2, Z: -2}, api.V{X: 1, Y: 1, Z: -1}, 2},
	} {
		if got := balanced(t, c.o, c.d, verts, cube); got != c.want {
			t.Error(i, got)
		}
	}
}

// TestClosed: closed surfaces over any points, through one another and folded
// as they may be, with lines of few steps, so that many go through corners and
// edges, and with lines and points at the ends of the bounds.
func TestClosed(t *testing.T) { // P3.3
	for name, tris := range surfaces() {
		var r dice
		sum := 0
		for i := range 1500 {
			space, dir := 2, 1
			if i%5 == 0 {
				space, dir = api.MaxSpace, api.MaxDir
			}
			verts := make([]api.V, 8)
			for n := range verts {
				verts[n] = r.point(space)
				if i%10 == 0 {
					verts[n] = r.corner(space)
				}
			}
			d := r.way(dir)
			sum += balanced(t, r.point(space), d, verts, tris)
			for n := range 3 {
				sum += balanced(t, verts[n], d, verts, tris)
			}
		}
		if sum < 500 {
			t.Error("too few are met for a test", name, sum)
		}
	}
}

func TestAnyArguments(t *testing.T) { // P1: each call answers at all numbers
	list := []int{0, 1, -1, api.MaxDir, -api.MaxDir - 1, api.MaxSpace, api.MaxSpace + 1, 1 << 40, most, -most, least}
	for _, n := range list {
		for _, m := range list {
			a, b := api.V{X: n, Y: m, Z: -n}, api.V{X: m, Y: -m, Z: n}
			for _, o := range []api.V{{}, a, b} {
				for _, d := range []api.V{{X: 1}, a, b} {
					if got, e := Side(o, d, a, b); e != api.OK && got != 0 {
						t.Error("Side", o, d, a, b, got, e)
					}
					hit, ok, e := Meet(o, d, api.Tri{A: a, B: o, C: b})
					if (e != api.OK && ok) || !ok && hit != (api.Hit{}) || hit.Patch != 0 || hit.Tri != 0 || ok && hit.T.D < 1 {
						t.Error("Meet", o, d, a, b, hit, ok, e)
					}
					if p, ok := At(o, d, api.Frac{N: n, D: m}); !ok && p != (api.V{}) || m < 1 && ok {
						t.Error("At", o, d, n, m, p, ok)
					}
				}
			}
			Normal(api.Tri{A: a, B: b, C: api.V{X: n}})
		}
	}
}
