package patch

import (
	"math"
	"math/big"
	"slices"
	"testing"

	"relievo/api"
	"relievo/sub"
	"relievo/topo"
	"relievo/vec"
)

// dice: numbers that look like any, the same at each run.
type dice uint64

// below: a number from 0 on, below a bound.
func (r *dice) below(bound int) int {
	*r = *r*6364136223846793005 + 1442695040888963407
	return int(uint64(*r)>>33) % bound
}

// shuffled: the numbers from 0 on, below a bound, in any order.
func (r *dice) shuffled(n int) []int {
	all := make([]int, n)
	for i := range all {
		k := r.below(i + 1)
		all[i], all[k] = all[k], i
	}
	return all
}

// grid: squares by rows, w by h of them; with a width or a height that is closed the last ones meet the first ones.
func grid(w, h int, closedW, closedH bool) api.Cage {
	across, up := w+1, h+1
	if closedW {
		across = w
	}
	if closedH {
		up = h
	}
	c := api.Cage{Verts: make([]api.V, across*up)}
	for y := range h {
		for x := range w {
			c.Faces = append(c.Faces, []int{y*across + x, y*across + (x+1)%across, (y+1)%up*across + (x+1)%across, (y+1)%up*across + x})
		}
	}
	return c
}

// kites: faces with four corners around the vertex 0, and as many below them around another one, or none.
func kites(n int, closed bool) api.Cage {
	c := api.Cage{Verts: make([]api.V, 2*n+1)}
	for i := range n {
		c.Faces = append(c.Faces, []int{0, 1 + 2*i, 2 + 2*i, 1 + (2*i+2)%(2*n)})
	}
	if closed {
		c.Verts = append(c.Verts, api.V{})
		for i := range n {
			c.Faces = append(c.Faces, []int{2*n + 1, 1 + (2*i+2)%(2*n), 2 + 2*i, 1 + 2*i})
		}
	}
	return c
}

// beside: two cages as one.
func beside(a, b api.Cage) api.Cage {
	a.Faces = slices.Clone(a.Faces)
	for _, face := range b.Faces {
		face = slices.Clone(face)
		for i := range face {
			face[i] += len(a.Verts)
		}
		a.Faces = append(a.Faces, face)
	}
	a.Verts = slices.Concat(a.Verts, b.Verts)
	return a
}

// holed: the surface without some of its faces, and the vertices that are in none then; as it was, if that is no surface.
func (r *dice) holed(c api.Cage) api.Cage {
	var left api.Cage
	number := map[int]int{}
	for _, face := range c.Faces {
		if r.below(5) == 0 {
			continue
		}
		face = slices.Clone(face)
		for i, v := range face {
			if _, ok := number[v]; !ok {
				number[v] = len(number)
			}
			face[i] = number[v]
		}
		left.Faces = append(left.Faces, face)
	}
	left.Verts = make([]api.V, len(number))
	if _, e := topo.Build(len(left.Verts), left.Faces); e != api.OK {
		return c
	}
	return left
}

// surface: one of some kinds, of faces with four corners.
func (r *dice) surface() api.Cage {
	switch n, m := 3+r.below(4), 3+r.below(3); r.below(9) {
	case 0:
		return grid(1+r.below(4), 1+r.below(4), false, false)
	case 1:
		return grid(n, 1+r.below(3), true, false)
	case 2:
		return grid(n, m, true, true)
	case 3:
		return kites(2+r.below(6), true)
	case 4:
		return kites(3+r.below(5), false)
	case 5:
		return cube(48)
	case 6:
		return pillow(42)
	case 7:
		return r.holed(grid(n, m, r.below(2) == 0, r.below(2) == 0))
	}
	return beside(r.surface(), r.surface())
}

// stirred: the same surface with other numbers of its vertices, its faces in another order, each told from another corner on.
func (r *dice) stirred(c api.Cage) api.Cage {
	number := r.shuffled(len(c.Verts))
	all := make([][]int, len(c.Faces))
	for i, k := range r.shuffled(len(c.Faces)) {
		turn := r.below(len(c.Faces[k]))
		for j := range c.Faces[k] {
			all[i] = append(all[i], number[c.Faces[k][(j+turn)%len(c.Faces[k])]])
		}
	}
	return api.Cage{Verts: c.Verts, Faces: all}
}

// placed: the cage with its vertices anywhere within some bound.
func (r *dice) placed(c api.Cage) api.Cage {
	bound := []int{1, 3, 40, 1000, api.MaxCoord, api.MaxSpace}[r.below(6)]
	part := func() int {
		if r.below(4) == 0 {
			return bound - 2*bound*r.below(2)
		}
		return r.below(2*bound+1) - bound
	}
	c.Verts = make([]api.V, len(c.Verts))
	for i := range c.Verts {
		c.Verts[i] = api.V{X: part(), Y: part(), Z: part()}
	}
	return c
}

// folded: the cage with creases on some of its edges, told either way, some of them more than once.
func (r *dice) folded(c api.Cage) api.Cage {
	often := r.below(4)
	for _, face := range c.Faces {
		for i, v := range face {
			if r.below(4) < often && r.below(2) == 0 {
				k := api.Crease{A: v, B: face[(i+1)%len(face)], S: r.sharpness()}
				if r.below(2) == 0 {
					k.A, k.B = k.B, k.A
				}
				c.Creases = append(c.Creases, k)
			}
		}
	}
	return c
}

// sharpness: one of some kinds.
func (r *dice) sharpness() int {
	return []int{math.MinInt, -1, 0, 1, 1, 2, 2, 3, 100, 254, 255, 255, 256, 257, math.MaxInt}[r.below(15)]
}

// cage: a surface with all that belongs to it.
func (r *dice) cage() api.Cage { return r.folded(r.placed(r.stirred(r.surface()))) }

// parts is a point by its parts, which need not be whole.
type parts [3]*big.Rat

// exact: a point by its parts.
func exact(p api.V) parts {
	return parts{new(big.Rat).SetInt64(int64(p.X)), new(big.Rat).SetInt64(int64(p.Y)), new(big.Rat).SetInt64(int64(p.Z))}
}

// equal: are two points one?
func (p parts) equal(q parts) bool {
	return p[0].Cmp(q[0]) == 0 && p[1].Cmp(q[1]) == 0 && p[2].Cmp(q[2]) == 0
}

// rounded: the nearest whole number, of two the greater one.
func rounded(n *big.Rat) *big.Rat {
	n = new(big.Rat).Add(n, big.NewRat(1, 2))
	return new(big.Rat).SetInt(new(big.Int).Div(n.Num(), n.Denom()))
}

// rule is the chapter's rule for one cage: of each vertex its faces, and its edges' other ends with how sharp they are.
type rule struct {
	c     api.Cage
	faces [][]int
	ends  []map[int]int
}

// ruled: a cage that is a surface, with its rule.
func ruled(c api.Cage) rule {
	r := rule{c, make([][]int, len(c.Verts)), make([]map[int]int, len(c.Verts))}
	for v := range r.ends {
		r.ends[v] = map[int]int{}
	}
	for f, face := range c.Faces {
		for i, v := range face {
			w := face[(i+1)%len(face)]
			r.faces[v] = append(r.faces[v], f)
			r.ends[v][w], r.ends[w][v] = 0, 0
		}
	}
	for v, ends := range r.ends {
		for w := range ends {
			if len(r.both(v, w)) == 1 {
				ends[w] = 255
			}
		}
	}
	for _, k := range c.Creases {
		s := max(r.ends[k.A][k.B], k.S)
		r.ends[k.A][k.B], r.ends[k.B][k.A] = s, s
	}
	return r
}

// both: the faces along the edge between two vertices.
func (r rule) both(v, w int) []int {
	var list []int
	for _, f := range r.faces[v] {
		face := r.c.Faces[f]
		for i := range face {
			if a, b := face[i], face[(i+1)%len(face)]; a == v && b == w || a == w && b == v {
				list = append(list, f)
			}
		}
	}
	return list
}

// sharp: the other ends of the sharp edges at a vertex.
func (r rule) sharp(v int) []parts {
	var list []parts
	for w, s := range r.ends[v] {
		if s > 0 {
			list = append(list, exact(r.c.Verts[w]))
		}
	}
	return list
}

// mean: points, each so many times, together, of so many.
func (r rule) mean(of int, times []int, list []parts) parts {
	var sum parts
	for i := range sum {
		sum[i] = new(big.Rat)
		for k, p := range list {
			sum[i].Add(sum[i], new(big.Rat).Mul(p[i], big.NewRat(int64(times[min(k, len(times)-1)]), 1)))
		}
		sum[i] = rounded(sum[i].Quo(sum[i], big.NewRat(int64(of), 1)))
	}
	return sum
}

// inner: the inner point of a face at a vertex.
func (r rule) inner(f, v int) parts {
	n, round := len(r.faces[v]), true
	for w := range r.ends[v] {
		round = round && len(r.both(v, w)) == 2
	}
	if !round || len(r.sharp(v)) >= 2 {
		n = 4
	}
	list := []parts{exact(r.c.Verts[v]), {}, {}, {}}
	face := r.c.Faces[f]
	for i, w := range face {
		switch face[(i+2)%4] {
		case v:
			list[3] = exact(r.c.Verts[w])
		default:
			if face[(i+1)%4] == v {
				list[1] = exact(r.c.Verts[w])
			} else if face[(i+3)%4] == v {
				list[2] = exact(r.c.Verts[w])
			}
		}
	}
	return r.mean(n+5, []int{n, 2, 2, 1}, list)
}

// inners: the inner points at a vertex of some faces, together, of how many they are.
func (r rule) inners(v int, faces []int) parts {
	var list []parts
	for _, f := range faces {
		list = append(list, r.inner(f, v))
	}
	return r.mean(len(list), []int{1}, list)
}

// near: the point on the edge from v to w that is near v.
func (r rule) near(v, w int) parts {
	if r.ends[v][w] > 0 {
		return r.mean(3, []int{2, 1}, []parts{exact(r.c.Verts[v]), exact(r.c.Verts[w])})
	}
	return r.inners(v, r.both(v, w))
}

// corner: the point at a vertex.
func (r rule) corner(v int) parts {
	sharp := r.sharp(v)
	switch len(sharp) {
	case 0, 1:
		return r.inners(v, r.faces[v])
	case 2:
		return r.mean(6, []int{4, 1}, append([]parts{exact(r.c.Verts[v])}, sharp...))
	}
	return exact(r.c.Verts[v])
}

// points: a face's control points, by rows.
func (r rule) points(f int) [16]parts {
	a, b, c, d := r.c.Faces[f][0], r.c.Faces[f][1], r.c.Faces[f][2], r.c.Faces[f][3]
	return [16]parts{
		r.corner(a), r.near(a, b), r.near(b, a), r.corner(b),
		r.near(a, d), r.inner(f, a), r.inner(f, b), r.near(b, c),
		r.near(d, a), r.inner(f, d), r.inner(f, c), r.near(c, b),
		r.corner(d), r.near(d, c), r.near(c, d), r.corner(c),
	}
}

// normal: a vertex's normal.
func (r rule) normal(v int) api.V {
	var sum [3]int
	for _, f := range r.faces[v] {
		face := r.c.Faces[f]
		p, q, s, u := r.c.Verts[face[0]], r.c.Verts[face[1]], r.c.Verts[face[2]], r.c.Verts[face[3]]
		x, y := [3]int{s.X - p.X, s.Y - p.Y, s.Z - p.Z}, [3]int{u.X - q.X, u.Y - q.Y, u.Z - q.Z}
		for i := range sum {
			j, k := (i+1)%3, (i+2)%3
			sum[i] += x[j]*y[k] - x[k]*y[j]
		}
	}
	for max(sum[0], -sum[0], sum[1], -sum[1], sum[2], -sum[2]) > 1023 {
		for i := range sum {
			sum[i] /= 2
		}
	}
	return api.V{X: sum[0], Y: sum[1], Z: sum[2]}
}

// fault: the error that the chapter tells for a cage.
func fault(c api.Cage) api.Errno {
	if _, e := sub.Level(c); e != api.OK {
		return e
	}
	for _, face := range c.Faces {
		if len(face) != 4 {
			return api.ErrForm
		}
	}
	return api.OK
}

// hold: does Build answer what the chapter's words say? Tells the patches, and whether there are any.
func hold(t *testing.T, c api.Cage) ([]api.Patch, bool) {
	t.Helper()
	if want := fault(c); want != api.OK {
		wrong(t, c, want)
		return nil, false
	}
	list, r := built(t, c, 9), ruled(c)
	for f, p := range list {
		for i, want := range r.points(f) {
			if !exact(p.P[i]).equal(want) {
				t.Error(c, f, i, p.P[i], "not", want)
			}
		}
		if p.Corners != [4]int(c.Faces[f]) || p.Skin != 9 {
			t.Error(c, f, p)
		}
		for k, v := range p.Corners {
			if want := r.normal(v); p.Normals[k] != want {
				t.Error(c, f, k, p.Normals[k], "not", want)
			}
		}
	}
	return list, len(list) > 0
}

// seam is what a patch has along an edge, from its first vertex to its second one.
type seam struct{ a, b, c, d, first, last api.V }

// sound: are the control points in the cage's box, and have patches with an edge or a corner in common the same there?
func sound(t *testing.T, c api.Cage, list []api.Patch) {
	t.Helper()
	box, _ := vec.Bound(c.Verts)
	seams := map[[2]int]seam{}
	corners := map[int][2]api.V{}
	for _, p := range list {
		for _, q := range p.P {
			if !vec.Has(box, q) {
				t.Error(c, p.Corners, q)
			}
		}
		for k, at := range [4][4]int{{0, 1, 2, 3}, {3, 7, 11, 15}, {15, 14, 13, 12}, {12, 8, 4, 0}} {
			v, w := p.Corners[k], p.Corners[(k+1)%4]
			s := seam{p.P[at[0]], p.P[at[1]], p.P[at[2]], p.P[at[3]], p.Normals[k], p.Normals[(k+1)%4]}
			if other, ok := seams[[2]int{w, v}]; ok && other != (seam{s.d, s.c, s.b, s.a, s.last, s.first}) {
				t.Error(c, v, w, s, other)
			}
			seams[[2]int{v, w}] = s
			here := [2]api.V{s.a, s.first}
			if other, ok := corners[v]; ok && other != here {
				t.Error(c, v, here, other)
			}
			corners[v] = here
		}
	}
}

func TestCages(t *testing.T) { // P10.1, P10.2: surfaces of many kinds, anywhere, with creases of all kinds
	r := dice(1)
	for range 400 {
		c := r.cage()
		list, ok := hold(t, c)
		if !ok {
			t.Fatal(c)
		}
		sound(t, c, list)
	}
}

func TestFiner(t *testing.T) { // P10.1, P10.2: cages of any faces that were made finer
	r := dice(2)
	for range 60 {
		c := r.surface()
		for f, face := range c.Faces {
			// Some faces become two triangles.
			if r.below(3) == 0 {
				c.Faces[f] = []int{face[0], face[1], face[2]}
				c.Faces = append(c.Faces, []int{face[0], face[2], face[3]})
			}
		}
		c, e := sub.Level(r.folded(r.placed(r.stirred(c))))
		if e == api.ErrForm {
			continue // two triangles, whose edge was there already
		}
		list, ok := hold(t, c)
		if !ok {
			t.Fatal(c)
		}
		sound(t, c, list)
	}
}

func TestAround(t *testing.T) { // P10.1, P10.2: 2 to 16 faces around a vertex, all of its edges blunt, or some sharp
	r := dice(3)
	for n := 2; n <= 16; n++ {
		for count := range 5 {
			c := r.placed(kites(n, n == 2 || r.below(2) == 0))
			for _, k := range r.shuffled(n)[:min(count, n)] {
				c.Creases = append(c.Creases, api.Crease{A: 0, B: 1 + 2*k, S: 1 + r.below(255)})
			}
			list, ok := hold(t, c)
			if !ok {
				t.Fatal(c)
			}
			sound(t, c, list)
		}
	}
}

// blend: points, each as often as its weight.
func blend(weights []*big.Rat, list []parts) parts {
	var sum parts
	for i := range sum {
		sum[i] = new(big.Rat)
		for k, p := range list {
			sum[i].Add(sum[i], new(big.Rat).Mul(p[i], weights[k]))
		}
	}
	return sum
}

// weights: of a cubic by its control points, and of the uniform cubic spline, at i of 4.
func weights(i int64) (cubic, spline []*big.Rat) {
	u, v := i, 4-i
	for _, n := range []int64{v * v * v, 3 * v * v * u, 3 * v * u * u, u * u * u} {
		cubic = append(cubic, big.NewRat(n, 64))
	}
	// Of 6: (1 - t)^3, 3 t^3 - 6 t^2 + 4, -3 t^3 + 3 t^2 + 3 t + 1, t^3.
	for _, n := range []int64{v * v * v, 3*u*u*u - 24*u*u + 256, -3*u*u*u + 12*u*u + 48*u + 64, u * u * u} {
		spline = append(spline, big.NewRat(n, 384))
	}
	return cubic, spline
}

// tensor: the point that 16 others tell, by rows.
func tensor(row, column []*big.Rat, list []parts) parts {
	var rows []parts
	for k := range 4 {
		rows = append(rows, blend(row, list[4*k:4*k+4]))
	}
	return blend(column, rows)
}

func TestNearSpline(t *testing.T) { // P10.2: within two units of the spline, where four faces are around all corners
	r := dice(4)
	two := big.NewRat(2, 1)
	for range 25 {
		w, h := 3+r.below(3), 3+r.below(3)
		c := r.placed(grid(w, h, true, true))
		for f, p := range built(t, c, 0) {
			var around, own []parts
			for k := range 16 {
				x, y := (f%w+k%4+w-1)%w, (f/w+k/4+h-1)%h
				around = append(around, exact(c.Verts[y*w+x]))
				own = append(own, exact(p.P[k]))
			}
			for at := range int64(25) {
				rowCubic, rowSpline := weights(at % 5)
				cubic, spline := weights(at / 5)
				got, want := tensor(rowCubic, cubic, own), tensor(rowSpline, spline, around)
				for i := range got {
					if d := new(big.Rat).Sub(got[i], want[i]); d.Abs(d).Cmp(two) > 0 {
						t.Error(c, f, at, d)
					}
				}
			}
		}
	}
}

// spoiled: a cage with something changed.
func (r *dice) spoiled(c api.Cage) api.Cage {
	faces := slices.Clone(c.Faces)
	k := r.below(len(faces))
	face := slices.Clone(faces[k])
	faces[k] = face
	switch r.below(9) {
	case 0: // a face less
		faces = slices.Delete(faces, k, k+1)
	case 1: // a face the other way round
		slices.Reverse(face)
	case 2: // another corner
		face[r.below(len(face))] = r.below(len(c.Verts)+2) - 1
	case 3: // a vertex more
		c.Verts = append(slices.Clone(c.Verts), api.V{})
	case 4: // a corner more, or less
		if r.below(2) == 0 {
			faces[k] = face[1:]
		} else {
			faces[k] = append(face, len(c.Verts))
			c.Verts = append(slices.Clone(c.Verts), api.V{})
		}
	case 5: // a vertex that is far
		c.Verts = slices.Clone(c.Verts)
		c.Verts[r.below(len(c.Verts))].Z = 65537 - 131074*r.below(2)
	case 6: // a vertex that is at the end
		c.Verts = slices.Clone(c.Verts)
		c.Verts[r.below(len(c.Verts))].X = 65536 - 131072*r.below(2)
	default: // a crease anywhere
		c.Creases = append(slices.Clone(c.Creases), api.Crease{A: r.below(len(c.Verts)+1) - 1, B: r.below(len(c.Verts) + 1), S: r.sharpness()})
	}
	c.Faces = faces
	return c
}

func TestSpoiled(t *testing.T) { // P10.1: cages with something changed; some of them have patches still
	r := dice(5)
	ok := 0
	for range 1500 {
		c := r.cage()
		for range 1 + r.below(2) {
			if len(c.Faces) > 0 && len(c.Faces[0]) > 0 {
				c = r.spoiled(c)
			}
		}
		if list, some := hold(t, c); some {
			ok++
			sound(t, c, list)
		}
	}
	if ok < 200 || ok > 1200 {
		t.Error(ok)
	}
}

func FuzzAnyCage(f *testing.F) { // P1, P10.1: it answers at all cages
	f.Add([]byte{0, 0, 0, 4, 0, 0, 0, 4, 0, 0, 0, 4}, []byte{0, 1, 2, 3, 255, 3, 2, 1, 0}, []byte{0, 1, 9}, 16384, 3)
	f.Add([]byte{}, []byte{}, []byte{}, 0, 0)
	f.Fuzz(func(t *testing.T, verts, faces, creases []byte, scale, skin int) {
		if len(verts) > 60 || len(faces) > 60 || len(creases) > 60 {
			return
		}
		var c api.Cage
		for i := 0; i+3 <= len(verts); i += 3 {
			c.Verts = append(c.Verts, api.V{X: int(int8(verts[i])) * scale, Y: int(int8(verts[i+1])) * scale, Z: int(int8(verts[i+2])) * scale})
		}
		if len(faces) > 0 {
			c.Faces = append(c.Faces, nil)
		}
		for _, b := range faces {
			if b == 255 {
				c.Faces = append(c.Faces, nil)
			} else {
				c.Faces[len(c.Faces)-1] = append(c.Faces[len(c.Faces)-1], int(int8(b)))
			}
		}
		for i := 0; i+3 <= len(creases); i += 3 {
			c.Creases = append(c.Creases, api.Crease{A: int(int8(creases[i])), B: int(int8(creases[i+1])), S: int(creases[i+2])})
		}
		if list, ok := hold(t, c); ok {
			sound(t, c, list)
			for _, p := range built(t, c, skin) {
				if p.Skin != skin {
					t.Error(p.Skin, skin)
				}
			}
		}
	})
}
