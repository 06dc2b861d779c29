package sub

import (
	"math"
	"math/big"
	"slices"
	"testing"

	"relievo/api"
	"relievo/topo"
	"relievo/vec"
)

// dice: numbers that look like any, the same at each run.
type dice uint64

// below: a number from 0 on, below a bound.
func (r *dice) below(bound int) int {
	*r = *r*6364136223846793005 + 1442695040888963407
	return int(uint64(*r)>>33) % bound
}

// shuffled: the numbers from 0 on, below a bound, in any order.
func (r *dice) shuffled(n int) []int {
	all := make([]int, n)
	for i := range all {
		k := r.below(i + 1)
		all[i], all[k] = all[k], i
	}
	return all
}

// grid: squares by rows, w by h of them; with a width or a height that is closed the last ones meet the first ones.
func grid(w, h int, closedW, closedH bool) api.Cage {
	across, up := w+1, h+1
	if closedW {
		across = w
	}
	if closedH {
		up = h
	}
	c := api.Cage{Verts: make([]api.V, across*up)}
	for y := range h {
		for x := range w {
			c.Faces = append(c.Faces, []int{y*across + x, y*across + (x+1)%across, (y+1)%up*across + (x+1)%across, (y+1)%up*across + x})
		}
	}
	return c
}

// beside: two cages as one.
func beside(a, b api.Cage) api.Cage {
	for _, face := range b.Faces {
		face = slices.Clone(face)
		for i := range face {
			face[i] += len(a.Verts)
		}
		a.Faces = append(a.Faces, face)
	}
	a.Verts = slices.Concat(a.Verts, b.Verts)
	return a
}

// surface: one of some kinds.
func (r *dice) surface() api.Cage {
	switch n, m := 3+r.below(4), 3+r.below(3); r.below(8) {
	case 0:
		return grid(1+r.below(4), 1+r.below(4), false, false)
	case 1:
		return grid(n, 1+r.below(3), true, false)
	case 2:
		return grid(n, m, true, true)
	case 3:
		return cone(n, true)
	case 4:
		return cone(n, false)
	case 5:
		return cube(36)
	case 6:
		return pair()
	}
	return beside(r.surface(), r.surface())
}

// stirred: the same surface with other numbers of its vertices, its faces in another order, each told from another corner on.
func (r *dice) stirred(c api.Cage) api.Cage {
	number := r.shuffled(len(c.Verts))
	all := make([][]int, len(c.Faces))
	for i, k := range r.shuffled(len(c.Faces)) {
		turn := r.below(len(c.Faces[k]))
		for j := range c.Faces[k] {
			all[i] = append(all[i], number[c.Faces[k][(j+turn)%len(c.Faces[k])]])
		}
	}
	return api.Cage{Verts: c.Verts, Faces: all}
}

// placed: the cage with its vertices anywhere within some bound.
func (r *dice) placed(c api.Cage) api.Cage {
	bound := []int{1, 3, 40, 1000, api.MaxCoord, api.MaxSpace}[r.below(6)]
	part := func() int {
		if r.below(4) == 0 {
			return bound - 2*bound*r.below(2)
		}
		return r.below(2*bound+1) - bound
	}
	c.Verts = make([]api.V, len(c.Verts))
	for i := range c.Verts {
		c.Verts[i] = api.V{X: part(), Y: part(), Z: part()}
	}
	return c
}

// folded: the cage with creases on some of its edges, told either way, some of them more than once.
func (r *dice) folded(c api.Cage) api.Cage {
	often := r.below(4)
	for _, face := range c.Faces {
		for i, v := range face {
			if r.below(4) < often && r.below(2) == 0 {
				k := api.Crease{A: v, B: face[(i+1)%len(face)], S: r.sharpness()}
				if r.below(2) == 0 {
					k.A, k.B = k.B, k.A
				}
				c.Creases = append(c.Creases, k)
			}
		}
	}
	return c
}

// sharpness: one of some kinds.
func (r *dice) sharpness() int {
	return []int{math.MinInt, -1, 0, 1, 1, 2, 2, 3, 100, 254, 255, 255, 256, 257, math.MaxInt}[r.below(15)]
}

// cage: a surface with all that belongs to it.
func (r *dice) cage() api.Cage { return r.folded(r.placed(r.stirred(r.surface()))) }

// parts is a point by its parts, which need not be whole.
type parts [3]*big.Rat

// exact: a point by its parts.
func exact(p api.V) parts {
	return parts{new(big.Rat).SetInt64(int64(p.X)), new(big.Rat).SetInt64(int64(p.Y)), new(big.Rat).SetInt64(int64(p.Z))}
}

// rounded: the nearest whole number, of two the greater one.
func rounded(n *big.Rat) *big.Rat {
	n = new(big.Rat).Add(n, big.NewRat(1, 2))
	return new(big.Rat).SetInt(new(big.Int).Div(n.Num(), n.Denom()))
}

// plain: the number itself.
func plain(n *big.Rat) *big.Rat { return n }

// rule is the chapter's rule for one cage, its points rounded, or as they are.
type rule struct {
	c     api.Cage
	edges []api.Edge
	round func(*big.Rat) *big.Rat
}

// mean: some points, and another one so many times, together, of so many.
func (r rule) mean(of, times int, other parts, list ...parts) parts {
	var sum parts
	for i := range sum {
		sum[i] = new(big.Rat).Mul(other[i], big.NewRat(int64(times), 1))
		for _, p := range list {
			sum[i].Add(sum[i], p[i])
		}
		sum[i] = r.round(sum[i].Quo(sum[i], big.NewRat(int64(of), 1)))
	}
	return sum
}

// vert: a coarse vertex.
func (r rule) vert(v int) parts { return exact(r.c.Verts[v]) }

// sharp: an edge's sharpness.
func (r rule) sharp(e api.Edge) int {
	s := 0
	for _, k := range r.c.Creases {
		if min(k.A, k.B) == e.A && max(k.A, k.B) == e.B {
			s = max(s, k.S)
		}
	}
	if e.F < 0 || e.G < 0 {
		s = max(s, 255)
	}
	return s
}

// ofFace: a face's new vertex.
func (r rule) ofFace(f int) parts {
	var list []parts
	for _, v := range r.c.Faces[f] {
		list = append(list, r.vert(v))
	}
	return r.mean(len(list), 0, list[0], list...)
}

// ofEdge: an edge's new vertex.
func (r rule) ofEdge(e api.Edge) parts {
	if r.sharp(e) != 0 {
		return r.mean(2, 1, r.vert(e.A), r.vert(e.B))
	}
	return r.mean(4, 1, r.vert(e.A), r.vert(e.B), r.ofFace(e.F), r.ofFace(e.G))
}

// ofVert: a vertex's new place.
func (r rule) ofVert(v int) parts {
	var ends, sharp, middles []parts
	for _, e := range r.edges {
		if e.A != v && e.B != v {
			continue
		}
		end := r.vert(e.A + e.B - v)
		ends = append(ends, end)
		if r.sharp(e) != 0 {
			sharp = append(sharp, end)
		}
	}
	if len(sharp) >= 3 {
		return r.vert(v)
	}
	if len(sharp) == 2 {
		return r.mean(8, 6, r.vert(v), sharp...)
	}
	for f, face := range r.c.Faces {
		if slices.Contains(face, v) {
			middles = append(middles, r.ofFace(f))
		}
	}
	n := len(middles)
	return r.mean(n*n, n*(n-2), r.vert(v), append(ends, middles...)...)
}

// verts: the finer cage's vertices.
func (r rule) verts() []parts {
	var list []parts
	for v := range r.c.Verts {
		list = append(list, r.ofVert(v))
	}
	for _, e := range r.edges {
		list = append(list, r.ofEdge(e))
	}
	for f := range r.c.Faces {
		list = append(list, r.ofFace(f))
	}
	return list
}

// edge: the number of an edge's new vertex.
func (r rule) edge(a, b int) int {
	return len(r.c.Verts) + slices.IndexFunc(r.edges, func(e api.Edge) bool { return e.A == a && e.B == b || e.A == b && e.B == a })
}

// faces: the finer cage's faces.
func (r rule) faces() [][]int {
	var list [][]int
	for f, face := range r.c.Faces {
		n := len(face)
		for i, v := range face {
			list = append(list, []int{v, r.edge(v, face[(i+1)%n]), len(r.c.Verts) + len(r.edges) + f, r.edge(face[(i+n-1)%n], v)})
		}
	}
	return list
}

// creases: the finer cage's creases.
func (r rule) creases() []api.Crease {
	var list []api.Crease
	for _, e := range r.edges {
		s, two := r.sharp(e), e.F >= 0 && e.G >= 0
		if !two || s == 0 || s == 1 {
			continue
		}
		left := s - 1
		if s == 255 {
			left = 255
		}
		list = append(list, api.Crease{A: e.A, B: r.edge(e.A, e.B), S: left}, api.Crease{A: e.B, B: r.edge(e.A, e.B), S: left})
	}
	return list
}

// fault: the error that the chapter tells for a cage.
func fault(c api.Cage, x api.Topo, e api.Errno) api.Errno {
	if e != api.OK {
		return api.ErrForm
	}
	for _, k := range c.Creases {
		if !slices.ContainsFunc(x.Edges, func(e api.Edge) bool { return e.A == min(k.A, k.B) && e.B == max(k.A, k.B) }) {
			return api.ErrForm
		}
	}
	for _, v := range c.Verts {
		for _, n := range []int{v.X, v.Y, v.Z} {
			if n < -65536 || n > 65536 {
				return api.ErrLarge
			}
		}
	}
	return api.OK
}

// hold: do Level and Sharp answer what the chapter's words say? Tells the finer cage, and whether there is one.
func hold(t *testing.T, c api.Cage) (api.Cage, bool) {
	t.Helper()
	x, e := topo.Build(len(c.Verts), c.Faces)
	want := fault(c, x, e)
	if want == api.ErrForm && e == api.OK {
		blunt(t, c, x)
	}
	if want != api.OK {
		wrong(t, c, want)
		return api.Cage{}, false
	}
	r := rule{c, x.Edges, rounded}
	var list []int
	for _, e := range x.Edges {
		list = append(list, r.sharp(e))
	}
	sharp(t, c, x, list...)
	got := finer(t, c)
	verts := r.verts()
	if len(got.Verts) != len(verts) {
		t.Fatal(c, len(got.Verts), len(verts))
	}
	for v, p := range got.Verts {
		if q := exact(p); q[0].Cmp(verts[v][0]) != 0 || q[1].Cmp(verts[v][1]) != 0 || q[2].Cmp(verts[v][2]) != 0 {
			t.Error(c, v, p, "not", verts[v])
		}
	}
	if want := r.faces(); !slices.EqualFunc(got.Faces, want, slices.Equal[[]int]) {
		t.Error(c, got.Faces, "not", want)
	}
	if want := r.creases(); !slices.Equal(got.Creases, want) {
		t.Error(c, got.Creases, "not", want)
	}
	return got, true
}

// sound: is the finer cage a surface of faces with four corners, in the box of the coarse one, and as near to the rule as promised?
func sound(t *testing.T, c, got api.Cage) {
	t.Helper()
	x := built(t, got)
	if slices.ContainsFunc(got.Faces, func(face []int) bool { return len(face) != 4 }) {
		t.Error(got.Faces)
	}
	if _, e := Sharp(got, x); e != api.OK {
		t.Error(got.Creases)
	}
	box, _ := vec.Bound(c.Verts)
	r := rule{c, built(t, c).Edges, plain}
	one := big.NewRat(1, 1)
	for v, exactly := range r.verts() {
		if !vec.Has(box, got.Verts[v]) {
			t.Error(c, v, got.Verts[v])
		}
		for i, n := range exact(got.Verts[v]) {
			if d := new(big.Rat).Sub(n, exactly[i]); d.Abs(d).Cmp(one) > 0 {
				t.Error(c, v, got.Verts[v], d)
			}
		}
	}
}

func TestCages(t *testing.T) { // P9.1, P9.2: surfaces of many kinds, anywhere, with creases of all kinds
	r := dice(1)
	for range 600 {
		c := r.cage()
		got, ok := hold(t, c)
		if !ok {
			t.Fatal(c)
		}
		sound(t, c, got)
	}
}

func TestCagesTwice(t *testing.T) { // P9.1, P9.2: finer ones, finer still, with new creases or without
	r := dice(2)
	for range 60 {
		c := r.cage()
		if len(c.Verts) > 20 {
			continue
		}
		c = finer(t, c)
		if r.below(3) == 0 {
			c = r.folded(c)
		}
		got, ok := hold(t, c)
		if !ok {
			t.Fatal(c)
		}
		sound(t, c, got)
	}
}

func TestSides(t *testing.T) { // P9.1, P9.2: single faces of 3 to 20 corners, and two of them with an edge in common
	r := dice(3)
	for n := 3; n <= 20; n++ {
		one := api.Cage{Verts: make([]api.V, n), Faces: [][]int{r.shuffled(n)}}
		// Two corners of the one, and as many others as make the second face.
		face := one.Faces[0]
		two := api.Cage{Verts: make([]api.V, 2*n-2), Faces: [][]int{face, {face[1], face[0]}}}
		for v := n; v < 2*n-2; v++ {
			two.Faces[1] = append(two.Faces[1], v)
		}
		for _, c := range []api.Cage{one, two} {
			for range 6 {
				c := r.folded(r.placed(c))
				got, ok := hold(t, c)
				if !ok {
					t.Fatal(c)
				}
				sound(t, c, got)
			}
		}
	}
}

func TestAround(t *testing.T) { // P9.1, P9.2: 3 to 30 faces around a vertex, all of its edges blunt, or some sharp
	r := dice(4)
	for n := 3; n <= 30; n++ {
		for count := range 5 {
			c := r.placed(cone(n, r.below(2) == 0))
			for _, k := range r.shuffled(n)[:min(count, n)] {
				c.Creases = append(c.Creases, api.Crease{A: 0, B: 1 + k, S: 1 + r.below(255)})
			}
			got, ok := hold(t, c)
			if !ok {
				t.Fatal(c)
			}
			sound(t, c, got)
		}
	}
}

// spoiled: a cage with something changed.
func (r *dice) spoiled(c api.Cage) api.Cage {
	faces := slices.Clone(c.Faces)
	k := r.below(len(faces))
	face := slices.Clone(faces[k])
	faces[k] = face
	switch r.below(8) {
	case 0: // a face less
		faces = slices.Delete(faces, k, k+1)
	case 1: // a face the other way round
		slices.Reverse(face)
	case 2: // another corner
		face[r.below(len(face))] = r.below(len(c.Verts)+2) - 1
	case 3: // a vertex more
		c.Verts = append(slices.Clone(c.Verts), api.V{})
	case 4: // a vertex that is far
		c.Verts = slices.Clone(c.Verts)
		c.Verts[r.below(len(c.Verts))].Z = 65537 - 131074*r.below(2)
	case 5: // a vertex that is at the end
		c.Verts = slices.Clone(c.Verts)
		c.Verts[r.below(len(c.Verts))].X = 65536 - 131072*r.below(2)
	default: // a crease anywhere
		c.Creases = append(slices.Clone(c.Creases), api.Crease{A: r.below(len(c.Verts)+1) - 1, B: r.below(len(c.Verts) + 1), S: r.sharpness()})
	}
	c.Faces = faces
	return c
}

func TestSpoiled(t *testing.T) { // P9.1: cages with something changed; some of them are surfaces still
	r := dice(5)
	ok := 0
	for range 1500 {
		c := r.cage()
		for range 1 + r.below(2) {
			if len(c.Faces) > 0 {
				c = r.spoiled(c)
			}
		}
		if got, finer := hold(t, c); finer {
			ok++
			if len(got.Faces) > 0 {
				sound(t, c, got)
			}
		}
	}
	if ok < 200 || ok > 1200 {
		t.Error(ok)
	}
}

func TestOther(t *testing.T) { // P9.1: Sharp of a topo that is another cage's
	r := dice(6)
	none := 0
	for range 500 {
		c, other := r.cage(), r.cage()
		x := built(t, other)
		if fault(api.Cage{Creases: c.Creases}, x, api.OK) != api.OK {
			blunt(t, c, x)
			none++
			continue
		}
		var list []int
		for _, e := range x.Edges {
			list = append(list, rule{c, x.Edges, rounded}.sharp(e))
		}
		sharp(t, c, x, list...)
	}
	if none < 100 || none > 400 {
		t.Error(none)
	}
}

func FuzzAnyCage(f *testing.F) { // P1, P9.1: it answers at all cages
	f.Add([]byte{0, 0, 0, 4, 0, 0, 0, 4, 0, 0, 0, 4}, []byte{0, 1, 2, 255, 2, 1, 3}, []byte{0, 1, 9}, 16384)
	f.Add([]byte{}, []byte{}, []byte{}, 0)
	f.Fuzz(func(t *testing.T, verts, faces, creases []byte, scale int) {
		if len(verts) > 60 || len(faces) > 60 || len(creases) > 60 {
			return
		}
		var c api.Cage
		for i := 0; i+3 <= len(verts); i += 3 {
			c.Verts = append(c.Verts, api.V{X: int(int8(verts[i])) * scale, Y: int(int8(verts[i+1])) * scale, Z: int(int8(verts[i+2])) * scale})
		}
		if len(faces) > 0 {
			c.Faces = append(c.Faces, nil)
		}
		for _, b := range faces {
			if b == 255 {
				c.Faces = append(c.Faces, nil)
			} else {
				c.Faces[len(c.Faces)-1] = append(c.Faces[len(c.Faces)-1], int(int8(b)))
			}
		}
		for i := 0; i+3 <= len(creases); i += 3 {
			c.Creases = append(c.Creases, api.Crease{A: int(int8(creases[i])), B: int(int8(creases[i+1])), S: int(creases[i+2])})
		}
		hold(t, c)
	})
}
