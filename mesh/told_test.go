package mesh

import (
	"slices"
	"testing"

	"relievo/api"
	"relievo/patch"
	"relievo/sub"
	"relievo/weave"
)

// dice: numbers that look like any, the same at each run.
type dice uint64

// below: a number from 0 on, below a bound.
func (r *dice) below(bound int) int {
	*r = *r*6364136223846793005 + 1442695040888963407
	return int(uint64(*r)>>33) % bound
}

// part: one within a bound, now and then at its ends.
func (r *dice) part(bound int) int {
	switch r.below(6) {
	case 0:
		return bound
	case 1:
		return -bound
	}
	return r.below(2*bound+1) - bound
}

// point: one within a bound.
func (r *dice) point(bound int) api.V {
	return api.V{X: r.part(bound), Y: r.part(bound), Z: r.part(bound)}
}

// patch: one within some bound; now and then a part of it is too great.
func (r *dice) patch() api.Patch {
	bound, steep := []int{1, 9, 60, 300, 16384, 60000}[r.below(6)], []int{5, 500, 1022, 1023}[r.below(4)]
	var p api.Patch
	for k := range p.P {
		p.P[k] = r.point(bound)
	}
	for k := range p.Normals {
		p.Normals[k] = r.point(steep)
		p.Corners[k] = r.below(20) - 1
	}
	switch r.below(12) {
	case 0:
		*parts(&p.P[r.below(16)])[r.below(3)] = []int{60001, -60001, 1 << 40, most, least}[r.below(5)]
	case 1:
		*parts(&p.Normals[r.below(4)])[r.below(3)] = []int{1024, -1024, 1 << 40, most, least}[r.below(5)]
	}
	return p
}

// unit: one that cuts what lies within a bound into few parts or many; now and then none.
func (r *dice) unit(bound int) int {
	if r.below(15) == 0 {
		return []int{0, -1, least}[r.below(3)]
	}
	return 1 + r.below([]int{1, bound, 8 * bound, 1 << 40}[r.below(4)])
}

// skin: one for a patch within a bound, for so many textures; now and then a wrong one.
func (r *dice) skin(bound, texs int) api.Skin {
	return api.Skin{Unit: r.unit(bound), Tex: r.below(texs+2) - 1 - r.below(30)/29, Height: []int{0, 1, 100, 254, 255, r.below(258) - 1}[r.below(6)]}
}

// texture: a right one; now and then one that isn't.
func (r *dice) texture() api.Tex {
	x := api.Tex{Name: "any", W: 1 + r.below(16), H: 1 + r.below(16)}
	for range x.W * x.H {
		x.Rows = append(x.Rows, r.below(256))
	}
	switch r.below(15) {
	case 0:
		x.Rows[r.below(len(x.Rows))] = 256
	case 1:
		x.Rows = append(x.Rows, 0)
	}
	return x
}

// within: is each part of all points -bound to bound?
func within(bound int, list []api.V) bool {
	return !slices.ContainsFunc(list, func(v api.V) bool {
		return slices.ContainsFunc(parts(&v), func(part *int) bool { return *part < -bound || *part > bound })
	})
}

// nearest: the whole number that is nearest to n/d, the greater one of two.
func nearest(n, d int) int {
	n, d = 2*n+d, 2*d
	if left := n % d; left < 0 {
		n -= left + d
	}
	return n / d
}

// off: a part of some points.
func off(list []api.V, k int) []int {
	var out []int
	for _, v := range list {
		out = append(out, *parts(&v)[k])
	}
	return out
}

// along: the curve's part at i of n, so many times n^3, without weights: those at i of n between each two neighbours, and so on till one is left.
func along(list []int, i, n int) int {
	for ; len(list) > 1; list = list[:len(list)-1] {
		list = slices.Clone(list)
		for k := range len(list) - 1 {
			list[k] = list[k]*(n-i) + list[k+1]*i
		}
	}
	return list[0]
}

// rows: a patch's control points along each side, as they go round.
var rows = [4][4]int{{0, 1, 2, 3}, {3, 7, 11, 15}, {15, 14, 13, 12}, {12, 8, 4, 0}}

// picked: some of a patch's control points.
func picked(p api.Patch, at [4]int) []api.V {
	return []api.V{p.P[at[0]], p.P[at[1]], p.P[at[2]], p.P[at[3]]}
}

// rateOf: how many parts a side has, by layer 12's words.
func rateOf(list []api.V, unit int) int {
	long := 0
	for k := range 3 {
		for part := range 3 {
			way := *parts(&list[k+1])[part] - *parts(&list[k])[part]
			long += max(way, -way)
		}
	}
	return min(16, 1+long/unit)
}

// floored: a place among so many cells of 16, both ways from 0.
func floored(place, cells int) int { return ((place>>4)%cells + cells) % cells }

// blended: each part of two directions, i of n, rounded.
func blended(a, b api.V, i, n int) api.V {
	var v api.V
	for k, part := range parts(&v) {
		*part = nearest(*parts(&a)[k]*(n-i)+*parts(&b)[k]*i, n)
	}
	return v
}

// spots: where a patch's vertices are, along which directions they are lifted, and their keys, by the chapter's words.
func spots(p api.Patch, cage, number int, rates [4]int) (at, up []api.V, keys []api.Key) {
	most := slices.Max(rates[:])
	add := func(v, n api.V, key api.Key) { at, up, keys = append(at, v), append(up, n), append(keys, key) }
	for k, place := range []int{0, 3, 15, 12} {
		add(p.P[place], p.Normals[k], api.Key{Kind: api.KCorner, Of: cage, A: p.Corners[k]})
	}
	for side, r := range rates {
		from, to := p.Corners[side], p.Corners[(side+1)%4]
		for i := 1; i < r; i++ {
			var v api.V
			for k, part := range parts(&v) {
				*part = nearest(along(off(picked(p, rows[side]), k), i, r), r*r*r)
			}
			key := api.Key{Kind: api.KEdge, Of: cage, A: min(from, to), B: max(from, to), N: i}
			if to < from {
				key.N = r - i
			}
			add(v, blended(p.Normals[side], p.Normals[(side+1)%4], i, r), key)
		}
	}
	for b := 1; b < most; b++ {
		for a := 1; a < most; a++ {
			var v api.V
			for k, part := range parts(&v) {
				var column []int
				for row := range 4 {
					column = append(column, along(off(p.P[4*row:4*row+4], k), a, most))
				}
				*part = nearest(along(column, b, most), most*most*most*most*most*most)
			}
			first, last := blended(p.Normals[0], p.Normals[1], a, most), blended(p.Normals[3], p.Normals[2], a, most)
			add(v, blended(first, last, b, most), api.Key{Kind: api.KInner, Of: number, A: a, B: b})
		}
	}
	return at, up, keys
}

// rightly: is it a right texture?
func rightly(x api.Tex) bool {
	return 1 <= x.W && x.W <= 16 && 1 <= x.H && x.H <= 16 && len(x.Rows) == x.W*x.H &&
		!slices.ContainsFunc(x.Rows, func(texel int) bool { return texel < 0 || texel > 255 })
}

// told: what the chapter tells of Dice.
func told(p api.Patch, cage, number int, s api.Skin, texs []api.Tex) (api.Mesh, api.Errno) {
	switch {
	case s.Unit < 1 || s.Height < 0 || s.Height > 255 || s.Tex < -1 || s.Tex >= len(texs):
		return api.Mesh{}, api.ErrRange
	case !within(60000, p.P[:]) || !within(1023, p.Normals[:]):
		return api.Mesh{}, api.ErrLarge
	case s.Tex >= 0 && s.Height > 0 && !rightly(texs[s.Tex]):
		return api.Mesh{}, api.ErrRange
	}
	var rates [4]int
	for side := range rates {
		rates[side] = rateOf(picked(p, rows[side]), s.Unit)
	}
	var m api.Mesh
	var up []api.V
	m.Verts, up, m.Keys = spots(p, cage, number, rates)
	_, m.Tris, _ = weave.Weave(rates)
	if s.Tex == -1 || s.Height == 0 {
		return m, api.OK
	}
	x := texs[s.Tex]
	for k, v := range m.Verts {
		texel := x.Rows[floored(v.Y+v.Z, x.H)*x.W+floored(v.X, x.W)]
		high := nearest(texel*s.Height, 255)
		for part, n := range parts(&up[k]) {
			*parts(&m.Verts[k])[part] += nearest(high**n, 1024)
		}
	}
	return m, api.OK
}

// held: do Dice, Bounds and Tri answer what the chapter tells?
func held(t *testing.T, p api.Patch, cage, number int, s api.Skin, texs []api.Tex) (api.Mesh, bool) {
	t.Helper()
	want, errno := told(p, cage, number, s, texs)
	got, e := Dice(p, cage, number, s, texs)
	if e != errno || !slices.Equal(got.Verts, want.Verts) || !slices.Equal(got.Keys, want.Keys) || !slices.Equal(got.Tris, want.Tris) {
		t.Fatal("Dice", p, cage, number, s, got, int(e), "not", want, int(errno))
	}
	tex := s
	tex.Tex = -1
	_, errno = told(p, cage, number, tex, nil)
	b, e := Bounds(p, s)
	if want := around(p, s); e != errno || e == api.OK && b != want || e != api.OK && b != (api.Box{}) {
		t.Fatal("Bounds", p, s, b, int(e), "not", want, int(errno))
	}
	for i := -1; i <= len(got.Tris); i++ {
		var want api.Tri
		there := 0 <= i && i < len(got.Tris)
		if there {
			c := got.Tris[i]
			want = api.Tri{A: got.Verts[c[0]], B: got.Verts[c[1]], C: got.Verts[c[2]]}
		}
		if x, ok := Tri(got, i); ok != there || x != want {
			t.Fatal("Tri", i, x, ok)
		}
	}
	for k, v := range got.Verts { // P15.3
		for part := range 3 {
			if n := *parts(&v)[part]; n < *parts(&b.Lo)[part] || n > *parts(&b.Hi)[part] {
				t.Fatal("out of its bounds", p, s, k, v, b)
			}
		}
	}
	return got, len(got.Verts) > 0
}

// around: the box that the chapter tells.
func around(p api.Patch, s api.Skin) api.Box {
	var b api.Box
	for k := range 3 {
		list := off(p.P[:], k)
		*parts(&b.Lo)[k], *parts(&b.Hi)[k] = slices.Min(list)-s.Height-2, slices.Max(list)+s.Height+2
	}
	return b
}

func TestPatches(t *testing.T) { // P15.1 to P15.3: many patches, with skins and textures of all kinds
	r := dice(1)
	good := 0
	for range 3000 {
		var texs []api.Tex
		for range r.below(4) {
			texs = append(texs, r.texture())
		}
		p := r.patch()
		if _, ok := held(t, p, r.below(9), r.below(99), r.skin(max(1, p.P[0].X, p.P[7].Y), len(texs)), texs); ok {
			good++
		}
	}
	if good < 1000 || good > 2800 {
		t.Error(good)
	}
}

func TestSideRates(t *testing.T) { // P15.1: flat patches with any rates, all sides unlike
	r := dice(2)
	for range 300 {
		p := spread()
		for _, at := range []int{1, 4, 11, 14} {
			p.P[at].Z = r.below(250)
		}
		held(t, p, 0, 0, lifting(36, 50), []api.Tex{r.texture()})
	}
}

// grid: squares by rows, w by h of them; with a width or a height that is closed the last ones meet the first ones.
func grid(w, h int, closedW, closedH bool) [][]int {
	across, up := w+1, h+1
	if closedW {
		across = w
	}
	if closedH {
		up = h
	}
	var faces [][]int
	for y := range h {
		for x := range w {
			next, above := (x+1)%across, (y+1)%up*across
			faces = append(faces, []int{y*across + x, y*across + next, above + next, above + x})
		}
	}
	return faces
}

// ball: faces with four corners around two vertices, so many around each.
func ball(n int) [][]int {
	var faces [][]int
	for i := range n {
		a, b, c := 2*i, 2*i+1, (2*i+2)%(2*n)
		faces = append(faces, []int{2 * n, a, b, c}, []int{c, b, 2*n + 1, (2*i + 3) % (2 * n)})
	}
	return faces
}

// fitted: faces that are closed, or nearly so, one of some kinds, and whether they are.
func (r *dice) fitted() ([][]int, bool) {
	switch n := 3 + r.below(3); r.below(7) {
	case 0:
		return grid(1+r.below(4), 1+r.below(4), false, false), false
	case 1:
		return grid(n, 1+r.below(3), true, false), false
	case 2:
		return grid(n, 3, true, true), true
	case 3:
		return ball(n), true
	case 4: // a pillow
		return [][]int{{0, 1, 2, 3}, {3, 2, 1, 0}}, true
	case 5: // a cube
		return [][]int{{0, 3, 2, 1}, {4, 5, 6, 7}, {0, 1, 5, 4}, {1, 2, 6, 5}, {2, 3, 7, 6}, {3, 0, 4, 7}}, true
	}
	return [][]int{{0, 2, 1}, {0, 1, 3}, {1, 2, 3}, {2, 0, 3}}, true // four triangles, which are made finer first
}

// cage: one with faces of some kind, each told from any corner on, vertices anywhere, and creases on some edges.
func (r *dice) cage(bound int) (api.Cage, bool) {
	faces, closed := r.fitted()
	c := api.Cage{Faces: faces}
	for _, face := range faces {
		turn := r.below(len(face))
		slices.Reverse(face[:turn])
		slices.Reverse(face[turn:])
		slices.Reverse(face)
		for i, v := range face {
			for len(c.Verts) <= v {
				c.Verts = append(c.Verts, r.point(bound))
			}
			if r.below(6) == 0 {
				c.Creases = append(c.Creases, api.Crease{A: v, B: face[(i+1)%len(face)], S: 1 + r.below(255)})
			}
		}
	}
	return c, closed
}

// sewn: is there one vertex for each key, and is each edge gone along as often each way, but for the parts of the cage's edges with one face?
func sewn(t *testing.T, c api.Cage, meshes []api.Mesh, closed bool) {
	t.Helper()
	at := map[api.Key]api.V{}
	ways := map[[2]api.Key]int{}
	for _, m := range meshes {
		for k, key := range m.Keys {
			if v, ok := at[key]; ok && v != m.Verts[k] {
				t.Fatal("a crack", key, v, m.Verts[k])
			}
			at[key] = m.Verts[k]
		}
		for _, tri := range m.Tris {
			for k := range 3 {
				ways[[2]api.Key{m.Keys[tri[k]], m.Keys[tri[(k+1)%3]]}]++
			}
		}
	}
	faces := map[[2]int]int{}
	for _, face := range c.Faces {
		for i, v := range face {
			w := face[(i+1)%len(face)]
			faces[[2]int{min(v, w), max(v, w)}]++
		}
	}
	for way, often := range ways {
		// Two patches of one part a side may both have their corners' diagonal.
		left := often - ways[[2]api.Key{way[1], way[0]}]
		if left > 1 || left > 0 && (closed || faces[edge(t, way)] != 1) {
			t.Fatal("a gap", way, often, left)
		}
	}
}

// edge: the cage's edge that a way from a vertex to the next one is a part of.
func edge(t *testing.T, way [2]api.Key) [2]int {
	t.Helper()
	for k, key := range way {
		if key.Kind == api.KEdge {
			e, other := [2]int{key.A, key.B}, way[1-k]
			if other.Kind == api.KEdge && (other.A != key.A || other.B != key.B || max(other.N-key.N, key.N-other.N) != 1) ||
				other.Kind == api.KCorner && other.A != key.A && other.A != key.B || other.Kind == api.KInner {
				t.Fatal("no part of an edge", way)
			}
			return e
		}
	}
	if way[0].Kind != api.KCorner || way[1].Kind != api.KCorner {
		t.Fatal("no part of an edge", way)
	}
	return [2]int{min(way[0].A, way[1].A), max(way[0].A, way[1].A)}
}

func TestCracks(t *testing.T) { // P3, P15.1, P15.3: all patches of a cage, with one skin, lifted or not
	r := dice(3)
	for range 150 {
		bound := []int{4, 50, 1000, 16384}[r.below(4)]
		c, closed := r.cage(bound)
		if len(c.Faces[0]) == 3 || r.below(4) == 0 {
			c, _ = sub.Level(c)
		}
		list, e := patch.Build(c, 0)
		if e != api.OK {
			t.Fatal(c, int(e))
		}
		texs := []api.Tex{r.texture()}
		if !rightly(texs[0]) {
			texs[0] = even(200)
		}
		for _, s := range []api.Skin{plain(1 + r.below(2*bound)), lifting(1+r.below(6*bound), 1+r.below(255))} {
			var meshes []api.Mesh
			keys := 0
			for number, p := range list {
				m, ok := held(t, p, 4, number, s, texs)
				if !ok {
					t.Fatal(p, s)
				}
				meshes = append(meshes, m)
				own := map[api.Key]bool{}
				for _, key := range m.Keys {
					own[key] = true
				}
				keys += len(m.Keys) - len(own)
			}
			if keys != 0 {
				t.Fatal("one key for two vertices", c)
			}
			sewn(t, c, meshes, closed)
		}
	}
}

func FuzzAny(f *testing.F) { // P1, P15.1 to P15.3: it answers at all numbers
	f.Add([]byte{0, 3, 6, 9, 1, 255, 128, 127}, 7, 100, 30, 9, 0, 2, 2, 1, 0)
	f.Add([]byte{1, 2, 3}, 500, 8, 1, 255, 0, 1, 1, 0, 9)
	f.Add([]byte{1}, 60001, 0, 1, 0, -1, 0, 0, 2, 2)
	f.Add([]byte{1}, 0, 1024, 1, 0, -1, 0, 0, most, least)
	f.Add([]byte{}, 0, 0, 0, 0, 0, 0, 0, 0, 0)
	f.Fuzz(func(t *testing.T, bytes []byte, scale, steep, unit, height, tex, w, h, cage, number int) {
		next := 0
		take := func(times int) int {
			if len(bytes) == 0 {
				return 0
			}
			next++
			return int(int8(bytes[next%len(bytes)])) * times
		}
		var p api.Patch
		for k := range p.P {
			p.P[k] = api.V{X: take(scale), Y: take(scale), Z: take(scale)}
		}
		for k := range p.Normals {
			p.Normals[k] = api.V{X: take(steep), Y: take(steep), Z: take(steep)}
			p.Corners[k] = take(1)
		}
		x := api.Tex{W: w, H: h}
		for _, b := range bytes {
			x.Rows = append(x.Rows, int(b)+1-w&1)
		}
		held(t, p, cage, number, api.Skin{Unit: unit, Height: height, Tex: tex}, []api.Tex{even(take(2)), x})
		var m api.Mesh
		for range 4 {
			m.Verts = append(m.Verts, api.V{X: take(scale)})
			m.Tris = append(m.Tris, [3]int{take(w), take(h), take(1)})
		}
		for i, c := range m.Tris {
			there := !slices.ContainsFunc(c[:], func(v int) bool { return v < 0 || v > 3 })
			var want api.Tri
			if there {
				want = api.Tri{A: m.Verts[c[0]], B: m.Verts[c[1]], C: m.Verts[c[2]]}
			}
			if got, ok := Tri(m, i); ok != there || got != want {
				t.Fatal("Tri", m, i, got, ok)
			}
		}
	})
}
