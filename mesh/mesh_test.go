package mesh

import (
	"math"
	"slices"
	"testing"

	"relievo/api"
	"relievo/weave"
)

const most, least = math.MaxInt64, math.MinInt64

// diced: a patch's mesh, where there must be one.
func diced(t testing.TB, p api.Patch, cage, patch int, s api.Skin, texs ...api.Tex) api.Mesh {
	t.Helper()
	m, e := Dice(p, cage, patch, s, texs)
	if e != api.OK || len(m.Verts) < 4 || len(m.Keys) != len(m.Verts) || len(m.Tris) < 2 {
		t.Fatal("Dice", s, len(m.Verts), len(m.Keys), len(m.Tris), int(e))
	}
	return m
}

// noMesh: does Dice answer this error, and nothing else?
func noMesh(t *testing.T, want api.Errno, p api.Patch, s api.Skin, texs ...api.Tex) {
	t.Helper()
	if m, e := Dice(p, 3, 5, s, texs); e != want || len(m.Verts) != 0 || len(m.Keys) != 0 || len(m.Tris) != 0 {
		t.Error("Dice", s, len(texs), len(m.Verts), len(m.Keys), len(m.Tris), int(e), "not", int(want))
	}
}

// boxed: a patch's bounds, where there must be some.
func boxed(t testing.TB, p api.Patch, s api.Skin) api.Box {
	t.Helper()
	b, e := Bounds(p, s)
	if e != api.OK {
		t.Fatal("Bounds", s, int(e))
	}
	return b
}

// noBox: does Bounds answer this error, and nothing else?
func noBox(t *testing.T, want api.Errno, p api.Patch, s api.Skin) {
	t.Helper()
	if b, e := Bounds(p, s); e != want || b != (api.Box{}) {
		t.Error("Bounds", s, b, int(e), "not", int(want))
	}
}

// flat: a square 36 wide, whose normals go up.
func flat() api.Patch {
	p := api.Patch{Corners: [4]int{7, 1, 2, 9}}
	for k := range p.P {
		p.P[k] = api.V{X: 12 * (k % 4), Y: 12 * (k / 4)}
	}
	for k := range p.Normals {
		p.Normals[k] = api.V{Z: 1000}
	}
	return p
}

// plain: a skin without a texture.
func plain(unit int) api.Skin { return api.Skin{Unit: unit, Tex: -1} }

// lifting: a skin that the first texture lifts.
func lifting(unit, height int) api.Skin { return api.Skin{Unit: unit, Height: height} }

// even: a texture of one texel.
func even(texel int) api.Tex { return api.Tex{Name: "even", W: 1, H: 1, Rows: []int{texel}} }

// check: are a mesh's vertices and keys just these?
func check(t *testing.T, m api.Mesh, verts []api.V, keys []api.Key) {
	t.Helper()
	if !slices.Equal(m.Verts, verts) {
		t.Error("vertices", m.Verts, "not", verts)
	}
	if !slices.Equal(m.Keys, keys) {
		t.Error("keys", m.Keys, "not", keys)
	}
}

// named: keys by what each line tells: a kind, of what, A, B, the number.
func named(lines ...[5]int) []api.Key {
	var list []api.Key
	for _, l := range lines {
		list = append(list, api.Key{Kind: l[0], Of: l[1], A: l[2], B: l[3], N: l[4]})
	}
	return list
}

func TestSquare(t *testing.T) { // P15.1: the chapter's example
	for _, unit := range []int{37, 40, 1 << 20, 1 << 32, most} {
		m := diced(t, flat(), 3, 5, plain(unit))
		check(t, m, []api.V{{}, {X: 36}, {X: 36, Y: 36}, {Y: 36}},
			named([5]int{1, 3, 7, 0, 0}, [5]int{1, 3, 1, 0, 0}, [5]int{1, 3, 2, 0, 0}, [5]int{1, 3, 9, 0, 0}))
		if !slices.Equal(m.Tris, [][3]int{{0, 1, 2}, {0, 2, 3}}) {
			t.Error(unit, m.Tris)
		}
	}
}

func TestFourSquares(t *testing.T) { // P15.1: a unit that goes once into each side
	for _, unit := range []int{19, 30, 36} {
		m := diced(t, flat(), 3, 5, plain(unit))
		check(t, m, []api.V{{}, {X: 36}, {X: 36, Y: 36}, {Y: 36}, {X: 18}, {X: 36, Y: 18}, {X: 18, Y: 36}, {Y: 18}, {X: 18, Y: 18}},
			named([5]int{1, 3, 7, 0, 0}, [5]int{1, 3, 1, 0, 0}, [5]int{1, 3, 2, 0, 0}, [5]int{1, 3, 9, 0, 0},
				[5]int{2, 3, 1, 7, 1}, [5]int{2, 3, 1, 2, 1}, [5]int{2, 3, 2, 9, 1}, [5]int{2, 3, 7, 9, 1},
				[5]int{3, 5, 1, 1, 0}))
		if !slices.Equal(m.Tris, [][3]int{{0, 4, 8}, {4, 1, 8}, {1, 5, 8}, {5, 2, 8}, {2, 6, 8}, {6, 3, 8}, {3, 7, 8}, {7, 0, 8}}) {
			t.Error(unit, m.Tris)
		}
	}
}

// humped: a flat square one of whose sides has a hump near its first corner, which makes it 56 long.
func humped() api.Patch {
	p := flat()
	p.P[1].Z = 10
	return p
}

func TestUnlikeSides(t *testing.T) { // P15.1: three parts and two, with rounded places
	m := diced(t, humped(), 0, 0, plain(19))
	check(t, m,
		[]api.V{{}, {X: 36}, {X: 36, Y: 36}, {Y: 36},
			{X: 12, Z: 4}, {X: 24, Z: 2}, // 12 and 6 times 10, of 27
			{X: 36, Y: 18}, {X: 18, Y: 36}, {Y: 18},
			{X: 12, Y: 12, Z: 1}, {X: 24, Y: 12, Z: 1}, {X: 12, Y: 24}, {X: 24, Y: 24}}, // 960, 480, 120 and 60, of 729
		named([5]int{1, 0, 7, 0, 0}, [5]int{1, 0, 1, 0, 0}, [5]int{1, 0, 2, 0, 0}, [5]int{1, 0, 9, 0, 0},
			[5]int{2, 0, 1, 7, 2}, [5]int{2, 0, 1, 7, 1}, // from 1 on, to 7
			[5]int{2, 0, 1, 2, 1}, [5]int{2, 0, 2, 9, 1}, [5]int{2, 0, 7, 9, 1},
			[5]int{3, 0, 1, 1, 0}, [5]int{3, 0, 2, 1, 0}, [5]int{3, 0, 1, 2, 0}, [5]int{3, 0, 2, 2, 0}))
	if _, tris, _ := weave.Weave([4]int{3, 2, 2, 2}); !slices.Equal(m.Tris, tris) {
		t.Error(m.Tris, tris)
	}
}

func TestEachSideLong(t *testing.T) { // P15.1: whichever side has the most parts, the inner ones go by it
	for side, at := range [4]int{1, 7, 14, 8} {
		p := flat()
		p.P[at].Z = 10
		rates := [4]int{2, 2, 2, 2}
		rates[side] = 3
		m := diced(t, p, 0, 4, plain(19))
		_, tris, _ := weave.Weave(rates)
		if !slices.Equal(m.Tris, tris) {
			t.Error(side, m.Tris, tris)
		}
		for k, want := range named([5]int{3, 4, 1, 1, 0}, [5]int{3, 4, 2, 1, 0}, [5]int{3, 4, 1, 2, 0}, [5]int{3, 4, 2, 2, 0}) {
			if got, v := m.Keys[9+k], m.Verts[9+k]; got != want || v.X != 12*want.A || v.Y != 12*want.B {
				t.Error(side, got, v, want)
			}
		}
	}
}

func TestMostParts(t *testing.T) { // P15.1: no side has more than 16 parts
	for _, unit := range []int{1, 2} {
		m := diced(t, flat(), 1, 2, plain(unit))
		if len(m.Verts) != 17*17 || len(m.Tris) != 2*16*16 {
			t.Error(unit, len(m.Verts), len(m.Tris))
		}
	}
}

func TestEdgeKeys(t *testing.T) { // P15.1: an edge's lower vertex first, and numbers from it on; of two alike that of the side's first corner
	for _, c := range []struct {
		corners [4]int
		want    [4][5]int // of the first vertex of each side
	}{
		{[4]int{0, 1, 2, 3}, [4][5]int{{2, 8, 0, 1, 1}, {2, 8, 1, 2, 1}, {2, 8, 2, 3, 1}, {2, 8, 0, 3, 3}}},
		{[4]int{3, 2, 1, 0}, [4][5]int{{2, 8, 2, 3, 3}, {2, 8, 1, 2, 3}, {2, 8, 0, 1, 3}, {2, 8, 0, 3, 1}}},
		{[4]int{5, 9, 5, 2}, [4][5]int{{2, 8, 5, 9, 1}, {2, 8, 5, 9, 3}, {2, 8, 2, 5, 3}, {2, 8, 2, 5, 1}}},
		{[4]int{4, 4, 4, 4}, [4][5]int{{2, 8, 4, 4, 1}, {2, 8, 4, 4, 1}, {2, 8, 4, 4, 1}, {2, 8, 4, 4, 1}}},
		{[4]int{-1, -2, most, least}, [4][5]int{{2, 8, -2, -1, 3}, {2, 8, -2, most, 1}, {2, 8, least, most, 3}, {2, 8, least, -1, 1}}},
	} {
		p := flat()
		p.Corners = c.corners
		m := diced(t, p, 8, 1, plain(12)) // four parts on each side
		for side, line := range c.want {
			first := named(line)[0]
			for i := range 3 {
				want := first
				if first.N == 1 {
					want.N += i
				} else {
					want.N -= i
				}
				if got := m.Keys[4+3*side+i]; got != want {
					t.Error(c.corners, side, i, got, want)
				}
			}
		}
		for k, v := range c.corners {
			if m.Keys[k] != (api.Key{Kind: 1, Of: 8, A: v}) {
				t.Error(c.corners, m.Keys[k])
			}
		}
	}
}

func TestAnyNumbers(t *testing.T) { // P1, P15.1: a cage's and a patch's number, and the skin's other fields, are whatever they are
	want := diced(t, flat(), 3, 5, plain(30))
	for _, n := range []int{0, -1, 1 << 40, most, least} {
		s := plain(30)
		s.Name, s.Mat, s.Levels = "any", n, n
		p := flat()
		p.Skin = n
		m := diced(t, p, n, -n, s)
		for k, key := range m.Keys {
			of := n
			if key.Kind == api.KInner {
				of = -n
			}
			if key.Of != of {
				t.Error(k, key)
			}
		}
		if !slices.Equal(m.Verts, want.Verts) || !slices.Equal(m.Tris, want.Tris) {
			t.Error(n, m)
		}
	}
}

// spread: a flat square each of whose normals goes another way.
func spread() api.Patch {
	p := flat()
	p.Normals = [4]api.V{{Z: 1000}, {Z: -1000}, {X: 1000}, {Y: 1000}}
	return p
}

func TestDirections(t *testing.T) { // P15.1: along which direction each vertex is lifted
	m := diced(t, spread(), 0, 0, lifting(30, 255), even(255))
	for k, want := range []api.V{
		{Z: 249}, {X: 36, Z: -249}, {X: 36 + 249, Y: 36}, {Y: 36 + 249}, // 249 1/64
		{X: 18}, {X: 36 + 125, Y: 18, Z: -125}, {X: 18 + 125, Y: 36 + 125}, {Y: 18 + 125, Z: 125}, // half of both: 124 33/64
		{X: 18 + 62, Y: 18 + 62}, // a quarter of all: 62 65/256
	} {
		if m.Verts[k] != want {
			t.Error(k, m.Verts[k], "not", want)
		}
	}
	// Of three parts, and of two: 667 and 333, told from each side's first corner on.
	p := humped()
	p.P[1].Z = 0
	p.P[1].Y = -10
	p.Normals = spread().Normals
	m = diced(t, p, 0, 0, lifting(19, 255), even(255))
	for k, want := range map[int]api.V{
		4: {X: 12, Y: -4, Z: 83}, 5: {X: 24, Y: -2, Z: -83}, // 333: 82 237/256
		6: {X: 36 + 125, Y: 18, Z: -125}, 8: {Y: 18 + 125, Z: 125},
		9:  {X: 12 + 28, Y: 11 + 55, Z: 55},  // (0, 0, 333) and (333, 667, 0): (111, 222, 222)
		10: {X: 24 + 55, Y: 11 + 28, Z: -55}, // (0, 0, -333) and (667, 333, 0): (222, 111, -222)
		11: {X: 12 + 55, Y: 24 + 111, Z: 28}, // (222, 445, 111)
		12: {X: 24 + 111, Y: 24 + 55, Z: -28},
	} {
		if m.Verts[k] != want {
			t.Error(k, m.Verts[k], "not", want)
		}
	}
}

func TestTexels(t *testing.T) { // P15.1: by the texel at each vertex, where it is unless it is lifted
	tex := api.Tex{Name: "rows", W: 3, H: 3, Rows: []int{0, 51, 255, 102, 153, 204, 25, 50, 75}}
	p := flat()
	for k := range p.Normals {
		p.Normals[k] = api.V{Z: 512}
	}
	check := func(p api.Patch, z []int) {
		t.Helper()
		m, was := diced(t, p, 0, 0, lifting(30, 255), tex), diced(t, p, 0, 0, plain(30))
		for k, high := range z {
			want := was.Verts[k]
			want.Z += high
			if m.Verts[k] != want {
				t.Error(k, m.Verts[k], "not", want)
			}
		}
	}
	// The corners first, as they go round, then the sides' midsts, and the midst: half of each texel, halves up.
	check(p, []int{0, 128, 38, 13, 26, 102, 25, 51, 77})
	for k := range p.P { // a column and two rows back, so that some are below 0
		p.P[k].X -= 16
		p.P[k].Z -= 32
	}
	check(p, []int{102, 77, 26, 128, 51, 25, 0, 38, 13})
}

func TestWhichTexture(t *testing.T) { // P15.1: Tex tells which of the textures it is
	p := flat()
	texs := []api.Tex{even(255), even(0), even(128)}
	for k, z := range []int{100, 0, 50} {
		s := lifting(40, 102)
		s.Tex = k
		if got := diced(t, p, 0, 0, s, texs...).Verts[0]; got != (api.V{Z: z}) {
			t.Error(k, got)
		}
	}
}

func TestNothingLifts(t *testing.T) { // P15.1: neither without a texture nor without a height; texels of 0 lift nothing
	p := spread()
	for _, unit := range []int{1, 7, 30, 40} {
		want := diced(t, p, 1, 2, plain(unit))
		high := plain(unit)
		high.Height = 255
		for k, m := range []api.Mesh{
			diced(t, p, 1, 2, high),
			diced(t, p, 1, 2, high, even(255)),
			diced(t, p, 1, 2, lifting(unit, 0), even(255)),
			diced(t, p, 1, 2, lifting(unit, 255), even(0)),
		} {
			if !slices.Equal(m.Verts, want.Verts) || !slices.Equal(m.Keys, want.Keys) || !slices.Equal(m.Tris, want.Tris) {
				t.Error(unit, k, m)
			}
		}
	}
}

// wrongTextures: textures that aren't right.
func wrongTextures() []api.Tex {
	return []api.Tex{
		{}, {W: 1, H: 1}, {W: 1, H: 1, Rows: []int{1, 1}}, {W: 1, H: 1, Rows: []int{-1}}, {W: 1, H: 1, Rows: []int{256}},
		{W: 17, H: 1, Rows: make([]int, 17)}, {W: 0, H: 1}, {W: -1, H: -1, Rows: []int{1}}, {W: 1 << 32, H: 1 << 32},
		{W: 2, H: 2, Rows: []int{0, 0, 0, most}}, // the wrong one is where no vertex is
	}
}

func TestNoTexel(t *testing.T) { // P15.1: a texture that isn't right matters only where it is asked, and after all else
	small := api.Patch{}
	for k, x := range wrongTextures() {
		for _, p := range []api.Patch{flat(), spread(), small} {
			noMesh(t, api.ErrRange, p, lifting(30, 1), x)
			noMesh(t, api.ErrRange, p, lifting(1, 255), x)
			diced(t, p, 0, 0, lifting(30, 0), x)
			diced(t, p, 0, 0, plain(30), x)
			diced(t, p, 0, 0, lifting(30, 9), even(7), x)
			s := lifting(30, 9)
			s.Tex = 1
			noMesh(t, api.ErrRange, p, s, even(7), x)
			diced(t, p, 0, 0, s, x, even(7))
		}
		p := flat()
		p.P[k%16].Y = 60001
		noMesh(t, api.ErrLarge, p, lifting(30, 1), x)
		p = flat()
		p.Normals[k%4].Y = 1024
		noMesh(t, api.ErrLarge, p, lifting(30, 1), x)
	}
}

func TestSkins(t *testing.T) { // P15.1, P15.2: what a unit, a height and a texture may be
	large := flat()
	large.P[0].X = most
	for _, p := range []api.Patch{flat(), large} { // ErrRange is first
		for _, n := range []int{0, -1, -30, -1 << 32, least} {
			noMesh(t, api.ErrRange, p, plain(n))
			noBox(t, api.ErrRange, p, plain(n))
		}
		for _, n := range []int{-1, 256, 257, -255, 1 << 32, 1<<32 + 1, most, least} {
			for _, tex := range []int{-1, 0} {
				s := lifting(30, n)
				s.Tex = tex
				noMesh(t, api.ErrRange, p, s, even(0))
				noBox(t, api.ErrRange, p, s)
			}
		}
		for _, n := range []int{-2, -3, 2, 3, 1 << 32, -1 << 32, most, least} {
			for _, height := range []int{0, 9} {
				s := lifting(30, height)
				s.Tex = n
				noMesh(t, api.ErrRange, p, s, even(0), even(1))
			}
		}
		noMesh(t, api.ErrRange, p, lifting(30, 0))
		noMesh(t, api.ErrRange, p, lifting(30, 1), []api.Tex{}...)
	}
	for _, height := range []int{0, 1, 2, 254, 255} {
		diced(t, flat(), 0, 0, lifting(1, height), even(255))
		boxed(t, flat(), lifting(1, height))
	}
}

// parts: where a point's parts stand.
func parts(v *api.V) []*int { return []*int{&v.X, &v.Y, &v.Z} }

func TestLarge(t *testing.T) { // P15.1, P15.2: each part of each control point within 60,000, of each normal within 1,023
	try := func(bound int, at func(p *api.Patch) *api.V) {
		for k := range 3 {
			for _, n := range []int{bound, -bound, bound - 1, bound + 1, -bound - 1, 65536, 1 << 32, -1 << 32, most, least} {
				p := flat()
				*parts(at(&p))[k] = n
				for _, s := range []api.Skin{plain(40), lifting(1, 255), lifting(1<<20, 0)} {
					if n < -bound || n > bound {
						noMesh(t, api.ErrLarge, p, s, even(255))
						noBox(t, api.ErrLarge, p, s)
					} else {
						diced(t, p, 0, 0, s, even(255))
						boxed(t, p, s)
					}
				}
			}
		}
	}
	for k := range 16 {
		try(60000, func(p *api.Patch) *api.V { return &p.P[k] })
	}
	for k := range 4 {
		try(1023, func(p *api.Patch) *api.V { return &p.Normals[k] })
	}
}

func TestBoundsByHand(t *testing.T) { // P15.2
	p := flat()
	p.P[5], p.P[9], p.P[10] = api.V{X: 12, Y: 12, Z: 70}, api.V{X: -5, Y: 20, Z: -8}, api.V{X: 20, Y: 90}
	for _, c := range []struct{ height, out int }{{0, 2}, {1, 3}, {10, 12}, {255, 257}} {
		want := api.Box{Lo: api.V{X: -5 - c.out, Y: -c.out, Z: -8 - c.out}, Hi: api.V{X: 36 + c.out, Y: 90 + c.out, Z: 70 + c.out}}
		for _, tex := range []int{0, -1, 1, -2, most, least} { // whatever the texture
			for _, unit := range []int{1, 40, most} {
				if got := boxed(t, p, api.Skin{Unit: unit, Height: c.height, Tex: tex}); got != want {
					t.Error(c, tex, unit, got)
				}
			}
		}
	}
	if got := boxed(t, api.Patch{}, plain(1)); got != (api.Box{Lo: api.V{X: -2, Y: -2, Z: -2}, Hi: api.V{X: 2, Y: 2, Z: 2}}) {
		t.Error(got)
	}
}

func TestFarOut(t *testing.T) { // P15.1 to P15.3: all at the bounds' ends
	var p api.Patch
	for k := range p.P {
		p.P[k] = api.V{X: 60000 - k%2*120000, Y: -60000, Z: 60000}
	}
	for k := range p.Normals {
		p.Normals[k] = api.V{X: 1023, Y: -1023, Z: 1023}
	}
	b := boxed(t, p, lifting(1, 255))
	if b != (api.Box{Lo: api.V{X: -60257, Y: -60257, Z: 59743}, Hi: api.V{X: 60257, Y: -59743, Z: 60257}}) {
		t.Error(b)
	}
	m := diced(t, p, 0, 0, lifting(1, 255), even(255))
	if m.Verts[0] != (api.V{X: 60255, Y: -60255, Z: 60255}) || m.Verts[1] != (api.V{X: -59745, Y: -60255, Z: 60255}) {
		t.Error(m.Verts[:4])
	}
}

func TestTri(t *testing.T) { // P1, P15.3
	m := diced(t, flat(), 0, 0, plain(30))
	for i, c := range m.Tris {
		want := api.Tri{A: m.Verts[c[0]], B: m.Verts[c[1]], C: m.Verts[c[2]]}
		if got, ok := Tri(m, i); !ok || got != want {
			t.Error(i, got, ok)
		}
	}
	if got, ok := Tri(m, 1); !ok || got != (api.Tri{A: api.V{X: 18}, B: api.V{X: 36}, C: api.V{X: 18, Y: 18}}) {
		t.Error(got, ok)
	}
	noTri := func(m api.Mesh, i int) {
		t.Helper()
		if got, ok := Tri(m, i); ok || got != (api.Tri{}) {
			t.Error(i, got, ok)
		}
	}
	for _, i := range []int{8, 9, -1, -8, 1 << 32, most, least} {
		noTri(m, i)
		noTri(api.Mesh{}, i)
	}
	noTri(api.Mesh{}, 0)
	noTri(api.Mesh{Tris: [][3]int{{0, 0, 0}}}, 0)
	for k := range 3 {
		for _, v := range []int{9, 10, -1, -9, 1 << 32, most, least} {
			bad := api.Mesh{Verts: m.Verts, Keys: m.Keys, Tris: slices.Clone(m.Tris)}
			bad.Tris[3][k] = v
			noTri(bad, 3)
			for _, i := range []int{2, 4} { // the others are there still
				if got, ok := Tri(bad, i); !ok || got.B != m.Verts[m.Tris[i][1]] {
					t.Error(i, got, ok)
				}
			}
		}
	}
	// A mesh made by hand needs no keys.
	if got, ok := Tri(api.Mesh{Verts: []api.V{{X: 4}}, Tris: [][3]int{{0, 0, 0}}}, 0); !ok || got.C != (api.V{X: 4}) {
		t.Error(got, ok)
	}
}

func TestAsItWas(t *testing.T) { // P15.4: what is handed in stays as it was, what lies behind it too, and isn't kept
	memory := []int{255, 0, 128, 64, 999, -5}
	texs := []api.Tex{{Name: "bark", W: 2, H: 2, Rows: memory[:4]}, even(7), even(8)}
	p := spread()
	m := diced(t, p, 0, 0, lifting(1, 255), texs[:1]...)
	verts := slices.Clone(m.Verts)
	boxed(t, p, lifting(1, 255))
	for i := range m.Tris {
		Tri(m, i)
	}
	if !slices.Equal(memory, []int{255, 0, 128, 64, 999, -5}) || texs[0].Name != "bark" || texs[0].W != 2 || texs[0].H != 2 || len(texs[0].Rows) != 4 {
		t.Error(memory, texs[0])
	}
	if texs[1].Rows[0] != 7 || texs[2].Rows[0] != 8 || !slices.Equal(m.Verts, verts) {
		t.Error(texs, m.Verts)
	}
	clear(memory)
	if got := diced(t, p, 0, 0, lifting(1, 255), texs[:1]...); slices.Equal(got.Verts, verts) || !slices.Equal(m.Verts, verts) {
		t.Error("a texture is kept")
	}
}

func TestNew(t *testing.T) { // P15.4: what is answered is no one else's, its spare room neither
	for _, unit := range []int{1, 5, 19, 40} {
		m := diced(t, humped(), 3, 5, lifting(unit, 9), even(255))
		verts, keys, tris := slices.Clone(m.Verts), slices.Clone(m.Keys), slices.Clone(m.Tris)
		for range 3 {
			x := diced(t, humped(), 3, 5, lifting(unit, 9), even(255))
			clear(x.Verts[:cap(x.Verts)])
			clear(x.Keys[:cap(x.Keys)])
			clear(x.Tris[:cap(x.Tris)])
		}
		if !slices.Equal(m.Verts, verts) || !slices.Equal(m.Keys, keys) || !slices.Equal(m.Tris, tris) {
			t.Error(unit, "share their memory with others")
		}
		again := diced(t, humped(), 3, 5, lifting(unit, 9), even(255))
		if !slices.Equal(again.Verts, verts) || !slices.Equal(again.Keys, keys) || !slices.Equal(again.Tris, tris) {
			t.Error(unit, "another mesh comes of the same patch")
		}
	}
}
