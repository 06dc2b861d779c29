package patch

import (
	"math"
	"reflect"
	"slices"
	"testing"

	"relievo/api"
	"relievo/sub"
)

// built: a cage's patches, without an error.
func built(t testing.TB, c api.Cage, skin int) []api.Patch {
	t.Helper()
	list, e := Build(c, skin)
	if e != api.OK || len(list) != len(c.Faces) {
		t.Fatal(c, len(list), int(e))
	}
	return list
}

// wrong: does Build answer this error, and nothing else?
func wrong(t *testing.T, c api.Cage, want api.Errno) {
	t.Helper()
	if list, e := Build(c, 7); e != want || len(list) != 0 {
		t.Error(len(c.Verts), len(c.Faces), c.Creases, len(list), int(e), "not", int(want))
	}
}

// square: one face with four corners, so many wide.
func square(wide int) api.Cage {
	return api.Cage{Verts: []api.V{{}, {X: wide}, {X: wide, Y: wide}, {Y: wide}}, Faces: [][]int{{0, 1, 2, 3}}}
}

// pillow: two squares with all their edges in common.
func pillow(wide int) api.Cage {
	c := square(wide)
	c.Faces = append(c.Faces, []int{3, 2, 1, 0})
	return c
}

// cube: six squares, so many wide; 0 lies beside 1 (Y), 3 (X) and 4 (Z).
func cube(wide int) api.Cage {
	c := api.Cage{Faces: [][]int{{0, 3, 2, 1}, {4, 5, 6, 7}, {0, 1, 5, 4}, {1, 2, 6, 5}, {2, 3, 7, 6}, {3, 0, 4, 7}}}
	for i := range 8 {
		c.Verts = append(c.Verts, api.V{X: wide * (i % 4 / 2), Y: wide * ((i + 1) % 4 / 2), Z: wide * (i / 4)})
	}
	return c
}

// creased: the cage with creases more.
func creased(c api.Cage, creases ...api.Crease) api.Cage {
	c.Creases = append(slices.Clone(c.Creases), creases...)
	return c
}

// turned: the cage with each face told from so many corners further on.
func turned(c api.Cage, by int) api.Cage {
	c.Faces = slices.Clone(c.Faces)
	for f, face := range c.Faces {
		c.Faces[f] = slices.Concat(face[by:], face[:by])
	}
	return c
}

func TestSquare(t *testing.T) { // P10.1: the chapter's example, told from each corner on
	c := square(18)
	want := api.Patch{
		P: [16]api.V{
			{X: 3, Y: 3}, {X: 6}, {X: 12}, {X: 15, Y: 3},
			{Y: 6}, {X: 6, Y: 6}, {X: 12, Y: 6}, {X: 18, Y: 6},
			{Y: 12}, {X: 6, Y: 12}, {X: 12, Y: 12}, {X: 18, Y: 12},
			{X: 3, Y: 15}, {X: 6, Y: 18}, {X: 12, Y: 18}, {X: 15, Y: 15},
		},
		Corners: [4]int{0, 1, 2, 3},
		Normals: [4]api.V{{Z: 648}, {Z: 648}, {Z: 648}, {Z: 648}},
		Skin:    5,
	}
	for by := range 4 {
		if got := built(t, turned(c, by), 5); got[0] != want {
			t.Errorf("%d: %v\nnot %v", by, got[0], want)
		}
		want.Corners = [4]int{(by + 1) % 4, (by + 2) % 4, (by + 3) % 4, by}
		p := want.P
		for i := range p { // from c1 on, the first row is what was the last one of each row
			want.P[i] = p[i%4*4+3-i/4]
		}
	}
}

func TestSkin(t *testing.T) { // P10.1: Skin as it is handed in
	for _, skin := range []int{0, 1, 7, 8, -1, 1 << 40, math.MinInt, math.MaxInt} {
		for _, p := range built(t, cube(48), skin) {
			if p.Skin != skin {
				t.Error(skin, p.Skin)
			}
		}
	}
}

func TestSlanted(t *testing.T) { // P10.1: which way the rows go, with unlike sides and parts
	c := api.Cage{Verts: []api.V{{Z: 5}, {X: 18, Z: 23}, {X: 18, Y: 36, Z: 23}, {Y: 36, Z: 5}}, Faces: [][]int{{0, 1, 2, 3}}}
	got := built(t, c, 0)[0]
	want := [16]api.V{
		{X: 3, Y: 6, Z: 8}, {X: 6, Z: 11}, {X: 12, Z: 17}, {X: 15, Y: 6, Z: 20},
		{Y: 12, Z: 5}, {X: 6, Y: 12, Z: 11}, {X: 12, Y: 12, Z: 17}, {X: 18, Y: 12, Z: 23},
		{Y: 24, Z: 5}, {X: 6, Y: 24, Z: 11}, {X: 12, Y: 24, Z: 17}, {X: 18, Y: 24, Z: 23},
		{X: 3, Y: 30, Z: 8}, {X: 6, Y: 36, Z: 11}, {X: 12, Y: 36, Z: 17}, {X: 15, Y: 30, Z: 20},
	}
	// (18, 36, 18) x (-18, 36, -18) is (-1296, 0, 1296).
	if n := (api.V{X: -648, Z: 648}); got.P != want || got.Normals != [4]api.V{n, n, n, n} {
		t.Error(got)
	}
}

func TestHalves(t *testing.T) { // P10.1: halves go up, whatever their sign
	// At the first corner, of 6: 3, -3 and 9.
	c := api.Cage{Verts: []api.V{{}, {X: 3, Y: -3, Z: 9}, {}, {}}, Faces: [][]int{{0, 1, 2, 3}}}
	got := built(t, c, 0)[0].P
	for i, want := range map[int]api.V{0: {X: 1, Y: 0, Z: 2}, 1: {X: 1, Y: -1, Z: 3}, 2: {X: 2, Y: -2, Z: 6}, 3: {X: 2, Y: -2, Z: 6}, 5: {X: 1, Y: -1, Z: 2}, 6: {X: 1, Y: -1, Z: 4}, 7: {X: 2, Y: -2, Z: 6}, 10: {X: 1, Y: -1, Z: 2}, 9: {X: 0, Y: 0, Z: 1}, 15: {X: 1, Y: 0, Z: 2}} {
		if got[i] != want {
			t.Error(i, got[i], "not", want)
		}
	}
	// Between two inner points, of 2: 18 and 1 make 9.5, -18 and -1 make -9.5.
	two := api.Cage{Verts: []api.V{{}, {}, {X: 75, Y: -75}, {}, {X: 6, Y: -6}, {}}, Faces: [][]int{{0, 1, 4, 3}, {1, 2, 5, 4}}}
	got = built(t, two, 0)[0].P
	if got[7] != (api.V{X: 10, Y: -9}) || got[5] != (api.V{X: 1, Y: -1}) || got[10] != (api.V{X: 3, Y: -3}) {
		t.Error(got)
	}
}

func TestPillow(t *testing.T) { // P10.1: two faces around each vertex, and normals that are none
	list := built(t, pillow(42), 0)
	row := func(y, first, last int) [4]api.V {
		return [4]api.V{{X: first, Y: y}, {X: first, Y: y}, {X: last, Y: y}, {X: last, Y: y}}
	}
	for k := range 4 {
		y := []int{18, 18, 24, 24}[k]
		if got := [4]api.V(list[0].P[4*k:]); got != row(y, 18, 24) {
			t.Error(k, got)
		}
		if got := [4]api.V(list[1].P[4*(3-k):]); got != row(y, 18, 24) {
			t.Error(k, got)
		}
	}
	for _, p := range list {
		if p.Normals != [4]api.V{} {
			t.Error(p.Normals)
		}
	}
	if list[0].Corners != [4]int{0, 1, 2, 3} || list[1].Corners != [4]int{3, 2, 1, 0} {
		t.Error(list)
	}
}

func TestCube(t *testing.T) { // P10.1: three faces around each vertex
	list := built(t, cube(48), 3)
	want := [16]api.V{
		{X: 12, Y: 12, Z: 12}, {X: 18, Y: 9, Z: 9}, {X: 30, Y: 9, Z: 9}, {X: 36, Y: 12, Z: 12},
		{X: 9, Y: 18, Z: 9}, {X: 18, Y: 18}, {X: 30, Y: 18}, {X: 39, Y: 18, Z: 9},
		{X: 9, Y: 30, Z: 9}, {X: 18, Y: 30}, {X: 30, Y: 30}, {X: 39, Y: 30, Z: 9},
		{X: 12, Y: 36, Z: 12}, {X: 18, Y: 39, Z: 9}, {X: 30, Y: 39, Z: 9}, {X: 36, Y: 36, Z: 12},
	}
	if list[0].P != want {
		t.Error(list[0].P)
	}
	for f, face := range cube(48).Faces {
		if list[f].Corners != [4]int(face) {
			t.Error(f, list[f].Corners)
		}
		// Three times 4,608, each along a part, halved three times, into the cube.
		for k, v := range face {
			p := cube(48).Verts[v]
			if want := (api.V{X: 576 - 24*p.X, Y: 576 - 24*p.Y, Z: 576 - 24*p.Z}); list[f].Normals[k] != want {
				t.Error(f, k, list[f].Normals[k], "not", want)
			}
		}
	}
}

func TestCubeCreased(t *testing.T) { // P10.1: none, one, two, three sharp edges at a vertex, sharp by little or for ever
	y, x, z := api.Crease{A: 0, B: 1}, api.Crease{A: 3, B: 0}, api.Crease{A: 0, B: 4}
	blunt, sharp := 18, 16 // an inner point's part at 0 with three faces counted, or four
	for i, c := range []struct {
		creases []api.Crease
		inner   int
		corner  api.V
		y, x, z api.V // near 0 on each edge
	}{
		{nil, blunt, api.V{X: 12, Y: 12, Z: 12}, api.V{X: 9, Y: 18, Z: 9}, api.V{X: 18, Y: 9, Z: 9}, api.V{X: 9, Y: 9, Z: 18}},
		{[]api.Crease{y}, blunt, api.V{X: 12, Y: 12, Z: 12}, api.V{Y: 16}, api.V{X: 18, Y: 9, Z: 9}, api.V{X: 9, Y: 9, Z: 18}},
		{[]api.Crease{z}, blunt, api.V{X: 12, Y: 12, Z: 12}, api.V{X: 9, Y: 18, Z: 9}, api.V{X: 18, Y: 9, Z: 9}, api.V{Z: 16}},
		{[]api.Crease{y, y}, blunt, api.V{X: 12, Y: 12, Z: 12}, api.V{Y: 16}, api.V{X: 18, Y: 9, Z: 9}, api.V{X: 9, Y: 9, Z: 18}},
		{[]api.Crease{x, y}, sharp, api.V{X: 8, Y: 8}, api.V{Y: 16}, api.V{X: 16}, api.V{X: 8, Y: 8, Z: 16}},
		{[]api.Crease{z, x}, sharp, api.V{X: 8, Z: 8}, api.V{X: 8, Y: 16, Z: 8}, api.V{X: 16}, api.V{Z: 16}},
		{[]api.Crease{y, z, y}, sharp, api.V{Y: 8, Z: 8}, api.V{Y: 16}, api.V{X: 16, Y: 8, Z: 8}, api.V{Z: 16}},
		{[]api.Crease{y, x, z}, sharp, api.V{}, api.V{Y: 16}, api.V{X: 16}, api.V{Z: 16}},
	} {
		plain := built(t, cube(48), 0)
		for _, s := range []int{1, 2, 254, 255, 256, math.MaxInt} {
			creases := slices.Clone(c.creases)
			for k := range creases {
				creases[k].S = s
			}
			list := built(t, creased(cube(48), creases...), 0)
			// Face 0 goes from 0 along x, face 5 comes to 0 along x and goes along z.
			if p := list[0].P; p[0] != c.corner || p[1] != c.x || p[4] != c.y || p[5] != (api.V{X: c.inner, Y: c.inner}) {
				t.Error(i, s, p)
			}
			if p := list[5].P; p[3] != c.corner || p[2] != c.x || p[7] != c.z || p[6] != (api.V{X: c.inner, Z: c.inner}) {
				t.Error(i, s, p)
			}
			// At its other end a sharp edge is the only one.
			beside := plain[0].P[2]
			if slices.ContainsFunc(creases, func(k api.Crease) bool { return k.A == 3 }) {
				beside = api.V{X: 32}
			}
			if p := list[0].P; p[2] != beside || p[3] != plain[0].P[3] || p[6] != plain[0].P[6] || p[7] != plain[0].P[7] {
				t.Error(i, s, p)
			}
			// The faces that 0 isn't in are as ever, and so are all normals and the points across.
			for f, p := range list {
				apart := !slices.Contains(p.Corners[:], 0)
				if apart && p != plain[f] || p.Normals != plain[f].Normals || list[0].P[10] != plain[0].P[10] {
					t.Error(i, s, f, p)
				}
			}
			// Of 0 and below they are none.
			for k := range creases {
				creases[k].S = -s + 1
			}
			if got := built(t, creased(cube(48), creases...), 0); !slices.Equal(got, plain) {
				t.Error(i, s, got)
			}
		}
	}
}

func TestEnds(t *testing.T) { // P10.1: faces at a surface's end, where it isn't round: four are counted, however many there are
	// Two squares: at 1 and 4 there are two faces, and two sharp edges.
	c := api.Cage{Verts: []api.V{{}, {X: 18}, {X: 36}, {Y: 18}, {X: 18, Y: 18}, {X: 36, Y: 18}}, Faces: [][]int{{0, 1, 4, 3}, {1, 2, 5, 4}}}
	want := [16]api.V{
		{X: 3, Y: 3}, {X: 6}, {X: 12}, {X: 18},
		{Y: 6}, {X: 6, Y: 6}, {X: 12, Y: 6}, {X: 18, Y: 6},
		{Y: 12}, {X: 6, Y: 12}, {X: 12, Y: 12}, {X: 18, Y: 12},
		{X: 3, Y: 15}, {X: 6, Y: 18}, {X: 12, Y: 18}, {X: 18, Y: 18},
	}
	if got := built(t, c, 0)[0].P; got != want {
		t.Error(got)
	}
	// An end that a crease is told of too, is one sharp edge still; a crease between the squares is a third one.
	got := built(t, creased(c, api.Crease{A: 0, B: 1, S: 3}, api.Crease{A: 1, B: 0, S: -2}), 0)[0].P
	if got != want {
		t.Error(got)
	}
	bent := c
	bent.Verts = slices.Clone(c.Verts)
	bent.Verts[2].Z, bent.Verts[5].Z = 36, 36
	want[3].Z, want[15].Z = 6, 6
	want[7].Z, want[11].Z = 6, 6
	if got := built(t, bent, 0)[0].P; got != want {
		t.Error(got)
	}
	want[3].Z, want[15].Z = 0, 0
	want[7].Z, want[11].Z = 0, 0
	if got := built(t, creased(bent, api.Crease{A: 4, B: 1, S: 1}), 0)[0].P; got != want {
		t.Error(got)
	}
	// Three squares around a vertex, and a fourth one that isn't there.
	three := api.Cage{Faces: [][]int{{0, 1, 4, 3}, {1, 2, 5, 4}, {3, 4, 7, 6}}}
	for v := range 8 {
		three.Verts = append(three.Verts, api.V{X: 18 * (v%3 - 1), Y: 18 * (v/3 - 1)})
	}
	got = built(t, three, 0)[0].P
	if got[15] != (api.V{X: 3, Y: 3}) || got[10] != (api.V{X: -6, Y: -6}) || got[11] != (api.V{Y: -6}) || got[14] != (api.V{X: -6}) {
		t.Error(got)
	}
}

// weight: of 6, how much a vertex weighs so many control points further on.
func weight(far int) int {
	if far = max(far, -far); far < 4 {
		return []int{4, 4, 2, 1}[far]
	}
	return 0
}

func TestSpline(t *testing.T) { // P10.2: the weights of the uniform bicubic spline around one vertex that is lifted
	c := grid(6, 6, false, false)
	for v := range c.Verts {
		c.Verts[v] = api.V{X: 90 * (v % 7), Y: 90 * (v / 7)}
	}
	c.Verts[3*7+3].Z = 3600
	list := built(t, c, 0)
	for y := 1; y < 5; y++ {
		for x := 1; x < 5; x++ {
			for i, got := range list[6*y+x].P {
				a, b := 3*x+i%4, 3*y+i/4
				if got != (api.V{X: 30 * a, Y: 30 * b, Z: 100 * weight(a-9) * weight(b-9)}) {
					t.Error(x, y, i, got)
				}
			}
		}
	}
}

func TestNormals(t *testing.T) { // P10.1: the sum of all faces, then cut toward 0, all parts alike
	// (1, 0, 0) x (0, Y, Z) is (0, -Z, Y).
	for _, k := range []struct{ y, z, wantY, wantZ int }{
		{0, 0, 0, 0}, {7, 5, -5, 7}, {1023, 1023, -1023, 1023}, {-1023, -1023, 1023, -1023},
		{1024, 1, 0, 512}, {-1, 1024, -512, 0}, {1024, -3, 1, 512}, {2047, 4095, -1023, 511}, {-2047, -4095, 1023, -511},
		{-1025, 3, -1, -512}, {-5, 2 * 65536, -512, 0}, {65536, 65536, -512, 512},
	} {
		half := k.z / 2 // the part may be as great as two bounds
		c := api.Cage{Verts: []api.V{{}, {Z: -half}, {X: 1}, {Y: k.y, Z: k.z - half}}, Faces: [][]int{{0, 1, 2, 3}}}
		want := api.V{Y: k.wantY, Z: k.wantZ}
		if got := built(t, c, 0)[0].Normals; got != [4]api.V{want, want, want, want} {
			t.Error(k, got)
		}
	}
	// The greatest of all: each part of each diagonal from end to end.
	const most = api.MaxSpace
	c := api.Cage{Verts: []api.V{{X: -most, Y: -most}, {X: most, Y: -most, Z: most}, {X: most, Y: most}, {X: -most, Y: most, Z: -most}}, Faces: [][]int{{0, 1, 2, 3}}}
	if got := built(t, c, 0)[0].Normals[0]; got != (api.V{X: -256, Y: 256, Z: 512}) {
		t.Error(got)
	}
	// Two faces with an edge in common: 600 and 800 along Z make 1,400 there, and that is cut.
	two := api.Cage{Verts: []api.V{{}, {X: 20}, {Y: 15}, {X: 20, Y: 15}, {X: 20, Y: 35}, {Y: 35}}, Faces: [][]int{{0, 1, 3, 2}, {2, 3, 4, 5}}}
	list := built(t, two, 0)
	one, both, other := api.V{Z: 600}, api.V{Z: 700}, api.V{Z: 800}
	if list[0].Normals != [4]api.V{one, one, both, both} || list[1].Normals != [4]api.V{both, both, other, other} {
		t.Error(list[0].Normals, list[1].Normals)
	}
}

func TestNothing(t *testing.T) { // P10.1: a cage of nothing has no patches
	for _, c := range []api.Cage{{}, {Verts: []api.V{}, Faces: [][]int{}, Creases: []api.Crease{}}} {
		built(t, c, 5)
	}
}

// notSurfaces: cages whose faces make no surface.
func notSurfaces() []api.Cage {
	return []api.Cage{
		{Verts: make([]api.V, 1)},
		{Faces: [][]int{{0, 1, 2, 3}}},
		{Faces: [][]int{nil}},
		{Verts: make([]api.V, 2), Faces: [][]int{{0, 1}}},
		{Verts: make([]api.V, 4), Faces: [][]int{{}}},
		{Verts: make([]api.V, 4), Faces: [][]int{{0, 1, 2, 4}}},
		{Verts: make([]api.V, 4), Faces: [][]int{{0, -1, 2, 3}}},
		{Verts: make([]api.V, 4), Faces: [][]int{{0, math.MaxInt, math.MinInt, 1}}},
		{Verts: make([]api.V, 4), Faces: [][]int{{0, 1, 2, 1}}},
		{Verts: make([]api.V, 4), Faces: [][]int{{0, 1, 2, 3}, {0, 1, 2, 3}}},
		{Verts: make([]api.V, 5), Faces: [][]int{{0, 1, 2, 3}}},
		{Verts: make([]api.V, 6), Faces: [][]int{{0, 1, 2, 3}, {0, 1, 4, 5}}},
		{Verts: make([]api.V, 7), Faces: [][]int{{0, 1, 2, 3}, {0, 4, 5, 6}}},
		{Verts: cube(48).Verts[:7], Faces: cube(48).Faces},
		{Verts: append(cube(48).Verts, api.V{}), Faces: cube(48).Faces},
	}
}

func TestNoSurface(t *testing.T) { // P10.1: ErrForm, whatever else is wrong
	for _, c := range notSurfaces() {
		wrong(t, c, api.ErrForm)
		wrong(t, creased(c, api.Crease{A: 0, B: 1, S: 1}), api.ErrForm)
		wrong(t, creased(c, api.Crease{A: -1, B: 1, S: 1}), api.ErrForm)
		for i := range c.Verts {
			bad := c
			bad.Verts = slices.Clone(c.Verts)
			bad.Verts[i].Y = 1 << 30
			wrong(t, bad, api.ErrForm)
		}
	}
}

func TestStrangers(t *testing.T) { // P10.1: a crease that no edge is there for, however sharp, is ErrForm
	good := api.Crease{A: 1, B: 0, S: 3}
	for _, c := range []api.Cage{cube(48), square(18)} {
		for _, k := range []api.Crease{{}, {A: 0, B: 2}, {A: 2, B: 0}, {A: 1, B: 1}, {A: 7, B: 1}, {A: 0, B: 8}, {A: 8, B: 9}, {A: -1, B: 0}, {A: math.MinInt, B: math.MaxInt}, {A: 0, B: 1 << 32}} {
			for _, s := range []int{-1, 0, 1, 255, math.MinInt, math.MaxInt} {
				k.S = s
				wrong(t, creased(c, k), api.ErrForm)
				wrong(t, creased(c, good, k), api.ErrForm)
				wrong(t, creased(c, k, good), api.ErrForm)
			}
		}
		built(t, creased(c, good), 0)
	}
	wrong(t, creased(api.Cage{}, api.Crease{}), api.ErrForm)
	wrong(t, creased(api.Cage{}, good), api.ErrForm)
}

func TestLarge(t *testing.T) { // P10.1: each part of each vertex is within MaxSpace; a crease that is wrong comes first, faces with other corners last
	const most = api.MaxSpace
	parts := func(v *api.V) []*int { return []*int{&v.X, &v.Y, &v.Z} }
	three := api.Cage{Verts: make([]api.V, 3), Faces: [][]int{{0, 1, 2}}}
	for _, whole := range []api.Cage{cube(48), square(18), three} {
		for i := range whole.Verts {
			for k := range 3 {
				for _, n := range []int{most, -most, most - 1, 1 - most, most + 1, -most - 1, 1 << 32, -1 << 32, math.MaxInt, -math.MaxInt, math.MinInt} {
					c := whole
					c.Verts = slices.Clone(whole.Verts)
					*parts(&c.Verts[i])[k] = n
					switch {
					case n < -most || n > most:
						wrong(t, c, api.ErrLarge)
						wrong(t, creased(c, api.Crease{A: 0, B: 1, S: 1}), api.ErrLarge)
						wrong(t, creased(c, api.Crease{A: 0, B: 8, S: 1}), api.ErrForm)
					case len(whole.Verts) == 3:
						wrong(t, c, api.ErrForm)
					default:
						built(t, c, 0)
					}
				}
			}
		}
	}
	// All at the bounds' ends.
	for _, n := range []int{most, -most} {
		c := cube(48)
		for i := range c.Verts {
			c.Verts[i] = api.V{X: n, Y: -n, Z: n}
		}
		for _, p := range built(t, c, 0) {
			if slices.ContainsFunc(p.P[:], func(v api.V) bool { return v != api.V{X: n, Y: -n, Z: n} }) {
				t.Error(n, p)
			}
		}
	}
}

func TestOtherCorners(t *testing.T) { // P10.1: one face without four corners is enough, wherever it stands
	for n := 3; n < 12; n++ {
		face := make([]int, n)
		for v := range face {
			face[v] = v
		}
		one := api.Cage{Verts: make([]api.V, n), Faces: [][]int{face}}
		if n == 4 {
			built(t, one, 0)
			continue
		}
		wrong(t, one, api.ErrForm)
		wrong(t, creased(one, api.Crease{A: 0, B: 1, S: 1}), api.ErrForm)
		for at := range 7 {
			c := beside(cube(48), one)
			last := len(c.Faces) - 1
			c.Faces[at], c.Faces[last] = c.Faces[last], c.Faces[at]
			wrong(t, c, api.ErrForm)
		}
	}
	// A cube whose top is two triangles, or one that is finer.
	c := cube(48)
	c.Faces[1] = []int{4, 5, 6}
	c.Faces = append(c.Faces, []int{4, 6, 7})
	wrong(t, c, api.ErrForm)
	c, _ = sub.Level(c)
	built(t, c, 0)
}

func TestManyAround(t *testing.T) { // P1, P10.1: far more faces around a vertex than a text tells
	const n = 40000
	c := kites(n, true)
	for v := range c.Verts {
		c.Verts[v] = api.V{X: api.MaxSpace, Y: -api.MaxSpace}
	}
	c.Verts[0].Z = n + 5
	list := built(t, c, 0)
	for f, p := range list[:n] {
		want := api.V{X: api.MaxSpace, Y: -api.MaxSpace, Z: n}
		for _, i := range []int{0, 1, 4, 5} {
			if p.P[i] != want {
				t.Fatal(f, i, p.P[i])
			}
		}
	}
	// Faces that share their memory.
	wrong(t, api.Cage{Verts: make([]api.V, 4), Faces: slices.Repeat([][]int{{0, 1, 2, 3}}, 1<<20)}, api.ErrForm)
	// Far more creases than edges.
	many := creased(cube(48), slices.Repeat([]api.Crease{{A: 0, B: 1, S: 3}}, 1<<20)...)
	if !slices.Equal(built(t, many, 0), built(t, creased(cube(48), api.Crease{A: 0, B: 1, S: 3}), 0)) {
		t.Error("creases that are told often")
	}
}

// spare: a list with something behind its length.
func spare[T any](list []T, more T) []T {
	return append(slices.Clone(list), more, more)[:len(list)]
}

// roomy: a cage with something behind the length of each list.
func roomy(c api.Cage) api.Cage {
	c.Verts = spare(c.Verts, api.V{X: 77, Y: 77, Z: 77})
	c.Faces = spare(c.Faces, []int{0, 1, 2, 3})
	for i, face := range c.Faces {
		c.Faces[i] = spare(face, 77)
	}
	c.Creases = spare(c.Creases, api.Crease{A: 77, B: 77, S: 77})
	return c
}

// copied: a copy of a cage, with what lies behind its lists' lengths.
func copied(c api.Cage) api.Cage {
	c.Verts = slices.Clone(c.Verts[:cap(c.Verts)])
	c.Faces = slices.Clone(c.Faces[:cap(c.Faces)])
	for i, face := range c.Faces {
		c.Faces[i] = slices.Clone(face[:cap(face)])
	}
	c.Creases = slices.Clone(c.Creases[:cap(c.Creases)])
	return c
}

// several: cages of some kinds, with creases.
func several() []api.Cage {
	return []api.Cage{
		{}, square(18), pillow(42), cube(48), creased(cube(48), api.Crease{A: 0, B: 1, S: 9}, api.Crease{A: 1, B: 2, S: 255}, api.Crease{A: 2, B: 6, S: 1}),
		creased(square(18), api.Crease{A: 1, B: 0, S: 9}), kites(5, true), kites(9, false), grid(2, 3, false, true),
	}
}

func TestAsItWas(t *testing.T) { // P10.3: what is handed in is as it was, behind the lists' lengths too, with an error or without
	far := square(18)
	far.Verts[3].Y = 1 << 20
	three := api.Cage{Verts: make([]api.V, 3), Faces: [][]int{{0, 1, 2}}}
	bad := append(notSurfaces(), far, three, creased(cube(48), api.Crease{A: 0, B: 2, S: 1}))
	for _, c := range append(bad, several()...) {
		given := roomy(c)
		was := copied(given)
		Build(given, 3)
		if !reflect.DeepEqual(copied(given), was) {
			t.Error(c, "is changed")
		}
	}
}

func TestNewMemory(t *testing.T) { // P10.3: whatever is done to an answer or to what was handed in, the other one and the next answer are as they were
	for _, c := range several() {
		given := roomy(c)
		was := copied(given)
		first, second, want := built(t, given, 3), built(t, given, 3), built(t, given, 3)
		for i := range first[:cap(first)] {
			first[:cap(first)][i] = api.Patch{Corners: [4]int{78, 78, 78, 78}, Skin: 78}
		}
		if !reflect.DeepEqual(copied(given), was) || !slices.Equal(second, want) || !slices.Equal(built(t, given, 3), want) {
			t.Error(c, second)
		}
		for _, face := range given.Faces {
			for i := range face {
				face[i] = 79
			}
		}
		for i := range given.Verts {
			given.Verts[i] = api.V{X: 79}
		}
		if !slices.Equal(second, want) {
			t.Error(c, second)
		}
	}
}
