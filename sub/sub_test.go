package sub

import (
	"math"
	"math/big"
	"reflect"
	"slices"
	"testing"

	"relievo/api"
	"relievo/topo"
)

// same: are two cages one, an empty list and none too?
func same(a, b api.Cage) bool {
	return slices.Equal(a.Verts, b.Verts) && slices.EqualFunc(a.Faces, b.Faces, slices.Equal[[]int]) && slices.Equal(a.Creases, b.Creases)
}

// right: does Level answer this?
func right(t *testing.T, c, want api.Cage) {
	t.Helper()
	if got, e := Level(c); e != api.OK || !same(got, want) {
		t.Errorf("%v: %v %d\nnot %v", c, got, int(e), want)
	}
}

// wrong: does Level answer this error, and nothing else?
func wrong(t *testing.T, c api.Cage, want api.Errno) {
	t.Helper()
	if got, e := Level(c); e != want || !same(got, api.Cage{}) {
		t.Error(len(c.Verts), len(c.Faces), c.Creases, len(got.Verts), len(got.Faces), got.Creases, int(e), "not", int(want))
	}
}

// finer: a cage one level finer, without an error.
func finer(t testing.TB, c api.Cage) api.Cage {
	t.Helper()
	got, e := Level(c)
	if e != api.OK {
		t.Fatal(c, int(e))
	}
	return got
}

// built: the topo of a cage that is a surface.
func built(t testing.TB, c api.Cage) api.Topo {
	t.Helper()
	x, e := topo.Build(len(c.Verts), c.Faces)
	if e != api.OK {
		t.Fatal(c, int(e))
	}
	return x
}

// sharp: does Sharp answer this?
func sharp(t *testing.T, c api.Cage, x api.Topo, want ...int) {
	t.Helper()
	if got, e := Sharp(c, x); e != api.OK || !slices.Equal(got, want) {
		t.Error(c.Creases, got, int(e), "not", want)
	}
}

// blunt: does Sharp answer ErrForm, and nothing else?
func blunt(t *testing.T, c api.Cage, x api.Topo) {
	t.Helper()
	if got, e := Sharp(c, x); e != api.ErrForm || len(got) != 0 {
		t.Error(c.Creases, got, int(e))
	}
}

// square: one face with four corners, so many wide.
func square(wide int) api.Cage {
	return api.Cage{Verts: []api.V{{}, {X: wide}, {X: wide, Y: wide}, {Y: wide}}, Faces: [][]int{{0, 1, 2, 3}}}
}

// pair: two triangles with all their edges in common.
func pair() api.Cage {
	return api.Cage{Verts: []api.V{{}, {X: 12}, {Y: 12}}, Faces: [][]int{{0, 1, 2}, {2, 1, 0}}}
}

// cube: six squares, so many wide; 0 lies beside 1 (Y), 3 (X) and 4 (Z).
func cube(wide int) api.Cage {
	c := api.Cage{Faces: [][]int{{0, 3, 2, 1}, {4, 5, 6, 7}, {0, 1, 5, 4}, {1, 2, 6, 5}, {2, 3, 7, 6}, {3, 0, 4, 7}}}
	for i := range 8 {
		c.Verts = append(c.Verts, api.V{X: wide * (i % 4 / 2), Y: wide * ((i + 1) % 4 / 2), Z: wide * (i / 4)})
	}
	return c
}

// creased: the cage with creases more.
func creased(c api.Cage, creases ...api.Crease) api.Cage {
	c.Creases = append(slices.Clone(c.Creases), creases...)
	return c
}

func TestSquare(t *testing.T) { // P9.1: the chapter's example
	right(t, square(8), api.Cage{
		Verts: []api.V{{X: 1, Y: 1}, {X: 7, Y: 1}, {X: 7, Y: 7}, {X: 1, Y: 7}, {X: 4}, {Y: 4}, {X: 8, Y: 4}, {X: 4, Y: 8}, {X: 4, Y: 4}},
		Faces: [][]int{{0, 4, 8, 5}, {1, 6, 8, 4}, {2, 7, 8, 6}, {3, 5, 8, 7}},
	})
}

func TestTriangle(t *testing.T) { // P9.1: halves go up, whatever their sign
	c := api.Cage{Verts: []api.V{{}, {X: 1}, {Y: -1}}, Faces: [][]int{{0, 1, 2}}}
	faces := [][]int{{0, 3, 6, 4}, {1, 5, 6, 3}, {2, 4, 6, 5}}
	right(t, c, api.Cage{Verts: []api.V{{}, {X: 1}, {Y: -1}, {X: 1}, {}, {X: 1}, {}}, Faces: faces})
	// Of 8: -1, -4 and -5; 4, 5 and 3, of the vertex 0.
	c.Verts = []api.V{{X: 0, Y: 0, Z: -1}, {X: -1, Y: -2, Z: 0}, {X: 0, Y: -2, Z: 1}}
	want := api.Cage{Verts: []api.V{{X: 0, Y: 0, Z: -1}, {X: -1, Y: -2}, {X: 0, Y: -2, Z: 1}, {X: 0, Y: -1}, {X: 0, Y: -1}, {X: 0, Y: -2, Z: 1}, {Y: -1}}, Faces: faces}
	right(t, c, want)
	c.Verts = []api.V{{}, {X: 4, Y: 5, Z: 3}, {}}
	want.Verts = []api.V{{X: 1, Y: 1}, {X: 3, Y: 4, Z: 2}, {X: 1, Y: 1}, {X: 2, Y: 3, Z: 2}, {}, {X: 2, Y: 3, Z: 2}, {X: 1, Y: 2, Z: 1}}
	right(t, c, want)
}

func TestPair(t *testing.T) { // P9.1: two faces around each vertex: nothing of the vertex itself is left
	c := pair()
	want := api.Cage{
		Verts: []api.V{{X: 5, Y: 5}, {X: 2, Y: 5}, {X: 5, Y: 2}, {X: 5, Y: 2}, {X: 2, Y: 5}, {X: 5, Y: 5}, {X: 4, Y: 4}, {X: 4, Y: 4}},
		Faces: [][]int{{0, 3, 6, 4}, {1, 5, 6, 3}, {2, 4, 6, 5}, {2, 5, 7, 4}, {1, 3, 7, 5}, {0, 4, 7, 3}},
	}
	right(t, c, want)
	// One sharp edge makes its own vertex another one, and none else.
	want.Verts[3] = api.V{X: 6}
	right(t, creased(c, api.Crease{A: 1, B: 0, S: 1}), want)
	// All of them make an end of each triangle, as if it were alone.
	all := creased(c, api.Crease{A: 0, B: 1, S: 1}, api.Crease{A: 1, B: 2, S: 1}, api.Crease{A: 2, B: 0, S: 1})
	want.Verts = []api.V{{X: 2, Y: 2}, {X: 9, Y: 2}, {X: 2, Y: 9}, {X: 6}, {Y: 6}, {X: 6, Y: 6}, {X: 4, Y: 4}, {X: 4, Y: 4}}
	right(t, all, want)
}

func TestCube(t *testing.T) { // P9.1: three faces around each vertex
	right(t, cube(36), api.Cage{
		Verts: []api.V{
			{X: 8, Y: 8, Z: 8}, {X: 8, Y: 28, Z: 8}, {X: 28, Y: 28, Z: 8}, {X: 28, Y: 8, Z: 8},
			{X: 8, Y: 8, Z: 28}, {X: 8, Y: 28, Z: 28}, {X: 28, Y: 28, Z: 28}, {X: 28, Y: 8, Z: 28},
			// 4.5 and 31.5 go up.
			{X: 5, Y: 18, Z: 5}, {X: 18, Y: 5, Z: 5}, {X: 5, Y: 5, Z: 18}, {X: 18, Y: 32, Z: 5},
			{X: 5, Y: 32, Z: 18}, {X: 32, Y: 18, Z: 5}, {X: 32, Y: 32, Z: 18}, {X: 32, Y: 5, Z: 18},
			{X: 5, Y: 18, Z: 32}, {X: 18, Y: 5, Z: 32}, {X: 18, Y: 32, Z: 32}, {X: 32, Y: 18, Z: 32},
			{X: 18, Y: 18}, {X: 18, Y: 18, Z: 36}, {Y: 18, Z: 18}, {X: 18, Y: 36, Z: 18}, {X: 36, Y: 18, Z: 18}, {X: 18, Z: 18},
		},
		Faces: [][]int{
			{0, 9, 20, 8}, {3, 13, 20, 9}, {2, 11, 20, 13}, {1, 8, 20, 11},
			{4, 16, 21, 17}, {5, 18, 21, 16}, {6, 19, 21, 18}, {7, 17, 21, 19},
			{0, 8, 22, 10}, {1, 12, 22, 8}, {5, 16, 22, 12}, {4, 10, 22, 16},
			{1, 11, 23, 12}, {2, 14, 23, 11}, {6, 18, 23, 14}, {5, 12, 23, 18},
			{2, 13, 24, 14}, {3, 15, 24, 13}, {7, 19, 24, 15}, {6, 14, 24, 19},
			{3, 9, 25, 15}, {0, 10, 25, 9}, {4, 17, 25, 10}, {7, 15, 25, 17},
		},
	})
}

func TestCubeCreased(t *testing.T) { // P9.1: none, one, two, three sharp edges at a vertex, sharp by little or for ever
	y, x, z := api.Crease{A: 0, B: 1}, api.Crease{A: 3, B: 0}, api.Crease{A: 0, B: 4}
	for i, c := range []struct {
		creases []api.Crease
		want    api.V // where 0 comes to
		y, x, z api.V // where the edges' vertices are
	}{
		{nil, api.V{X: 8, Y: 8, Z: 8}, api.V{X: 5, Y: 18, Z: 5}, api.V{X: 18, Y: 5, Z: 5}, api.V{X: 5, Y: 5, Z: 18}},
		{[]api.Crease{y}, api.V{X: 8, Y: 8, Z: 8}, api.V{Y: 18}, api.V{X: 18, Y: 5, Z: 5}, api.V{X: 5, Y: 5, Z: 18}},
		{[]api.Crease{z}, api.V{X: 8, Y: 8, Z: 8}, api.V{X: 5, Y: 18, Z: 5}, api.V{X: 18, Y: 5, Z: 5}, api.V{Z: 18}},
		{[]api.Crease{y, y}, api.V{X: 8, Y: 8, Z: 8}, api.V{Y: 18}, api.V{X: 18, Y: 5, Z: 5}, api.V{X: 5, Y: 5, Z: 18}},
		{[]api.Crease{x, y}, api.V{X: 5, Y: 5}, api.V{Y: 18}, api.V{X: 18}, api.V{X: 5, Y: 5, Z: 18}},
		{[]api.Crease{z, x}, api.V{X: 5, Z: 5}, api.V{X: 5, Y: 18, Z: 5}, api.V{X: 18}, api.V{Z: 18}},
		{[]api.Crease{y, z, y}, api.V{Y: 5, Z: 5}, api.V{Y: 18}, api.V{X: 18, Y: 5, Z: 5}, api.V{Z: 18}},
		{[]api.Crease{y, x, z}, api.V{}, api.V{Y: 18}, api.V{X: 18}, api.V{Z: 18}},
	} {
		for _, s := range []int{1, 2, 3, 254, 255, 256, math.MaxInt} {
			creases := slices.Clone(c.creases)
			for k := range creases {
				creases[k].S = s
			}
			got := finer(t, creased(cube(36), creases...))
			if got.Verts[0] != c.want || got.Verts[8] != c.y || got.Verts[9] != c.x || got.Verts[10] != c.z {
				t.Error(i, s, got.Verts[:11])
			}
			// What isn't beside the creases is as ever.
			if plain := finer(t, cube(36)); !slices.Equal(got.Verts[5:8], plain.Verts[5:8]) || !slices.Equal(got.Verts[11:], plain.Verts[11:]) || got.Verts[2] != plain.Verts[2] {
				t.Error(i, s, got.Verts)
			}
			// Of 0 and below they are none.
			for k := range creases {
				creases[k].S = -s + 1
			}
			right(t, creased(cube(36), creases...), finer(t, cube(36)))
		}
	}
}

func TestFourSharp(t *testing.T) { // P9.1: four sharp edges and more, and an end that a crease comes to
	verts := []api.V{{X: 5, Y: 5, Z: 77}, {X: 100}, {Y: 100}, {X: -100}, {Y: -100}}
	c := api.Cage{Verts: verts, Faces: [][]int{{0, 1, 2}, {0, 2, 3}, {0, 3, 4}, {0, 4, 1}}}
	// The faces' new vertices are (35, 35, 26), (-32, 35, 26), (-32, -32, 26), (35, -32, 26).
	if got := finer(t, c).Verts[0]; got != (api.V{X: 3, Y: 3, Z: 45}) {
		t.Error(got)
	}
	one, two := api.Crease{A: 0, B: 1, S: 9}, api.Crease{A: 3, B: 0, S: 9}
	if got := finer(t, creased(c, one, two)).Verts[0]; got != (api.V{X: 4, Y: 4, Z: 58}) {
		t.Error(got)
	}
	// 1 is at an end: two sharp edges, and one more with the crease.
	if got := finer(t, c).Verts[1]; got != (api.V{X: 75}) {
		t.Error(got)
	}
	if got := finer(t, creased(c, one)); got.Verts[1] != verts[1] || got.Verts[0] != (api.V{X: 3, Y: 3, Z: 45}) {
		t.Error(got.Verts)
	}
	three, four := api.Crease{A: 2, B: 0, S: 1}, api.Crease{A: 0, B: 4, S: 1}
	for _, more := range [][]api.Crease{{one, two, three}, {one, two, three, four}} {
		if got := finer(t, creased(c, more...)).Verts[0]; got != verts[0] {
			t.Error(got)
		}
	}
}

func TestSpline(t *testing.T) { // P9.1: where four faces are around each vertex, one that stands out comes to the spline's known weights
	const n = 5
	var c api.Cage
	for i := range n * n {
		c.Verts = append(c.Verts, api.V{X: 64 * (i % n), Y: 64 * (i / n)})
	}
	for y := range n - 1 {
		for x := range n - 1 {
			c.Faces = append(c.Faces, []int{y*n + x, y*n + x + 1, y*n + n + x + 1, y*n + n + x})
		}
	}
	c.Verts[2*n+2].Z = 6400
	x, got := built(t, c), finer(t, c)
	for i, want := range map[int]int{2*n + 2: 3600, n + 2: 600, 2*n + 1: 600, 2*n + 3: 600, 3*n + 2: 600, n + 1: 100, n + 3: 100, 3*n + 1: 100, 3*n + 3: 100, 2: 0} {
		if got.Verts[i] != (api.V{X: c.Verts[i].X, Y: c.Verts[i].Y, Z: want}) {
			t.Error(i, got.Verts[i])
		}
	}
	for _, e := range []struct{ a, b, want int }{{2*n + 1, 2*n + 2, 2400}, {n + 2, 2*n + 2, 2400}, {n + 1, n + 2, 400}, {3*n + 2, 3*n + 3, 400}, {n + 1, 2*n + 1, 400}, {2, n + 2, 0}, {2*n + 3, 2*n + 4, 0}} {
		k, _ := topo.Find(x, e.b, e.a)
		if got := got.Verts[n*n+k].Z; got != e.want {
			t.Error(e, got)
		}
	}
	for f, face := range c.Faces {
		want := 0
		if slices.Contains(face, 2*n+2) {
			want = 1600
		}
		if got := got.Verts[n*n+len(x.Edges)+f].Z; got != want {
			t.Error(f, got)
		}
	}
}

func TestSharp(t *testing.T) { // P9.1: the greatest of all, whichever way it is told
	x := built(t, cube(36))
	c := api.Cage{}
	sharp(t, c, x, make([]int, 12)...)
	at := func(list ...int) []int { return append(list, make([]int, 12-len(list))...) }
	for i, k := range []struct {
		creases []api.Crease
		want    []int
	}{
		{[]api.Crease{{A: 0, B: 1, S: 2}, {A: 1, B: 0, S: 1}, {A: 0, B: 3, S: 255}, {A: 0, B: 4, S: 1}}, at(2, 255, 1)},
		{[]api.Crease{{A: 0, B: 1, S: 1}, {A: 1, B: 0, S: 7}, {A: 0, B: 1, S: -4}, {A: 0, B: 1, S: 3}}, at(7)},
		{[]api.Crease{{A: 1, B: 0, S: math.MaxInt}, {A: 3, B: 0, S: 256}, {A: 4, B: 0, S: 1 << 32}}, at(math.MaxInt, 256, 1<<32)},
		{[]api.Crease{{A: 1, B: 0}, {A: 3, B: 0, S: -1}, {A: 4, B: 0, S: math.MinInt}}, at()},
		{[]api.Crease{{A: 7, B: 6, S: 5}, {A: 1, B: 2, S: 254}}, []int{0, 0, 0, 254, 0, 0, 0, 0, 0, 0, 0, 5}},
	} {
		for range k.creases {
			k.creases = append(k.creases[1:], k.creases[0])
			c.Creases = k.creases
			sharp(t, c, x, k.want...)
		}
		if t.Failed() {
			t.Fatal(i)
		}
	}
	// One face alone: Forever, or more.
	x = built(t, square(8))
	sharp(t, square(8), x, 255, 255, 255, 255)
	c.Creases = []api.Crease{{A: 3, B: 0, S: 254}, {A: 1, B: 2, S: 256}, {A: 2, B: 3, S: -9}, {A: 0, B: 1, S: 255}}
	sharp(t, c, x, 255, 255, 256, 255)
	// Two squares: what is between them isn't an end.
	x, e := topo.Build(6, [][]int{{0, 1, 4, 3}, {1, 2, 5, 4}})
	sharp(t, api.Cage{}, x, 255, 255, 255, 0, 255, 255, 255)
	sharp(t, creased(api.Cage{}, api.Crease{A: 4, B: 1, S: 12}), x, 255, 255, 255, 12, 255, 255, 255)
	if e != api.OK {
		t.Error(e)
	}
}

func TestSharpAlone(t *testing.T) { // P9.1: vertices and faces aren't asked, edges and creases alone
	x := built(t, pair())
	c := creased(api.Cage{}, api.Crease{A: 2, B: 1, S: 9})
	sharp(t, c, x, 0, 0, 9)
	c.Verts, c.Faces = []api.V{{X: 1 << 40}}, [][]int{{7, 7}, nil}
	sharp(t, c, x, 0, 0, 9)
	sharp(t, api.Cage{}, api.Topo{})
	sharp(t, square(8), api.Topo{})
	sharp(t, api.Cage{}, api.Topo{Edges: []api.Edge{}})
	blunt(t, c, api.Topo{})
}

// strangers: creases that are between no vertices of an edge of a cube, nor of a square.
func strangers() []api.Crease {
	list := []api.Crease{{}, {A: 0, B: 2}, {A: 2, B: 0}, {A: 1, B: 1}, {A: 0, B: 6}, {A: 7, B: 1}, {A: 0, B: 8}, {A: 8, B: 0}, {A: 8, B: 9}, {A: -1, B: 0}, {A: 0, B: -1}, {A: -2, B: -1}, {A: 1 << 32, B: 1<<32 + 1}, {A: math.MinInt, B: math.MaxInt}, {A: math.MaxInt, B: math.MinInt}, {A: math.MinInt, B: math.MinInt}, {A: math.MinInt, B: 1}, {A: 0, B: math.MaxInt}}
	for _, k := range list {
		for _, s := range []int{-1, 1, 255, math.MinInt, math.MaxInt} {
			k.S = s
			list = append(list, k)
		}
	}
	return list
}

func TestStrangers(t *testing.T) { // P9.1: a crease that no edge is there for, however sharp, is ErrForm
	good := api.Crease{A: 1, B: 0, S: 3}
	for _, c := range []api.Cage{cube(36), square(8)} {
		x := built(t, c)
		for _, k := range strangers() {
			for _, bad := range []api.Cage{creased(c, k), creased(c, good, k), creased(c, k, good), creased(c, good, good, k, good)} {
				blunt(t, bad, x)
				wrong(t, bad, api.ErrForm)
			}
		}
	}
	wrong(t, creased(api.Cage{}, api.Crease{}), api.ErrForm)
	wrong(t, creased(api.Cage{}, good), api.ErrForm)
	// Between vertices of two faces that have no edge in common.
	two := api.Cage{Verts: make([]api.V, 6), Faces: [][]int{{0, 1, 2}, {3, 4, 5}}}
	wrong(t, creased(two, api.Crease{A: 2, B: 3, S: 1}), api.ErrForm)
	finer(t, creased(two, api.Crease{A: 2, B: 1, S: 1}))
}

func TestNothing(t *testing.T) { // P9.1: a cage of nothing is finer as it is
	for _, c := range []api.Cage{{}, {Verts: []api.V{}, Faces: [][]int{}, Creases: []api.Crease{}}} {
		right(t, c, api.Cage{})
	}
}

func TestNoSurface(t *testing.T) { // P9.1: faces that make no surface are ErrForm, whatever else is wrong
	far := api.V{X: 1 << 30}
	for _, c := range []api.Cage{
		{Verts: make([]api.V, 1)},
		{Faces: [][]int{{0, 1, 2}}},
		{Faces: [][]int{nil}},
		{Verts: make([]api.V, 2), Faces: [][]int{{0, 1}}},
		{Verts: make([]api.V, 3), Faces: [][]int{{}}},
		{Verts: make([]api.V, 3), Faces: [][]int{{0, 1, 3}}},
		{Verts: make([]api.V, 3), Faces: [][]int{{0, -1, 2}}},
		{Verts: make([]api.V, 3), Faces: [][]int{{0, math.MaxInt, math.MinInt}}},
		{Verts: make([]api.V, 3), Faces: [][]int{{0, 1, 1}}},
		{Verts: make([]api.V, 3), Faces: [][]int{{0, 1, 2, 0}}},
		{Verts: make([]api.V, 3), Faces: [][]int{{0, 1, 2}, {0, 1, 2}}},
		{Verts: make([]api.V, 4), Faces: [][]int{{0, 1, 2}}},
		{Verts: make([]api.V, 4), Faces: [][]int{{0, 1, 2}, {0, 1, 3}}},
		{Verts: make([]api.V, 5), Faces: [][]int{{0, 1, 2}, {0, 3, 4}}},
		{Verts: cube(36).Verts[:7], Faces: cube(36).Faces},
		{Verts: append(cube(36).Verts, api.V{}), Faces: cube(36).Faces},
	} {
		wrong(t, c, api.ErrForm)
		wrong(t, creased(c, api.Crease{A: 0, B: 1, S: 1}), api.ErrForm)
		wrong(t, creased(c, api.Crease{A: -1, B: 1, S: 1}), api.ErrForm)
		for i := range c.Verts {
			bad := c
			bad.Verts = slices.Clone(c.Verts)
			bad.Verts[i] = far
			wrong(t, bad, api.ErrForm)
		}
	}
}

func TestLarge(t *testing.T) { // P9.1: each part of each vertex is within MaxSpace; a crease that is wrong comes first
	const most = api.MaxSpace
	parts := func(v *api.V) []*int { return []*int{&v.X, &v.Y, &v.Z} }
	for i := range 8 {
		for k := range 3 {
			for _, n := range []int{most, -most, most - 1, 1 - most} {
				c := cube(36)
				*parts(&c.Verts[i])[k] = n
				finer(t, c)
			}
			for _, n := range []int{most + 1, -most - 1, 1 << 32, -1 << 32, math.MaxInt, -math.MaxInt, math.MinInt} {
				c := cube(36)
				*parts(&c.Verts[i])[k] = n
				wrong(t, c, api.ErrLarge)
				wrong(t, creased(c, api.Crease{A: 0, B: 1, S: 1}), api.ErrLarge)
				wrong(t, creased(c, api.Crease{A: 0, B: 2, S: 1}), api.ErrForm)
				sharp(t, c, built(t, c), make([]int, 12)...)
			}
		}
	}
	// All at the bounds' ends.
	for _, n := range []int{most, -most} {
		c := square(8)
		for i := range c.Verts {
			c.Verts[i] = api.V{X: n, Y: -n, Z: n}
		}
		if got := finer(t, c); slices.ContainsFunc(got.Verts, func(v api.V) bool { return v != api.V{X: n, Y: -n, Z: n} }) {
			t.Error(n, got.Verts)
		}
	}
}

func TestCreases(t *testing.T) { // P9.1: what is left of a sharpness, edge by edge, the lower vertex's half first
	for s, left := range map[int]int{
		math.MinInt: 0, -1: 0, 0: 0, 1: 0, 2: 1, 3: 2, 100: 99, 253: 252, 254: 253, 255: 255, 256: 255, 257: 256, 1 << 32: 1<<32 - 1, math.MaxInt: math.MaxInt - 1,
	} {
		got := finer(t, creased(cube(36), api.Crease{A: 2, B: 1, S: s}))
		var want []api.Crease
		if left > 0 {
			want = []api.Crease{{A: 1, B: 8 + 3, S: left}, {A: 2, B: 8 + 3, S: left}}
		}
		if !slices.Equal(got.Creases, want) {
			t.Error(s, got.Creases)
		}
	}
	got := finer(t, creased(cube(36), api.Crease{A: 7, B: 6, S: 9}, api.Crease{A: 4, B: 0, S: 255}, api.Crease{A: 1, B: 0, S: 1}, api.Crease{A: 7, B: 6, S: 3}, api.Crease{A: 6, B: 2, S: 2}, api.Crease{A: 0, B: 3, S: -7}))
	want := []api.Crease{{A: 0, B: 8 + 2, S: 255}, {A: 4, B: 8 + 2, S: 255}, {A: 2, B: 8 + 6, S: 1}, {A: 6, B: 8 + 6, S: 1}, {A: 6, B: 8 + 11, S: 8}, {A: 7, B: 8 + 11, S: 8}}
	if !slices.Equal(got.Creases, want) {
		t.Error(got.Creases)
	}
}

func TestEnds(t *testing.T) { // P9.1: of an edge with one face alone no crease is left, whatever was told of it
	c := square(8)
	want := finer(t, c)
	for _, s := range []int{-1, 0, 1, 2, 254, 255, 256, math.MaxInt} {
		right(t, creased(c, api.Crease{A: 0, B: 1, S: s}, api.Crease{A: 3, B: 2, S: s}), want)
	}
	two := api.Cage{Verts: []api.V{{}, {X: 8}, {X: 16}, {Y: 8}, {X: 8, Y: 8}, {X: 16, Y: 8}}, Faces: [][]int{{0, 1, 4, 3}, {1, 2, 5, 4}}}
	got := finer(t, creased(two, api.Crease{A: 0, B: 1, S: 9}, api.Crease{A: 4, B: 1, S: 3}, api.Crease{A: 5, B: 4, S: 400}))
	if !slices.Equal(got.Creases, []api.Crease{{A: 1, B: 6 + 3, S: 2}, {A: 4, B: 6 + 3, S: 2}}) {
		t.Error(got.Creases)
	}
	// The crease is the third sharp edge at both of its ends.
	if got.Verts[1] != two.Verts[1] || got.Verts[4] != two.Verts[4] || got.Verts[6+3] != (api.V{X: 8, Y: 4}) {
		t.Error(got.Verts)
	}
}

func TestLevels(t *testing.T) { // P9.1: a sharpness of 2 holds two levels, one of Forever all
	c := creased(cube(1<<12), api.Crease{A: 0, B: 1, S: 2}, api.Crease{A: 6, B: 7, S: 255})
	for level, want := range []int{4, 4, 8, 16} {
		c = finer(t, c)
		if len(c.Creases) != want || len(c.Faces) != 24<<(2*level) {
			t.Error(level, c.Creases, len(c.Faces))
		}
		for i, k := range c.Creases {
			a, b := c.Verts[k.A], c.Verts[k.B]
			switch {
			case k.A >= k.B:
				t.Error(level, k)
			case level == 0 && i < 2:
				if k != (api.Crease{A: i, B: 8, S: 1}) {
					t.Error(k)
				}
			case k.S != 255 || a.X != a.Z || b.X != b.Z: // the edge from 6 to 7 lies there, however fine
				t.Error(level, k, a, b)
			}
		}
	}
}

func TestTurned(t *testing.T) { // P9.1: all faces the other way round: the same vertices, each face from its corner on the other way
	for _, c := range []api.Cage{cube(36), square(8), pair(), creased(cube(35), api.Crease{A: 0, B: 1, S: 3}, api.Crease{A: 1, B: 2, S: 255})} {
		want := finer(t, c)
		turned := c
		turned.Faces = nil
		for _, face := range c.Faces {
			face = slices.Clone(face)
			slices.Reverse(face)
			turned.Faces = append(turned.Faces, face)
		}
		got := finer(t, turned)
		if !slices.Equal(got.Verts, want.Verts) || !slices.Equal(got.Creases, want.Creases) {
			t.Error(got, want)
		}
	}
}

// of: a number of a sum, rounded as the chapter tells, of any size.
func of(n, d *big.Int) int {
	double := new(big.Int).Lsh(n, 1)
	double.Add(double, d)
	return int(double.Div(double, new(big.Int).Lsh(d, 1)).Int64())
}

func TestManyAround(t *testing.T) { // P9.1, P9.2: however many faces are around a vertex, with 64 bits' sums or more
	for _, n := range []int{2, 3, 4, 1000, 1<<20 - 1, 1 << 22, 1<<22 + 1, 1 << 23, 1<<24 + 7, 1 << 27} {
		for _, v := range []int{0, 1, -1, 77, api.MaxSpace, -api.MaxSpace} {
			for _, near := range []int{0, 3, -5, api.MaxSpace, -api.MaxSpace} {
				s := star{all: sum{api.V{X: 2 * n * near, Y: n*near + 1, Z: -n * near}}, sharp: 1}
				square := new(big.Int).Mul(big.NewInt(int64(n)), big.NewInt(int64(n)))
				own := new(big.Int).Sub(square, big.NewInt(int64(2*n)))
				own.Mul(own, big.NewInt(int64(v)))
				want := func(all int) int { return of(new(big.Int).Add(own, big.NewInt(int64(all))), square) }
				if got := s.place(api.V{X: v, Y: v, Z: v}, n); got != (api.V{X: want(s.all.X), Y: want(s.all.Y), Z: want(s.all.Z)}) {
					t.Error(n, v, near, got)
				}
			}
		}
	}
}

// cone: triangles around the vertex 0, and a face below them, or none.
func cone(n int, closed bool) api.Cage {
	c := api.Cage{Verts: make([]api.V, n+1)}
	var below []int
	for i := range n {
		c.Faces = append(c.Faces, []int{0, 1 + i, 1 + (i+1)%n})
		below = append(below, n-i)
	}
	if closed {
		c.Faces = append(c.Faces, below)
	}
	return c
}

func TestFar(t *testing.T) { // P1, P9.1: far more faces around a vertex, and corners of a face, than a text tells
	const n = 50000
	c := cone(n, true)
	for i := range c.Verts {
		c.Verts[i] = api.V{X: api.MaxSpace, Y: -api.MaxSpace, Z: i}
	}
	c.Verts[0].Z = -1
	got := finer(t, c)
	if len(got.Verts) != n+1+2*n+n+1 || len(got.Faces) != 4*n {
		t.Fatal(len(got.Verts), len(got.Faces))
	}
	// By Z: below the face is the middle of 1 to n; the ends' sum is n(n + 1) / 2, the others' about 2/3 of that.
	if got.Verts[0] != (api.V{X: api.MaxSpace, Y: -api.MaxSpace, Z: 0}) || got.Verts[len(got.Verts)-1] != (api.V{X: api.MaxSpace, Y: -api.MaxSpace, Z: n/2 + 1}) {
		t.Error(got.Verts[0], got.Verts[len(got.Verts)-1])
	}
	// Faces that share their memory, and have far more corners than it.
	line := make([]int, n)
	for i := range line {
		line[i] = i
	}
	wrong(t, api.Cage{Verts: make([]api.V, n), Faces: slices.Repeat([][]int{line}, 1<<20)}, api.ErrForm)
	// Far more creases than edges.
	many := creased(square(8), slices.Repeat([]api.Crease{{A: 0, B: 1, S: 3}}, 1<<20)...)
	right(t, many, finer(t, square(8)))
	many.Creases[len(many.Creases)-1].B = 2
	wrong(t, many, api.ErrForm)
}

// spare: a list with something behind its length.
func spare[T any](list []T, more T) []T {
	return append(slices.Clone(list), more, more)[:len(list)]
}

// roomy: a cage with something behind the length of each list.
func roomy(c api.Cage) api.Cage {
	c.Verts = spare(c.Verts, api.V{X: 77, Y: 77, Z: 77})
	c.Faces = spare(c.Faces, []int{0, 1, 2})
	for i, face := range c.Faces {
		c.Faces[i] = spare(face, 77)
	}
	c.Creases = spare(c.Creases, api.Crease{A: 77, B: 77, S: 77})
	return c
}

// copied: a copy of a cage, with what lies behind its lists' lengths.
func copied(c api.Cage) api.Cage {
	c.Verts = slices.Clone(c.Verts[:cap(c.Verts)])
	c.Faces = slices.Clone(c.Faces[:cap(c.Faces)])
	for i, face := range c.Faces {
		c.Faces[i] = slices.Clone(face[:cap(face)])
	}
	c.Creases = slices.Clone(c.Creases[:cap(c.Creases)])
	return c
}

// fill: all of a cage's memory set to one number, spare room too.
func fill(c api.Cage, n int) {
	for i := range c.Verts[:cap(c.Verts)] {
		c.Verts[:cap(c.Verts)][i] = api.V{X: n, Y: n, Z: n}
	}
	faces := c.Faces[:cap(c.Faces)]
	for i := range faces {
		face := faces[i][:cap(faces[i])]
		for j := range face {
			face[j] = n
		}
	}
	for i := len(c.Faces); i < len(faces); i++ {
		faces[i] = []int{n}
	}
	for i := range c.Creases[:cap(c.Creases)] {
		c.Creases[:cap(c.Creases)][i] = api.Crease{A: n, B: n, S: n}
	}
}

// several: cages of some kinds, with creases, and with something wrong.
func several() []api.Cage {
	some := creased(cube(36), api.Crease{A: 0, B: 1, S: 9}, api.Crease{A: 1, B: 2, S: 255}, api.Crease{A: 2, B: 6, S: 1})
	far := square(8)
	far.Verts[3].Y = 1 << 20
	return []api.Cage{
		{}, square(8), pair(), cube(36), some, creased(square(8), api.Crease{A: 1, B: 0, S: 9}), cone(5, true), cone(9, false),
		far, creased(cube(36), api.Crease{A: 0, B: 2, S: 1}), {Verts: make([]api.V, 3), Faces: [][]int{{0, 1, 2}, {0, 1, 2}}},
	}
}

func TestAsItWas(t *testing.T) { // P9.3: what is handed in is as it was, behind the lists' lengths too, with an error or without
	for _, c := range several() {
		given := roomy(c)
		was := copied(given)
		Level(given)
		if !reflect.DeepEqual(copied(given), was) {
			t.Error(c, "is changed")
		}
		x, _ := topo.Build(len(c.Verts), c.Faces)
		x.Edges, x.Round = spare(x.Edges, api.Edge{A: 77}), spare(x.Round, true)
		edges, fans, round := slices.Clone(x.Edges[:cap(x.Edges)]), slices.Clone(x.Fans), slices.Clone(x.Round[:cap(x.Round)])
		for i := range fans {
			fans[i] = slices.Clone(fans[i])
		}
		Sharp(given, x)
		if !reflect.DeepEqual(copied(given), was) || !slices.Equal(edges, x.Edges[:cap(x.Edges)]) || !slices.EqualFunc(fans, x.Fans, slices.Equal[[]int]) || !slices.Equal(round, x.Round[:cap(x.Round)]) {
			t.Error(c, x, "is changed")
		}
	}
}

func TestNewMemory(t *testing.T) { // P9.3: whatever is done to an answer or to what was handed in, the other one and the next answer are as they were
	for _, c := range several()[:8] {
		given := roomy(c)
		was := copied(given)
		first, second, want := finer(t, given), finer(t, given), finer(t, given)
		fill(first, 78)
		if !reflect.DeepEqual(copied(given), was) || !same(second, want) || !same(finer(t, given), want) {
			t.Error(c, second)
		}
		x := built(t, c)
		list, _ := Sharp(given, x)
		next, _ := Sharp(given, x)
		before := slices.Clone(list)
		for i := range next[:cap(next)] {
			next[:cap(next)][i] = 78
		}
		sharp(t, given, x, before...)
		fill(given, 79)
		if !same(second, want) || !slices.Equal(list, before) {
			t.Error(c, second, list)
		}
	}
}

func TestListsApart(t *testing.T) { // P9.3: longer or changed faces don't come into one another
	some := several()[4]
	for i := range finer(t, some).Faces {
		x, want := finer(t, some), finer(t, some)
		face := x.Faces[i][:cap(x.Faces[i])]
		for j := range face {
			face[j] = 77
		}
		_ = append(x.Faces[i], 77, 77, 77)
		want.Faces[i] = x.Faces[i]
		if !same(x, want) {
			t.Error(i, x)
		}
	}
}
