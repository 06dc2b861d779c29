package topo

import (
	"math"
	"reflect"
	"slices"
	"testing"

	"relievo/api"
)

// same: are two topos one, an empty list and none too?
func same(a, b api.Topo) bool {
	return slices.Equal(a.Edges, b.Edges) && slices.EqualFunc(a.Fans, b.Fans, slices.Equal[[]int]) && slices.Equal(a.Round, b.Round)
}

// brief: the first of some faces, by their first vertices.
func brief(faces [][]int) [][]int {
	var all [][]int
	for _, face := range faces[:min(99, len(faces))] {
		all = append(all, face[:min(9, len(face))])
	}
	return all
}

// right: does Build answer this?
func right(t *testing.T, verts int, faces [][]int, want api.Topo) {
	t.Helper()
	if x, e := Build(verts, faces); e != api.OK || !same(x, want) {
		t.Error(verts, brief(faces), x, e, "not", want)
	}
}

// wrong: does Build answer ErrForm, and nothing else?
func wrong(t *testing.T, verts int, faces [][]int) {
	t.Helper()
	if x, e := Build(verts, faces); e != api.ErrForm || !same(x, api.Topo{}) {
		t.Error(verts, brief(faces), len(x.Edges), len(x.Fans), len(x.Round), e)
	}
}

// built: the topo of faces that make a surface.
func built(t testing.TB, verts int, faces [][]int) api.Topo {
	t.Helper()
	x, e := Build(verts, faces)
	if e != api.OK {
		t.Fatal(verts, brief(faces), e)
	}
	return x
}

func TestTriangle(t *testing.T) { // P8.1: the chapter's example, from each corner on, and the other way round
	fans, round := [][]int{{0}, {0}, {0}}, []bool{false, false, false}
	for _, face := range [][]int{{0, 1, 2}, {1, 2, 0}, {2, 0, 1}} {
		right(t, 3, [][]int{face}, api.Topo{Edges: []api.Edge{{A: 0, B: 1, F: 0, G: -1}, {A: 0, B: 2, F: -1, G: 0}, {A: 1, B: 2, F: 0, G: -1}}, Fans: fans, Round: round})
	}
	for _, face := range [][]int{{0, 2, 1}, {2, 1, 0}, {1, 0, 2}} {
		right(t, 3, [][]int{face}, api.Topo{Edges: []api.Edge{{A: 0, B: 1, F: -1, G: 0}, {A: 0, B: 2, F: 0, G: -1}, {A: 1, B: 2, F: -1, G: 0}}, Fans: fans, Round: round})
	}
}

func TestNothing(t *testing.T) { // P8.1: no vertices and no faces make a surface, either one alone makes none
	right(t, 0, nil, api.Topo{})
	right(t, 0, [][]int{}, api.Topo{})
	for _, verts := range []int{math.MinInt, math.MinInt + 1, -1 << 32, -3, -2, -1, 1, 2, 3, 1 << 32, math.MaxInt} {
		wrong(t, verts, nil)
		wrong(t, verts, [][]int{})
		wrong(t, verts, [][]int{nil})
	}
	for _, faces := range [][][]int{{nil}, {{}}, {{0}}, {{0, 0, 0}}, {{0, 1, 2}}, {{-1, -2, -3}}} {
		wrong(t, 0, faces)
		wrong(t, -1, faces)
		wrong(t, -3, faces)
		wrong(t, math.MinInt, faces)
	}
}

func TestSquares(t *testing.T) { // P8.1: open fans, each from the face that follows no other one
	right(t, 6, [][]int{{0, 1, 4, 3}, {1, 2, 5, 4}}, api.Topo{
		Edges: []api.Edge{{A: 0, B: 1, F: 0, G: -1}, {A: 0, B: 3, F: -1, G: 0}, {A: 1, B: 2, F: 1, G: -1}, {A: 1, B: 4, F: 0, G: 1}, {A: 2, B: 5, F: 1, G: -1}, {A: 3, B: 4, F: -1, G: 0}, {A: 4, B: 5, F: -1, G: 1}},
		Fans:  [][]int{{0}, {1, 0}, {1}, {0}, {0, 1}, {1}},
		Round: make([]bool, 6),
	})
	// The faces the other way round, and told in the other order.
	right(t, 6, [][]int{{4, 5, 2, 1}, {3, 4, 1, 0}}, api.Topo{
		Edges: []api.Edge{{A: 0, B: 1, F: -1, G: 1}, {A: 0, B: 3, F: 1, G: -1}, {A: 1, B: 2, F: -1, G: 0}, {A: 1, B: 4, F: 0, G: 1}, {A: 2, B: 5, F: -1, G: 0}, {A: 3, B: 4, F: 1, G: -1}, {A: 4, B: 5, F: 0, G: -1}},
		Fans:  [][]int{{1}, {1, 0}, {0}, {1}, {0, 1}, {0}},
		Round: make([]bool, 6),
	})
}

func TestFans(t *testing.T) { // P8.1: around one vertex, whole and with a gap, the faces told in several orders
	// Each comes to 0 by the edge that the next one leaves it by.
	whole := [][]int{{0, 1, 2}, {0, 2, 3}, {0, 3, 4}, {0, 4, 1}}
	for _, c := range []struct {
		faces []int
		want  []int
		round bool
	}{
		{[]int{0, 1, 2, 3}, []int{0, 1, 2, 3}, true},
		{[]int{3, 2, 1, 0}, []int{0, 3, 2, 1}, true},
		{[]int{2, 0, 3, 1}, []int{0, 2, 1, 3}, true},
		{[]int{0, 1, 2}, []int{0, 1, 2}, false},
		{[]int{1, 2, 3}, []int{0, 1, 2}, false},
		{[]int{2, 3, 0}, []int{0, 1, 2}, false},
		{[]int{0, 2, 1}, []int{0, 2, 1}, false},
		{[]int{2, 1, 0}, []int{2, 1, 0}, false},
		{[]int{3, 0, 2}, []int{2, 0, 1}, false},
		{[]int{0, 3, 2}, []int{2, 1, 0}, false},
		{[]int{3, 0}, []int{0, 1}, false},
		{[]int{0, 3}, []int{1, 0}, false},
	} {
		var faces [][]int
		met := map[int]int{0: 0}
		for _, f := range c.faces {
			face := slices.Clone(whole[f])
			for i, v := range face {
				if _, ok := met[v]; !ok {
					met[v] = len(met)
				}
				face[i] = met[v]
			}
			faces = append(faces, face)
		}
		x := built(t, len(met), faces)
		if !slices.Equal(x.Fans[0], c.want) || x.Round[0] != c.round {
			t.Error(faces, x.Fans[0], x.Round[0], "not", c.want, c.round)
		}
	}
}

func TestClosed(t *testing.T) { // P8.1: surfaces without an end: all fans are round, each from its least face
	// Two faces with all their edges in common.
	right(t, 3, [][]int{{0, 1, 2}, {2, 1, 0}}, api.Topo{
		Edges: []api.Edge{{A: 0, B: 1, F: 0, G: 1}, {A: 0, B: 2, F: 1, G: 0}, {A: 1, B: 2, F: 0, G: 1}},
		Fans:  [][]int{{0, 1}, {0, 1}, {0, 1}},
		Round: []bool{true, true, true},
	})
	right(t, 4, [][]int{{1, 2, 3}, {0, 2, 1}, {0, 3, 2}, {0, 1, 3}}, api.Topo{
		Edges: []api.Edge{{A: 0, B: 1, F: 3, G: 1}, {A: 0, B: 2, F: 1, G: 2}, {A: 0, B: 3, F: 2, G: 3}, {A: 1, B: 2, F: 0, G: 1}, {A: 1, B: 3, F: 3, G: 0}, {A: 2, B: 3, F: 0, G: 2}},
		Fans:  [][]int{{1, 3, 2}, {0, 3, 1}, {0, 1, 2}, {0, 2, 3}},
		Round: []bool{true, true, true, true},
	})
	right(t, 8, cube(), api.Topo{
		Edges: []api.Edge{{A: 0, B: 1, F: 2, G: 0}, {A: 0, B: 3, F: 0, G: 5}, {A: 0, B: 4, F: 5, G: 2}, {A: 1, B: 2, F: 3, G: 0}, {A: 1, B: 5, F: 2, G: 3}, {A: 2, B: 3, F: 4, G: 0}, {A: 2, B: 6, F: 3, G: 4}, {A: 3, B: 7, F: 4, G: 5}, {A: 4, B: 5, F: 1, G: 2}, {A: 4, B: 7, F: 5, G: 1}, {A: 5, B: 6, F: 1, G: 3}, {A: 6, B: 7, F: 1, G: 4}},
		Fans:  [][]int{{0, 2, 5}, {0, 3, 2}, {0, 4, 3}, {0, 5, 4}, {1, 5, 2}, {1, 2, 3}, {1, 3, 4}, {1, 4, 5}},
		Round: slices.Repeat([]bool{true}, 8),
	})
}

// cube: a cage of six squares.
func cube() [][]int {
	return [][]int{{0, 3, 2, 1}, {4, 5, 6, 7}, {0, 1, 5, 4}, {1, 2, 6, 5}, {2, 3, 7, 6}, {3, 0, 4, 7}}
}

func TestMany(t *testing.T) { // P8.1: surfaces that have nothing in common are one, too
	right(t, 6, [][]int{{5, 1, 3}, {0, 4, 2}}, api.Topo{
		Edges: []api.Edge{{A: 0, B: 2, F: -1, G: 1}, {A: 0, B: 4, F: 1, G: -1}, {A: 1, B: 3, F: 0, G: -1}, {A: 1, B: 5, F: -1, G: 0}, {A: 2, B: 4, F: -1, G: 1}, {A: 3, B: 5, F: 0, G: -1}},
		Fans:  [][]int{{1}, {0}, {1}, {0}, {1}, {0}},
		Round: make([]bool, 6),
	})
	// One that is closed beside one that isn't.
	x := built(t, 11, append(cube(), []int{8, 9, 10}))
	if len(x.Edges) != 15 || !slices.Equal(x.Round, append(slices.Repeat([]bool{true}, 8), false, false, false)) {
		t.Error(x)
	}
}

func TestNoFace(t *testing.T) { // P8.1: too few vertices, ones that aren't there, and ones that are alike
	for _, face := range [][]int{
		nil, {}, {0}, {1}, {0, 1}, {1, 2}, {0, 0}, // too few
		{0, 1, 3}, {3, 1, 0}, {0, 3, 1}, {0, 1, 2, 3}, {-1, 0, 1}, {0, -1, 1}, {0, 1, -1}, {0, 1, 2, -1}, // not there
		{0, 1, math.MaxInt}, {math.MinInt, 1, 2}, {0, 1, 1 << 32}, {1 << 32, 1<<32 + 1, 1<<32 + 2}, {0, 1, 2, 3, 4, 5, 6, 7, 8},
		{0, 0, 0}, {0, 0, 1, 2}, {0, 1, 1, 2}, {0, 1, 2, 2}, {0, 1, 2, 0}, {0, 1, 0, 2}, {1, 0, 2, 0}, {0, 1, 2, 1}, {0, 1, 2, 0, 1, 2}, {2, 1, 0, 2, 0, 1}, // alike
	} {
		wrong(t, 3, [][]int{face})
		wrong(t, 3, [][]int{face, {0, 1, 2}})
		wrong(t, 3, [][]int{{0, 1, 2}, face})
		wrong(t, 3, [][]int{{2, 1, 0}, face})
	}
	// With a vertex twice that is gone in and out by four edges, each in one way.
	wrong(t, 5, [][]int{{0, 1, 2, 0, 3, 4}})
	wrong(t, 5, [][]int{{0, 1, 2, 0, 3, 4}, {2, 1, 0, 4, 3}})
}

func TestNoSurface(t *testing.T) { // P8.1: faces that go the same way, vertices in no face, faces that are more than one fan
	for _, c := range []struct {
		verts int
		faces [][]int
	}{
		{3, [][]int{{0, 1, 2}, {0, 1, 2}}},
		{3, [][]int{{0, 1, 2}, {2, 0, 1}}},
		{3, [][]int{{0, 1, 2}, {2, 1, 0}, {0, 1, 2}}},
		{4, [][]int{{0, 1, 2}, {0, 1, 3}}},
		{4, [][]int{{0, 1, 2}, {3, 0, 1}}},
		{5, [][]int{{0, 1, 2}, {1, 0, 3}, {0, 1, 4}}}, // three at an edge
		{4, [][]int{{0, 1, 2}}},
		{4, [][]int{{1, 2, 3}}},
		{2, [][]int{{0, 1, 2}}},
		{9, cube()},
		{7, cube()},
		{5, [][]int{{0, 1, 2}, {0, 3, 4}}},                       // a vertex of two open fans
		{5, [][]int{{1, 2, 0}, {3, 4, 0}}},                       //
		{5, [][]int{{1, 2, 0}, {4, 0, 3}}},                       //
		{5, [][]int{{0, 1, 2}, {2, 1, 0}, {0, 3, 4}}},            // of a round and an open one
		{5, [][]int{{0, 3, 4}, {0, 1, 2}, {2, 1, 0}}},            //
		{5, [][]int{{0, 1, 2}, {2, 1, 0}, {0, 3, 4}, {4, 3, 0}}}, // of two round ones
		{7, [][]int{{0, 2, 1}, {0, 1, 3}, {1, 2, 3}, {0, 3, 2}, {3, 4, 5}, {3, 5, 6}, {3, 6, 4}}},
		{7, [][]int{{0, 2, 1}, {0, 1, 3}, {1, 2, 3}, {0, 3, 2}, {3, 4, 5}, {3, 5, 6}, {3, 6, 4}, {6, 5, 4}}},
		{6, [][]int{{0, 1, 3, 2}, {2, 3, 5, 4}, {4, 5, 0, 1}}}, // a strip with one side
	} {
		wrong(t, c.verts, c.faces)
		slices.Reverse(c.faces)
		wrong(t, c.verts, c.faces)
	}
}

func TestCounts(t *testing.T) { // P8.1: no other number of vertices will do
	for verts := -3; verts < 20; verts++ {
		if verts == 8 {
			built(t, verts, cube())
		} else {
			wrong(t, verts, cube())
		}
	}
	for _, verts := range []int{math.MinInt, math.MinInt + 8, 1 << 32, 1<<32 + 8, math.MaxInt} {
		wrong(t, verts, cube())
	}
}

// ends: numbers that are a cage's vertices, and ones that aren't.
func ends() []int {
	return []int{math.MinInt, math.MinInt + 1, -1 << 32, -3, -2, -1, 0, 1, 2, 3, 4, 5, 6, 7, 8, 9, 10, 11, 12, 13, 1 << 32, math.MaxInt - 1, math.MaxInt}
}

// find: does Find answer what going through the list does?
func find(t *testing.T, x api.Topo, a, b int) bool {
	t.Helper()
	place, there := 0, false
	for k, e := range x.Edges {
		if e.A == a && e.B == b || e.A == b && e.B == a {
			place, there = k, true
		}
	}
	if k, ok := Find(x, a, b); k != place || ok != there {
		t.Error(x.Edges, a, b, k, ok, "not", place, there)
	}
	return there
}

func TestFind(t *testing.T) { // P8.2: all edges that there are, either way, and none else
	open := [][]int{{0, 1, 4, 3}, {1, 2, 5, 4}}
	for _, x := range []api.Topo{{}, built(t, 0, nil), built(t, 3, [][]int{{2, 1, 0}}), built(t, 6, open), built(t, 8, cube())} {
		found := 0
		for _, a := range ends() {
			for _, b := range ends() {
				if find(t, x, a, b) {
					found++
				}
			}
		}
		if found != 2*len(x.Edges) {
			t.Error(x.Edges, found)
		}
	}
	x := built(t, 6, open)
	for _, c := range []struct {
		a, b, k int
		ok      bool
	}{{0, 1, 0, true}, {1, 0, 0, true}, {1, 4, 3, true}, {4, 1, 3, true}, {4, 5, 6, true}, {5, 4, 6, true}, {0, 4, 0, false}, {4, 0, 0, false}, {3, 3, 0, false}, {4, 6, 0, false}, {-1, 4, 0, false}} {
		if k, ok := Find(x, c.a, c.b); k != c.k || ok != c.ok {
			t.Error(c, k, ok)
		}
	}
}

func TestFindInOrder(t *testing.T) { // P8.2: in any list that is in order, of numbers of any size; whatever else a topo has isn't asked
	list := []api.Edge{{A: math.MinInt, B: math.MinInt + 1}, {A: math.MinInt, B: -3}, {A: math.MinInt, B: math.MaxInt}, {A: -2, B: -1}, {A: -2, B: 5}, {A: 0, B: math.MaxInt}, {A: 3, B: 4}, {A: 3, B: 1 << 32}, {A: 5, B: 6}, {A: math.MaxInt - 1, B: math.MaxInt}}
	for n := range len(list) + 1 {
		for _, a := range ends() {
			for _, b := range ends() {
				find(t, api.Topo{Edges: list[:n]}, a, b)
			}
		}
	}
	// In no order it ends, too.
	slices.Reverse(list)
	for _, a := range ends() {
		for _, b := range ends() {
			Find(api.Topo{Edges: list}, a, b)
		}
	}
}

func TestEdged(t *testing.T) { // P8.2: one face alone, whichever way it goes; false beyond the list
	x := built(t, 6, [][]int{{0, 1, 4, 3}, {1, 2, 5, 4}})
	for _, e := range ends() {
		if got, want := Edged(x, e), 0 <= e && e < 7 && e != 3; got != want {
			t.Error(e, got)
		}
		if Edged(built(t, 8, cube()), e) || Edged(api.Topo{}, e) || Edged(built(t, 0, nil), e) {
			t.Error(e)
		}
		if got, want := Edged(built(t, 3, [][]int{{2, 1, 0}}), e), 0 <= e && e < 3; got != want {
			t.Error(e, got)
		}
	}
}

func TestFar(t *testing.T) { // P1, P8.1: of any size; each ends, long before all that is told is gone through
	const many = 1 << 16
	line := make([]int, many)
	for i := range line {
		line[i] = i
	}
	// One long face: each edge has it alone.
	x := built(t, many, [][]int{line})
	if len(x.Edges) != many || x.Edges[0] != (api.Edge{A: 0, B: 1, F: 0, G: -1}) || x.Edges[1] != (api.Edge{A: 0, B: many - 1, F: -1, G: 0}) {
		t.Error(x.Edges[:3])
	}
	if k, ok := Find(x, many-1, many-2); !ok || k != many-1 || !Edged(x, k) {
		t.Error(k, ok)
	}
	wrong(t, math.MaxInt, [][]int{line})
	wrong(t, many-1, [][]int{line})
	wrong(t, many+1, [][]int{line})
	// Faces that share their memory, and have far more vertices than it.
	shared := slices.Repeat([][]int{line}, 1<<20)
	for _, verts := range []int{3, many, 1 << 40, math.MaxInt} {
		wrong(t, verts, shared)
	}
	for i := range shared {
		k := i % (many / 2)
		shared[i] = line[k : k+many/2]
	}
	wrong(t, many, shared)
	wrong(t, 1<<40, shared)
	wrong(t, math.MaxInt, make([][]int, many))
	// Pieces that share an end alone.
	chain := make([][]int, 0, many/2)
	for i := 0; i+3 <= many; i += 2 {
		chain = append(chain, line[i:i+3])
	}
	wrong(t, many-1, chain)
	for i := range chain {
		chain[i] = []int{0, i + 2, i + 1}
	}
	// One long fan.
	x = built(t, len(chain)+2, chain)
	if fan := x.Fans[0]; len(fan) != len(chain) || fan[0] != len(fan)-1 || fan[1] != len(fan)-2 || fan[len(fan)-1] != 0 || x.Round[0] {
		t.Error(len(fan), fan[:2], x.Round[0])
	}
	chain = append(chain, []int{0, 1, len(chain) + 1})
	x = built(t, len(chain)+1, chain)
	if fan := x.Fans[0]; len(fan) != len(chain) || fan[0] != 0 || fan[1] != len(fan)-1 || fan[len(fan)-1] != 1 || !x.Round[0] {
		t.Error(len(fan), fan[:2], x.Round[0])
	}
}

// spare: a list with something behind its length.
func spare[T any](list []T, more T) []T {
	return append(slices.Clone(list), more, more)[:len(list)]
}

// roomy: faces with something behind the length of each list.
func roomy(faces [][]int) [][]int {
	all := spare(faces, []int{0, 1, 2})
	for i, face := range all {
		all[i] = spare(face, 77)
	}
	return all
}

// copied: a copy of faces, with what lies behind their lists' lengths.
func copied(faces [][]int) [][]int {
	all := slices.Clone(faces[:cap(faces)])
	for i, face := range all {
		all[i] = slices.Clone(face[:cap(face)])
	}
	return all
}

func TestAsItWas(t *testing.T) { // P8.3: what is handed in is as it was, behind the lists' lengths too, whether it makes a surface or not
	for _, faces := range [][][]int{cube(), {{2, 0, 1}}, {{3, 1, 0}, {0, 1, 2}}, {{0, 1, 2}, {0, 1, 2}}, {{2, 1, 3}, nil}, {}, nil} {
		for _, verts := range []int{-1, 0, 3, 4, 8} {
			given := roomy(faces)
			was := copied(given)
			Build(verts, given)
			if !reflect.DeepEqual(copied(given), was) {
				t.Error(verts, faces, "is changed")
			}
		}
	}
	x := built(t, 8, cube())
	was := built(t, 8, cube())
	for k, e := range x.Edges {
		Find(x, e.B, e.A)
		Find(x, e.A, k)
		Edged(x, k)
	}
	if !reflect.DeepEqual(x, was) {
		t.Error(x, "is changed")
	}
}

// fill: all of a topo's memory set to one number, spare room too.
func fill(x api.Topo, n int) {
	fans := x.Fans[:cap(x.Fans)]
	for i := range fans {
		fan := fans[i][:cap(fans[i])]
		for j := range fan {
			fan[j] = n
		}
	}
	for i := len(x.Fans); i < len(fans); i++ {
		fans[i] = []int{n}
	}
	edges := x.Edges[:cap(x.Edges)]
	for i := range edges {
		edges[i] = api.Edge{A: n, B: n, F: n, G: n}
	}
	clear(x.Round[:cap(x.Round)])
}

func TestNewMemory(t *testing.T) { // P8.3: whatever is done to an answer, what was handed in and the next answer are as they were; no two lists share memory
	plain := append(cube(), []int{8, 10, 9})
	faces := roomy(plain)
	was := copied(faces)
	first, want := built(t, 11, faces), built(t, 11, faces)
	second := built(t, 11, faces)
	fill(first, 77)
	if !reflect.DeepEqual(copied(faces), was) || !same(second, want) || !same(built(t, 11, faces), want) {
		t.Error(faces, second)
	}
	// And whatever is done to the faces, the answer is as it was.
	for i := range faces {
		clear(faces[i])
	}
	if !same(second, want) {
		t.Error(second)
	}
	// Longer or changed lists don't come into one another.
	for i := range second.Fans {
		x, want := built(t, 11, plain), built(t, 11, plain)
		fan := x.Fans[i][:cap(x.Fans[i])]
		for j := range fan {
			fan[j] = 77
		}
		_ = append(x.Fans[i], 77, 77, 77)
		want.Fans[i] = x.Fans[i]
		if !same(x, want) {
			t.Error(i, x)
		}
	}
}
