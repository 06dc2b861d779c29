package topo

import (
	"slices"
	"testing"

	"relievo/api"
)

// dice: numbers that look like any, the same at each run.
type dice uint64

// below: a number from 0 on, below a bound.
func (r *dice) below(bound int) int {
	*r = *r*6364136223846793005 + 1442695040888963407
	return int(uint64(*r)>>33) % bound
}

// shuffled: the numbers from 0 on, below a bound, in any order.
func (r *dice) shuffled(n int) []int {
	all := make([]int, n)
	for i := range all {
		k := r.below(i + 1)
		all[i], all[k] = all[k], i
	}
	return all
}

// neighbours: the corners behind and ahead of a vertex in a face; false, if it has no such corner.
func neighbours(face []int, v int) (behind, ahead int, ok bool) {
	for i, w := range face {
		if w == v {
			return face[(i+len(face)-1)%len(face)], face[(i+1)%len(face)], true
		}
	}
	return 0, 0, false
}

// going: all faces that go from a to b.
func going(faces [][]int, a, b int) []int {
	var all []int
	for f, face := range faces {
		if _, ahead, ok := neighbours(face, a); ok && ahead == b {
			all = append(all, f)
		}
	}
	return all
}

// whether: are these faces, each of unlike vertices, all in one or more of them, of which no two go the same way?
func whether(verts int, faces [][]int) bool {
	met := make([]bool, max(verts, 0))
	for _, face := range faces {
		if len(face) < 3 {
			return false
		}
		for i, v := range face {
			if v < 0 || v >= verts || slices.Contains(face[:i], v) {
				return false
			}
			met[v] = true
		}
	}
	for a := range verts {
		for b := range verts {
			if len(going(faces, a, b)) > 1 {
				return false
			}
		}
	}
	return verts >= 0 && !slices.Contains(met, false)
}

// fans: all orders of the faces around a vertex that are fans with the first face that the chapter tells.
func fans(faces [][]int, v int) (all [][]int, round []bool) {
	var around []int
	for f, face := range faces {
		if slices.Contains(face, v) {
			around = append(around, f)
		}
	}
	var try func(order []int)
	try = func(order []int) {
		behind, _, _ := neighbours(faces[order[len(order)-1]], v)
		if len(order) == len(around) {
			_, ahead, _ := neighbours(faces[order[0]], v)
			alone := len(going(faces, ahead, v)) == 0
			switch {
			case behind == ahead && order[0] == around[0]:
				all, round = append(all, slices.Clone(order)), append(round, true)
			case len(going(faces, v, behind)) == 0 && alone:
				all, round = append(all, slices.Clone(order)), append(round, false)
			}
		}
		for _, next := range around {
			if _, ahead, _ := neighbours(faces[next], v); ahead == behind && !slices.Contains(order, next) {
				try(append(slices.Clone(order), next))
			}
		}
	}
	for _, first := range around {
		try([]int{first})
	}
	return all, round
}

// told: what the chapter's own words say of these faces.
func told(t *testing.T, verts int, faces [][]int) (api.Topo, bool) {
	if !whether(verts, faces) {
		return api.Topo{}, false
	}
	one := func(list []int) int {
		if len(list) == 0 {
			return -1
		}
		return list[0]
	}
	var x api.Topo
	for a := range verts {
		for b := a + 1; b < verts; b++ {
			if f, g := one(going(faces, a, b)), one(going(faces, b, a)); f >= 0 || g >= 0 {
				x.Edges = append(x.Edges, api.Edge{A: a, B: b, F: f, G: g})
			}
		}
	}
	for v := range verts {
		all, round := fans(faces, v)
		if len(all) == 0 {
			return api.Topo{}, false
		}
		if len(all) > 1 {
			t.Fatal(faces, v, all, "can't be told from one another")
		}
		x.Fans, x.Round = append(x.Fans, all[0]), append(x.Round, round[0])
	}
	return x, true
}

// hold: does Build answer what the chapter's words say? Tells whether there was a surface.
func hold(t *testing.T, verts int, faces [][]int) bool {
	t.Helper()
	want, ok := told(t, verts, faces)
	if !ok {
		wrong(t, verts, faces)
		return false
	}
	right(t, verts, faces, want)
	return true
}

// met: how many surfaces there were, and how many others; both are to be met often.
type met struct{ surfaces, others int }

func (m *met) add(surface bool) {
	if surface {
		m.surfaces++
	} else {
		m.others++
	}
}

func (m met) check(t *testing.T, surfaces, others int) {
	t.Helper()
	if m.surfaces < surfaces || m.others < others {
		t.Error(m)
	}
}

// faces: all faces of up to so many vertices, each one of some.
func faces(verts []int, most int) [][]int {
	all := [][]int{nil}
	for from := 0; most > 0; most-- {
		now := len(all)
		for _, face := range all[from:now] {
			for _, v := range verts {
				all = append(all, append(slices.Clone(face), v))
			}
		}
		from = now
	}
	return all
}

func TestAllOne(t *testing.T) { // P8.1: one face, of all kinds
	var m met
	for _, face := range faces([]int{-1, 0, 1, 2, 3, 4}, 4) {
		for verts := -1; verts < 7; verts++ {
			m.add(hold(t, verts, [][]int{face}))
		}
	}
	m.check(t, 6+24, 1000)
}

func TestAllPairs(t *testing.T) { // P8.1: two faces, of all kinds
	var m met
	all := faces([]int{-1, 0, 1, 2, 3}, 3)
	for _, p := range all {
		for _, q := range all {
			for verts := 3; verts < 5; verts++ {
				m.add(hold(t, verts, [][]int{p, q}))
			}
		}
	}
	for _, p := range all {
		for _, q := range faces([]int{0, 1, 2, 3}, 4)[1+4+16+64:] {
			m.add(hold(t, 4, [][]int{p, q}))
			m.add(hold(t, 4, [][]int{q, p}))
		}
	}
	m.check(t, 100, 10000)
}

func TestAllTriangles(t *testing.T) { // P8.1: all sets of triangles of four vertices, all triples, and many sets of five vertices
	var m met
	some := func(verts int, all [][]int, set int) [][]int {
		var list [][]int
		for i, face := range all {
			if set>>i&1 == 1 {
				list = append(list, face)
			}
		}
		m.add(hold(t, verts, list))
		slices.Reverse(list)
		m.add(hold(t, verts, list))
		return list
	}
	triangles := func(verts int) [][]int {
		var all [][]int
		for c := range verts {
			for b := range c {
				for a := range b {
					all = append(all, []int{a, b, c}, []int{b, a, c})
				}
			}
		}
		return all
	}
	four := triangles(4)
	for set := range 1 << len(four) {
		for verts := 2; verts < 6; verts++ {
			some(verts, four, set)
		}
	}
	for _, p := range four {
		for _, q := range four {
			for _, s := range four {
				m.add(hold(t, 4, [][]int{p, q, s}))
			}
		}
	}
	five := triangles(5)
	r := dice(5)
	for range 20000 {
		some(5, five, r.below(1<<20)&r.below(1<<20))
	}
	m.check(t, 500, 30000)
}

// grid: squares by rows, w by h of them; with a width or a height that is closed the last ones meet the first ones.
func grid(w, h int, closedW, closedH bool) (int, [][]int) {
	across, up := w+1, h+1
	if closedW {
		across = w
	}
	if closedH {
		up = h
	}
	var all [][]int
	for y := range h {
		for x := range w {
			a, b, c, d := y*across+x, y*across+(x+1)%across, (y+1)%up*across+(x+1)%across, (y+1)%up*across+x
			all = append(all, []int{a, b, c, d})
		}
	}
	return across * up, all
}

// cone: triangles around a vertex, and a face below them, or none.
func cone(n int, closed bool) (int, [][]int) {
	var all [][]int
	var below []int
	for i := range n {
		all = append(all, []int{0, 1 + i, 1 + (i+1)%n})
		below = append(below, n-i)
	}
	if closed {
		all = append(all, below)
	}
	return n + 1, all
}

// stirred: the same surface with other numbers of its vertices, its faces in another order, each told from another corner on.
func (r *dice) stirred(verts int, faces [][]int) [][]int {
	number := r.shuffled(verts)
	all := make([][]int, len(faces))
	for i, k := range r.shuffled(len(faces)) {
		turn := r.below(len(faces[k]))
		for j := range faces[k] {
			all[i] = append(all[i], number[faces[k][(j+turn)%len(faces[k])]])
		}
	}
	return all
}

// surface: one of some kinds, and what its vertices, edges and faces come to by Euler's formula.
func (r *dice) surface() (verts int, faces [][]int, euler int) {
	n, m := 3+r.below(4), 3+r.below(3)
	switch r.below(7) {
	case 0:
		verts, faces = grid(1+r.below(4), 1+r.below(4), false, false)
		return verts, faces, 1
	case 1:
		verts, faces = grid(n, 1+r.below(3), true, false)
		return verts, faces, 0
	case 2:
		verts, faces = grid(n, m, true, true)
		return verts, faces, 0
	case 3:
		verts, faces = cone(n, true)
		return verts, faces, 2
	case 4:
		verts, faces = cone(n, false)
		return verts, faces, 1
	case 5:
		return 8, cube(), 2
	}
	// Two of them, side by side.
	verts, faces, euler = r.surface()
	next, more, other := r.surface()
	for _, face := range more {
		var beside []int
		for _, v := range face {
			beside = append(beside, v+verts)
		}
		faces = append(faces, beside)
	}
	return verts + next, faces, euler + other
}

func TestSurfaces(t *testing.T) { // P8.1, P8.2: surfaces of many kinds
	r := dice(1)
	for range 1500 {
		verts, faces, euler := r.surface()
		faces = r.stirred(verts, faces)
		if !hold(t, verts, faces) {
			t.Fatal(verts, faces)
		}
		x := built(t, verts, faces)
		if verts-len(x.Edges)+len(faces) != euler {
			t.Error(verts, len(x.Edges), len(faces), "not", euler)
		}
		corners, sum := 0, 0
		for _, face := range faces {
			corners += len(face)
		}
		for _, fan := range x.Fans {
			sum += len(fan)
		}
		if corners != sum {
			t.Error(faces, x.Fans)
		}
		for k, e := range x.Edges {
			if at, ok := Find(x, e.A, e.B); at != k || !ok {
				t.Error(e, at, ok)
			}
			if Edged(x, k) != (len(going(faces, e.A, e.B))+len(going(faces, e.B, e.A)) == 1) {
				t.Error(e)
			}
		}
		for range 20 {
			find(t, x, r.below(verts+2)-1, r.below(verts+2)-1)
		}
	}
}

// spoiled: a surface with something changed.
func (r *dice) spoiled(verts int, faces [][]int) (int, [][]int) {
	k := r.below(len(faces))
	face := faces[k]
	at := r.below(len(face))
	switch r.below(9) {
	case 0: // a face less
		faces = slices.Delete(faces, k, k+1)
	case 1: // a face the other way round
		slices.Reverse(face)
	case 2: // a face twice
		faces = append(faces, face)
	case 3: // two vertices in one
		a, b := r.below(verts), r.below(verts)
		for _, f := range faces {
			for i, v := range f {
				if v == a {
					f[i] = b
				} else if v == verts-1 {
					f[i] = a
				}
			}
		}
		verts--
	case 4: // a corner less
		faces[k] = slices.Delete(face, at, at+1)
	case 5: // another corner
		face[at] = r.below(verts+2) - 1
	case 6: // a corner more
		faces[k] = slices.Insert(face, at, r.below(verts))
	case 7: // a vertex more or less
		verts += 1 - 2*r.below(2)
	case 8: // a face in two
		if len(face) > 3 {
			faces[k] = slices.Clone(face[:3])
			faces = append(faces, append(slices.Clone(face[2:]), face[0]))
		}
	}
	return verts, faces
}

func TestSpoiled(t *testing.T) { // P8.1: surfaces with something changed; some of them are surfaces still
	r := dice(2)
	var m met
	for range 6000 {
		verts, faces, _ := r.surface()
		faces = r.stirred(verts, faces)
		for range 1 + r.below(2) {
			if len(faces) > 0 && !slices.ContainsFunc(faces, func(face []int) bool { return len(face) == 0 }) && verts > 0 {
				verts, faces = r.spoiled(verts, faces)
			}
		}
		m.add(hold(t, verts, faces))
	}
	m.check(t, 500, 3000)
}

func TestAgain(t *testing.T) { // P8.1: the same each time, however often it is asked
	r := dice(3)
	for range 20 {
		verts, faces, _ := r.surface()
		faces = r.stirred(verts, faces)
		want := built(t, verts, faces)
		for range 20 {
			right(t, verts, faces, want)
		}
	}
}

func FuzzAnyFaces(f *testing.F) { // P1, P8.1: it answers at all faces
	f.Add(4, []byte{0, 1, 2, 255, 2, 1, 3})
	f.Add(0, []byte{})
	f.Fuzz(func(t *testing.T, verts int, told []byte) {
		var all [][]int
		if len(told) > 0 && len(told) < 200 {
			all = append(all, nil)
			for _, b := range told {
				if b == 255 {
					all = append(all, nil)
				} else {
					all[len(all)-1] = append(all[len(all)-1], int(int8(b)))
				}
			}
		}
		if verts < 300 {
			hold(t, verts, all)
		} else {
			wrong(t, verts, all)
		}
	})
}
