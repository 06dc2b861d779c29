package curve

import (
	"math"
	"testing"

	"relievo/api"
)

const most, least = math.MaxInt64, math.MinInt64

// curved: a curve's point, where there must be one.
func curved(t testing.TB, p [4]api.V, i, n int) api.V {
	t.Helper()
	v, ok := Cubic(p, i, n)
	if !ok {
		t.Fatal("Cubic", p, i, n)
	}
	return v
}

// patched: a patch's point, where there must be one.
func patched(t testing.TB, p [16]api.V, i, n, j, m int) api.V {
	t.Helper()
	v, ok := Point(p, i, n, j, m)
	if !ok {
		t.Fatal("Point", p, i, n, j, m)
	}
	return v
}

// noCurve: does Cubic answer that there is nothing, and nothing else?
func noCurve(t testing.TB, p [4]api.V, i, n int) {
	t.Helper()
	if v, ok := Cubic(p, i, n); ok || v != (api.V{}) {
		t.Error("Cubic", p, i, n, v, ok)
	}
}

// noPatch: does Point answer that there is nothing, and nothing else?
func noPatch(t testing.TB, p [16]api.V, i, n, j, m int) {
	t.Helper()
	if v, ok := Point(p, i, n, j, m); ok || v != (api.V{}) {
		t.Error("Point", p, i, n, j, m, v, ok)
	}
}

// four: points that are all alike.
func four(v api.V) [4]api.V { return [4]api.V{v, v, v, v} }

// net: a patch with a place to each point: 3 further on in X from column to column, 6 in Y from row to row, numbered in Z.
func net() [16]api.V {
	var p [16]api.V
	for k := range p {
		p[k] = api.V{X: 3 * (k % 4), Y: 6 * (k / 4), Z: k}
	}
	return p
}

func TestCubicByHand(t *testing.T) { // P11.1
	line := [4]api.V{{}, {X: 3}, {X: 6}, {X: 9}}
	arch := [4]api.V{{X: -4, Y: 1, Z: 8}, {X: -2, Y: 9}, {X: 2, Y: 9}, {X: 4, Y: 1, Z: -8}}
	for k, c := range []struct {
		p    [4]api.V
		i, n int
		want api.V
	}{
		{line, 1, 3, api.V{X: 3}}, // the chapter's example
		{line, 0, 3, api.V{}},
		{line, 2, 3, api.V{X: 6}},
		{line, 3, 3, api.V{X: 9}},
		{line, 0, 1, api.V{}},
		{line, 1, 1, api.V{X: 9}},
		{line, 1, 2, api.V{X: 5}},  // 4 1/2
		{line, 1, 16, api.V{X: 1}}, // 9/16
		{line, 15, 16, api.V{X: 8}},
		{arch, 0, 2, api.V{X: -4, Y: 1, Z: 8}},
		{arch, 1, 2, api.V{Y: 7}},
		{arch, 1, 4, api.V{X: -2, Y: 6, Z: 3}}, // -146/64, 352/64, 208/64
		{arch, 3, 4, api.V{X: 2, Y: 6, Z: -3}},
		{arch, 2, 2, api.V{X: 4, Y: 1, Z: -8}},
	} {
		if got := curved(t, c.p, c.i, c.n); got != c.want {
			t.Error(k, c.i, c.n, got, "not", c.want)
		}
	}
}

func TestWeights(t *testing.T) { // P11.1: one point alone counts as often as the chapter tells
	for _, c := range []struct {
		i, n int
		want [4]int
	}{
		{0, 1, [4]int{1, 0, 0, 0}}, {1, 1, [4]int{0, 0, 0, 1}},
		{1, 2, [4]int{1, 3, 3, 1}},
		{1, 3, [4]int{8, 12, 6, 1}}, {2, 3, [4]int{1, 6, 12, 8}},
		{1, 4, [4]int{27, 27, 9, 1}}, {2, 4, [4]int{8, 24, 24, 8}}, {3, 4, [4]int{1, 9, 27, 27}},
		{2, 5, [4]int{27, 54, 36, 8}},
		{0, 16, [4]int{4096, 0, 0, 0}}, {1, 16, [4]int{3375, 675, 45, 1}}, {7, 16, [4]int{729, 1701, 1323, 343}}, {16, 16, [4]int{0, 0, 0, 4096}},
	} {
		for k, want := range c.want {
			var p [4]api.V
			p[k] = api.V{X: c.n * c.n * c.n, Y: -c.n * c.n * c.n}
			if got := curved(t, p, c.i, c.n); got != (api.V{X: want, Y: -want}) {
				t.Error(c.i, c.n, k, got, "not", want)
			}
		}
	}
}

func TestPatchWeights(t *testing.T) { // P11.1: i of n goes along the rows, j of m from row to row
	for _, c := range []struct {
		i, n, j, m   int
		across, down [4]int
	}{
		{0, 1, 0, 1, [4]int{1}, [4]int{1}},
		{1, 1, 0, 1, [4]int{3: 1}, [4]int{1}},
		{0, 1, 1, 1, [4]int{1}, [4]int{3: 1}},
		{1, 2, 0, 3, [4]int{1, 3, 3, 1}, [4]int{27, 0, 0, 0}},
		{1, 3, 1, 2, [4]int{8, 12, 6, 1}, [4]int{1, 3, 3, 1}},
		{1, 2, 1, 3, [4]int{1, 3, 3, 1}, [4]int{8, 12, 6, 1}},
		{3, 4, 2, 5, [4]int{1, 9, 27, 27}, [4]int{27, 54, 36, 8}},
		{2, 5, 3, 4, [4]int{27, 54, 36, 8}, [4]int{1, 9, 27, 27}},
		{1, 16, 1, 2, [4]int{3375, 675, 45, 1}, [4]int{1, 3, 3, 1}},
		{1, 2, 7, 16, [4]int{1, 3, 3, 1}, [4]int{729, 1701, 1323, 343}},
	} {
		all := c.n * c.n * c.n * c.m * c.m * c.m
		for k := range 16 {
			var p [16]api.V
			p[k] = api.V{Y: -all, Z: all}
			want := c.across[k%4] * c.down[k/4]
			if got := patched(t, p, c.i, c.n, c.j, c.m); got != (api.V{Y: -want, Z: want}) {
				t.Error(c, k, got, "not", want)
			}
		}
	}
}

func TestPointByHand(t *testing.T) { // P11.1
	for k, c := range []struct {
		i, n, j, m int
		want       api.V
	}{
		{0, 3, 0, 3, api.V{}},
		{1, 3, 0, 3, api.V{X: 3, Z: 1}},
		{0, 3, 1, 3, api.V{Y: 6, Z: 4}},
		{1, 3, 2, 3, api.V{X: 3, Y: 12, Z: 9}},
		{2, 3, 1, 3, api.V{X: 6, Y: 6, Z: 6}},
		{1, 2, 1, 2, api.V{X: 5, Y: 9, Z: 8}}, // 4 1/2, 9, 7 1/2
		{1, 1, 0, 16, api.V{X: 9, Z: 3}},
		{0, 16, 1, 1, api.V{Y: 18, Z: 12}},
		{16, 16, 16, 16, api.V{X: 9, Y: 18, Z: 15}},
		{8, 16, 1, 2, api.V{X: 5, Y: 9, Z: 8}},
	} {
		if got := patched(t, net(), c.i, c.n, c.j, c.m); got != c.want {
			t.Error(k, c, got)
		}
	}
}

func TestHalves(t *testing.T) { // P11.1: the greater one of two that are as near, whatever the sign; once, not row by row
	for _, c := range []struct{ first, last, want int }{
		{1, 0, 0}, {3, 0, 0}, {4, 0, 1}, {5, 0, 1}, {12, 0, 2}, // of 8
		{-1, 0, 0}, {-3, 0, 0}, {-4, 0, 0}, {-5, 0, -1}, {-12, 0, -1}, {-13, 0, -2},
		{2, 2, 1}, {-2, -2, 0}, {-3, -2, -1}, {3, 1, 1}, {3, -8, -1},
	} {
		p := [4]api.V{0: {X: c.first, Z: -c.last}, 3: {X: c.last, Z: -c.last}}
		if got := curved(t, p, 1, 2); got.X != c.want || got.Y != 0 {
			t.Error(c, got)
		}
	}
	// Four rows of which each alone comes to 4/8 and goes up, but not together.
	var p [16]api.V
	p[0], p[4] = api.V{X: 4, Y: -4}, api.V{X: 4, Y: -4}
	if got := patched(t, p, 1, 2, 1, 2); got != (api.V{}) { // 16/64
		t.Error(got)
	}
	p[0], p[12] = api.V{X: 20, Y: -20}, api.V{Y: -1}
	if got := patched(t, p, 1, 2, 1, 2); got != (api.V{X: 1, Y: -1}) { // 32/64, -33/64
		t.Error(got)
	}
}

func TestSidesByHand(t *testing.T) { // P11.2
	p := net()
	for side, want := range [][4]int{{0, 1, 2, 3}, {3, 7, 11, 15}, {15, 14, 13, 12}, {12, 8, 4, 0}} {
		row := Row(p, side)
		for k, v := range row {
			if v != p[want[k]] {
				t.Error(side, k, v)
			}
		}
		if next := Row(p, (side+1)%4); row[3] != next[0] {
			t.Error("from", side, "on", row, next)
		}
	}
}

func TestOtherSides(t *testing.T) { // P11.2: there are no other sides
	for _, side := range []int{-1, 4, 5, 7, 8, -4, -3, 16, 255, 256, 1 << 32, 1<<32 + 1, least, least + 1, most} {
		if got := Row(net(), side); got != ([4]api.V{}) {
			t.Error(side, got)
		}
	}
}

func TestFarSides(t *testing.T) { // P11.2: points stand in a row as they are, however far
	var p [16]api.V
	for k := range p {
		p[k] = api.V{X: most - k, Y: least + k, Z: api.MaxSpace + 1 + k}
	}
	for side, want := range [][4]int{{0, 1, 2, 3}, {3, 7, 11, 15}, {15, 14, 13, 12}, {12, 8, 4, 0}} {
		for k, v := range Row(p, side) {
			if v != p[want[k]] {
				t.Error(side, k, v)
			}
		}
	}
}

// places: numbers about the ends of those that i and n may be, and others that are never right.
var places = []int{-1, 0, 1, 2, 3, 8, 15, 16, 17, 18, -16, 32, 255, 1 << 21, 1<<32 + 1, 1 << 62, most, least}

// right: is i one of 0 to n, and n one of 1 to 16?
func right(i, n int) bool {
	for parts := 1; parts <= 16; parts++ {
		for k := 0; k <= parts; k++ {
			if k == i && parts == n {
				return true
			}
		}
	}
	return false
}

func TestPlaces(t *testing.T) { // P1, P11.1: which numbers are places
	p := [4]api.V{{X: 1, Y: 1, Z: 1}, {X: 2, Y: 3, Z: 4}, {X: 7, Y: 8, Z: 9}, {X: 5, Y: 5, Z: 5}}
	for _, i := range places {
		for _, n := range places {
			if right(i, n) {
				curved(t, p, i, n)
			} else {
				noCurve(t, p, i, n)
			}
		}
	}
	for i := -3; i <= 20; i++ {
		for n := -3; n <= 20; n++ {
			if _, ok := Cubic(p, i, n); ok != right(i, n) {
				t.Error(i, n, ok)
			}
		}
	}
}

func TestPatchPlaces(t *testing.T) { // P1, P11.1: both places must be there
	p := net()
	p[0] = api.V{X: 1, Y: 1, Z: 1} // no corner is noughts
	for _, i := range places {
		for _, n := range places {
			for _, j := range places {
				for _, m := range places {
					if right(i, n) && right(j, m) {
						patched(t, p, i, n, j, m)
					} else {
						noPatch(t, p, i, n, j, m)
					}
				}
			}
		}
	}
}

// ends: a point with one part at a bound, of all parts and signs.
func ends(bound int) []api.V {
	return []api.V{{X: bound}, {X: -bound}, {Y: bound}, {Y: -bound}, {Z: bound}, {Z: -bound}}
}

func TestFar(t *testing.T) { // P11.1: each part of each point is within MaxSpace, whether it counts there or not
	var list []api.V
	for _, bound := range []int{65537, 65538, 1 << 17, 1 << 32, 1<<32 + 1, 1 << 62, most, least} {
		list = append(list, ends(bound)...)
	}
	for _, v := range list {
		for k := range 4 {
			p := four(api.V{X: 1, Y: 2, Z: 3})
			p[k] = v
			for _, i := range []int{0, 1, 2} {
				noCurve(t, p, i, 2)
			}
		}
		for k := range 16 {
			p := net()
			p[k] = v
			for _, i := range []int{0, 1, 2} {
				for _, j := range []int{0, 1, 2} {
					noPatch(t, p, i, 2, j, 2)
				}
			}
		}
	}
}

func TestNearEnough(t *testing.T) { // P11.1: MaxSpace itself is within
	for _, v := range ends(65536) {
		for k := range 4 {
			var p [4]api.V
			p[k] = v
			for _, c := range [][2]int{{0, 1}, {1, 1}, {1, 2}, {8, 16}, {15, 16}} {
				curved(t, p, c[0], c[1])
			}
			if got := curved(t, four(v), 7, 16); got != v {
				t.Error(v, got)
			}
		}
		for k := range 16 {
			var p [16]api.V
			p[k] = v
			patched(t, p, 0, 1, 1, 1)
			patched(t, p, 5, 16, 11, 16)
			for at := range p {
				p[at] = v
			}
			if got := patched(t, p, 5, 16, 11, 16); got != v {
				t.Error(v, got)
			}
		}
	}
}
