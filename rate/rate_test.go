package rate

import (
	"math"
	"testing"

	"relievo/api"
)

const most, least = math.MaxInt64, math.MinInt64

// long: a curve's length, where there must be one.
func long(t testing.TB, p [4]api.V) int {
	t.Helper()
	n, ok := Length(p)
	if !ok {
		t.Fatal("Length", p)
	}
	return n
}

// none: is there no length, and with it no rate, whatever the unit?
func none(t testing.TB, p [4]api.V) {
	t.Helper()
	if n, ok := Length(p); n != 0 || ok {
		t.Error("Length", p, n, ok)
	}
	for _, unit := range []int{1, 2, 100, most, 0, -1, least} {
		if n := Edge(p, unit); n != 0 {
			t.Error("Edge", p, unit, n)
		}
	}
}

// backwards: a curve, told from its end on.
func backwards(p [4]api.V) [4]api.V { return [4]api.V{p[3], p[2], p[1], p[0]} }

// straight: four points of a length, the first and the last way of which are of no length.
func straight(length int) [4]api.V {
	return [4]api.V{{X: -length / 2}, {X: -length / 2}, {X: length - length/2}, {X: length - length/2}}
}

// sidings: where the four points of each side stand in a patch.
var sidings = [4][4]int{{0, 1, 2, 3}, {3, 7, 11, 15}, {15, 14, 13, 12}, {12, 8, 4, 0}}

// spread: a patch whose columns are 3 apart and whose rows are 5 apart.
func spread() [16]api.V {
	var p [16]api.V
	for k := range p {
		p[k] = api.V{X: 3 * (k % 4), Y: 5 * (k / 4)}
	}
	return p
}

func TestLengthByHand(t *testing.T) { // P12.1
	for k, c := range []struct {
		p    [4]api.V
		want int
	}{
		{[4]api.V{}, 0},
		{[4]api.V{{X: 7, Y: -8, Z: 9}, {X: 7, Y: -8, Z: 9}, {X: 7, Y: -8, Z: 9}, {X: 7, Y: -8, Z: 9}}, 0},
		{[4]api.V{{}, {X: 3}, {X: 6}, {X: 9}}, 9},
		{[4]api.V{{X: 9}, {X: 6}, {X: 3}, {}}, 9},
		{[4]api.V{{}, {Y: 3}, {Y: 6}, {Y: 9}}, 9},
		{[4]api.V{{}, {Z: -3}, {Z: -6}, {Z: -9}}, 9},
		{[4]api.V{{}, {X: 1}, {X: 1}, {X: 1}}, 1},
		{[4]api.V{{}, {}, {X: 1}, {X: 1}}, 1},
		{[4]api.V{{}, {}, {}, {X: 1}}, 1},
		{[4]api.V{{}, {}, {}, {X: 2, Y: -3, Z: 4}}, 9},        // not 4, and not the root of 29
		{[4]api.V{{}, {X: 2, Y: 3}, {X: 2, Y: 3, Z: -4}}, 18}, // 5, 4 and 9 back to the beginning
		{[4]api.V{{}, {X: 5}, {}, {X: 5}}, 15},                // to and fro: by the way, not by its ends
		{[4]api.V{{}, {X: 5}, {X: 5, Y: 5}, {Y: 5}}, 15},
		{[4]api.V{{X: -1, Y: -1, Z: -1}, {X: 1, Y: 1, Z: 1}, {X: -1, Y: 1, Z: -1}, {X: 1, Y: -1, Z: 1}}, 16},
	} {
		if got := long(t, c.p); got != c.want {
			t.Error(k, got, "not", c.want)
		}
	}
}

func TestEdgeByHand(t *testing.T) { // P12.1
	for k, c := range []struct{ length, unit, want int }{
		{9, 4, 3}, // the chapter's example
		{9, 1, 10}, {9, 2, 5}, {9, 3, 4}, {9, 5, 2}, {9, 8, 2}, {9, 9, 2}, {9, 10, 1}, {9, most, 1},
		{8, 4, 3}, {7, 4, 2}, {4, 4, 2}, {3, 4, 1},
		{0, 1, 1}, {0, 2, 1}, {0, most, 1}, // a length of 0 is one
		{14, 1, 15}, {15, 1, 16}, {16, 1, 16}, {17, 1, 16}, {131072, 1, 16},
		{59, 4, 15}, {60, 4, 16}, {63, 4, 16}, {64, 4, 16}, {68, 4, 16},
		{131072, 131073, 1}, {131072, 131072, 2}, {131072, 131071, 2}, {131072, 65536, 3}, {131072, 65537, 2},
	} {
		p := straight(c.length)
		if n := long(t, p); n != c.length {
			t.Error(k, n)
		}
		if got := Edge(p, c.unit); got != c.want {
			t.Error(k, c.length, c.unit, got, "not", c.want)
		}
	}
}

func TestNoUnit(t *testing.T) { // P12.1: a unit below 1 has no rate, but the length is there all the same
	for _, length := range []int{0, 1, 9, 131072} {
		for _, unit := range []int{0, -1, -2, -9, -131072, -1 << 32, least + 1, least} {
			if got := Edge(straight(length), unit); got != 0 {
				t.Error(length, unit, got)
			}
		}
	}
	for _, unit := range []int{0, -1, -5, least} {
		if got := Sides(spread(), unit); got != ([4]int{}) {
			t.Error(unit, got)
		}
	}
}

func TestGreatUnits(t *testing.T) { // P12.1: units beyond all lengths
	for _, unit := range []int{1 << 21, 1 << 31, 1<<32 - 1, 1 << 32, 1<<32 + 1, 1 << 62, most - 1, most} {
		if got := Edge(straight(131072), unit); got != 1 {
			t.Error(unit, got)
		}
		if got := Sides(spread(), unit); got != [4]int{1, 1, 1, 1} {
			t.Error(unit, got)
		}
	}
}

// ends: points with one part at a bound, of all parts and signs.
func ends(bound int) []api.V {
	return []api.V{{X: bound}, {X: -bound}, {Y: bound}, {Y: -bound}, {Z: bound}, {Z: -bound}}
}

func TestFar(t *testing.T) { // P1, P12.1: each part of each point is within MaxSpace
	for _, bound := range []int{65537, 65538, 1 << 17, 1 << 32, 1<<32 + 1, 1 << 62, most, least} {
		for _, v := range ends(bound) {
			for k := range 4 {
				p := straight(9)
				p[k] = v
				none(t, p)
			}
			none(t, [4]api.V{v, v, v, v})
		}
	}
}

func TestNearEnough(t *testing.T) { // P12.1: MaxSpace itself is within
	for _, v := range ends(65536) {
		var p [4]api.V
		for k, want := range []int{65536, 131072, 131072, 65536} {
			p[k] = v
			if got := long(t, p); got != want {
				t.Error(v, k, got)
			}
			if got := Edge(p, want); got != 2 {
				t.Error(v, k, got)
			}
			p[k] = api.V{}
		}
		if got := long(t, [4]api.V{v, v, v, v}); got != 0 {
			t.Error(v, got)
		}
	}
	high, low := api.V{X: 65536, Y: 65536, Z: 65536}, api.V{X: -65536, Y: -65536, Z: -65536}
	longest := [4]api.V{high, low, high, low}
	if got := long(t, longest); got != 9*131072 {
		t.Error(got)
	}
	for unit, want := range map[int]int{1: 16, 9 * 8192: 16, 9*8192 + 1: 16, 9 * 131072 / 15: 16, 9*131072/15 + 1: 15, 9 * 131072: 2, 9*131072 + 1: 1} {
		if got := Edge(longest, unit); got != want {
			t.Error(unit, got, "not", want)
		}
	}
}

func TestSidesByHand(t *testing.T) { // P12.1
	for unit, want := range map[int][4]int{
		1: {10, 16, 10, 16}, 2: {5, 8, 5, 8}, 3: {4, 6, 4, 6}, 4: {3, 4, 3, 4}, 5: {2, 4, 2, 4},
		9: {2, 2, 2, 2}, 10: {1, 2, 1, 2}, 15: {1, 2, 1, 2}, 16: {1, 1, 1, 1},
	} {
		if got := Sides(spread(), unit); got != want {
			t.Error(unit, got, "not", want)
		}
	}
	// Four sides, each of its own length: the two points within a side are out of line.
	p := spread()
	p[1].Z, p[7].Z, p[14].Z, p[4].Z = 10, 20, 30, 40     // there and back
	if got := Sides(p, 10); got != [4]int{3, 6, 7, 10} { // 29, 55, 69, 95
		t.Error(got)
	}
}

func TestEachSide(t *testing.T) { // P12.1: a side hangs on its own four points alone
	for k := range 16 {
		for _, far := range []int{2, 65537, least} {
			p := spread()
			was := Sides(p, 3)
			p[k].Z = far
			now := Sides(p, 3)
			for side, own := range sidings {
				on := false
				for _, at := range own {
					on = on || at == k
				}
				want := was[side]
				switch {
				case on && far != 2:
					want = 0
				case on:
					want = Edge([4]api.V{p[own[0]], p[own[1]], p[own[2]], p[own[3]]}, 3)
				}
				if now[side] != want {
					t.Error(k, far, side, now, was)
				}
			}
		}
	}
}

func TestCommonEdge(t *testing.T) { // P12.2, P3: two patches with a side in common, which one tells each way, have one rate there
	a := spread()
	a[7], a[11] = api.V{X: 40, Y: -3, Z: 8}, api.V{X: -9, Y: 11, Z: 70}
	for side := range 4 {
		var b [16]api.V
		for k, at := range sidings[side] {
			b[at] = a[sidings[1][3-k]]
		}
		for _, unit := range []int{1, 2, 7, 13, 14, 15, 29, 250, 1000} {
			if got, want := Sides(b, unit)[side], Sides(a, unit)[1]; got != want {
				t.Error(side, unit, got, want)
			}
		}
	}
}
