package weave

import (
	"math"
	"slices"
	"testing"

	"relievo/api"
)

const most, least = math.MaxInt64, math.MinInt64

// woven: the spots and triangles of rates, where there must be some.
func woven(t testing.TB, rates [4]int) ([]api.Spot, [][3]int) {
	t.Helper()
	spots, tris, ok := Weave(rates)
	if !ok {
		t.Fatal("Weave", rates)
	}
	return spots, tris
}

// none: is there nothing?
func none(t testing.TB, rates [4]int) {
	t.Helper()
	if spots, tris, ok := Weave(rates); len(spots) != 0 || len(tris) != 0 || ok {
		t.Error("Weave", rates, spots, tris, ok)
	}
}

// at: corners, spots of sides and inner ones, by what each line tells: a kind, A and B.
func at(lines ...[3]int) []api.Spot {
	var list []api.Spot
	for _, l := range lines {
		list = append(list, api.Spot{Kind: l[0], A: l[1], B: l[2]})
	}
	return list
}

// check: does Weave answer just that?
func check(t *testing.T, rates [4]int, spots []api.Spot, tris [][3]int) {
	t.Helper()
	s, x := woven(t, rates)
	if !slices.Equal(s, spots) {
		t.Error(rates, "spots", s, "not", spots)
	}
	if !slices.Equal(x, tris) {
		t.Error(rates, "triangles", x, "not", tris)
	}
}

func TestOnes(t *testing.T) { // P13.1: no inner spot
	check(t, [4]int{1, 1, 1, 1},
		at([3]int{1, 0, 0}, [3]int{1, 1, 0}, [3]int{1, 2, 0}, [3]int{1, 3, 0}),
		[][3]int{{0, 1, 2}, {0, 2, 3}})
}

func TestTwos(t *testing.T) { // P13.1: the chapter's example, and each side alone with two parts
	check(t, [4]int{2, 2, 2, 2},
		at([3]int{1, 0, 0}, [3]int{1, 1, 0}, [3]int{1, 2, 0}, [3]int{1, 3, 0},
			[3]int{2, 0, 1}, [3]int{2, 1, 1}, [3]int{2, 2, 1}, [3]int{2, 3, 1},
			[3]int{3, 1, 1}),
		[][3]int{{0, 4, 8}, {4, 1, 8}, {1, 5, 8}, {5, 2, 8}, {2, 6, 8}, {6, 3, 8}, {3, 7, 8}, {7, 0, 8}})
	for k, tris := range [4][][3]int{
		{{0, 4, 5}, {4, 1, 5}, {1, 2, 5}, {2, 3, 5}, {3, 0, 5}},
		{{0, 1, 5}, {1, 4, 5}, {4, 2, 5}, {2, 3, 5}, {3, 0, 5}},
		{{0, 1, 5}, {1, 2, 5}, {2, 4, 5}, {4, 3, 5}, {3, 0, 5}},
		{{0, 1, 5}, {1, 2, 5}, {2, 3, 5}, {3, 4, 5}, {4, 0, 5}},
	} {
		rates := [4]int{1, 1, 1, 1}
		rates[k] = 2
		check(t, rates, at([3]int{1, 0, 0}, [3]int{1, 1, 0}, [3]int{1, 2, 0}, [3]int{1, 3, 0}, [3]int{2, k, 1}, [3]int{3, 1, 1}), tris)
	}
}

func TestThrees(t *testing.T) { // P13.1: a square within, and strips of all kinds about it
	check(t, [4]int{3, 1, 3, 2},
		at([3]int{1, 0, 0}, [3]int{1, 1, 0}, [3]int{1, 2, 0}, [3]int{1, 3, 0},
			[3]int{2, 0, 1}, [3]int{2, 0, 2}, [3]int{2, 2, 1}, [3]int{2, 2, 2}, [3]int{2, 3, 1},
			[3]int{3, 1, 1}, [3]int{3, 2, 1}, [3]int{3, 1, 2}, [3]int{3, 2, 2}),
		[][3]int{
			{9, 10, 12}, {9, 12, 11},
			{0, 4, 9}, {4, 5, 9}, {5, 10, 9}, {5, 1, 10}, // 1/2 and 3/2 of it are alike: the side's own goes first
			{1, 2, 10}, {2, 12, 10},
			{2, 6, 12}, {6, 7, 12}, {7, 11, 12}, {7, 3, 11},
			{3, 8, 11}, {8, 9, 11}, {8, 0, 9},
		})
}

func TestFourAndOne(t *testing.T) { // P13.1: one part with three inner spots beside it, and the inner ones' order
	check(t, [4]int{1, 4, 1, 1},
		at([3]int{1, 0, 0}, [3]int{1, 1, 0}, [3]int{1, 2, 0}, [3]int{1, 3, 0},
			[3]int{2, 1, 1}, [3]int{2, 1, 2}, [3]int{2, 1, 3},
			[3]int{3, 1, 1}, [3]int{3, 2, 1}, [3]int{3, 3, 1},
			[3]int{3, 1, 2}, [3]int{3, 2, 2}, [3]int{3, 3, 2},
			[3]int{3, 1, 3}, [3]int{3, 2, 3}, [3]int{3, 3, 3}),
		[][3]int{
			{7, 8, 11}, {7, 11, 10}, {8, 9, 12}, {8, 12, 11}, {10, 11, 14}, {10, 14, 13}, {11, 12, 15}, {11, 15, 14},
			{0, 8, 7}, {0, 1, 8}, {1, 9, 8}, // 4 is more than 3, and no more than 5
			{1, 4, 9}, {4, 5, 9}, {5, 12, 9}, {5, 6, 12}, {6, 15, 12}, {6, 2, 15},
			{2, 14, 15}, {2, 3, 14}, {3, 13, 14},
			{3, 10, 13}, {3, 0, 10}, {0, 7, 10},
		})
}

func TestMost(t *testing.T) { // P13.1: as many as there can be
	spots, tris := woven(t, [4]int{16, 16, 16, 16})
	if len(spots) != 17*17 || len(tris) != 2*16*16 {
		t.Error(len(spots), len(tris))
	}
	if got := spots[len(spots)-1]; got != (api.Spot{Kind: api.KInner, A: 15, B: 15}) {
		t.Error(got)
	}
	for k := range 4 {
		rates := [4]int{1, 1, 1, 1}
		rates[k] = 16
		spots, tris = woven(t, rates)
		if len(spots) != 4+15+225 || len(tris) != 2*14*14+4*14+16+3 {
			t.Error(k, len(spots), len(tris))
		}
	}
}

func TestWrong(t *testing.T) { // P1, P13.1: each rate is 1 to 16
	for k := range 4 {
		for _, right := range []int{1, 2, 9, 16} {
			for _, rate := range []int{0, -1, 17, -16, 18, 32, 256 + 1, 1 << 16, 1<<32 + 1, 1<<32 + 16, 1 << 62, most, least, least + 1} {
				rates := [4]int{right, right, right, right}
				rates[k] = rate
				none(t, rates)
			}
		}
	}
	none(t, [4]int{})
	none(t, [4]int{17, 17, 17, 17})
	none(t, [4]int{least, most, least, most})
}

func TestNew(t *testing.T) { // P13.3: what is answered is no one else's, its spare room neither
	for _, rates := range [][4]int{{1, 1, 1, 1}, {1, 2, 1, 1}, {3, 1, 3, 2}, {16, 9, 4, 1}} {
		spots, tris := woven(t, rates)
		spotsWere, trisWere := slices.Clone(spots), slices.Clone(tris)
		for range 3 {
			s, x := woven(t, rates)
			clear(s[:cap(s)])
			clear(x[:cap(x)])
		}
		if !slices.Equal(spots, spotsWere) || !slices.Equal(tris, trisWere) {
			t.Error(rates, "share their memory with others")
		}
		check(t, rates, spotsWere, trisWere)
	}
}
