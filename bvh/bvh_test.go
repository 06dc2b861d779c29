package bvh

import (
	"math"
	"slices"
	"testing"

	"relievo/api"
)

const most, least = math.MaxInt64, math.MinInt64

// built: the tree over boxes, where there must be one.
func built(t testing.TB, boxes []api.Box, leaf int) api.Tree {
	t.Helper()
	x, e := Build(boxes, leaf)
	if e != api.OK {
		t.Fatal("Build", boxes, leaf, e)
	}
	return x
}

// check: does Build answer just that?
func check(t *testing.T, boxes []api.Box, leaf int, nodes []api.Node, items []int) {
	t.Helper()
	x := built(t, boxes, leaf)
	if !slices.Equal(x.Nodes, nodes) {
		t.Error(boxes, leaf, "nodes", x.Nodes, "not", nodes)
	}
	if !slices.Equal(x.Items, items) {
		t.Error(boxes, leaf, "items", x.Items, "not", items)
	}
}

// ordered: does a tree whose leaves have one item have them in this order?
func ordered(t *testing.T, boxes []api.Box, items ...int) {
	t.Helper()
	if x := built(t, boxes, 1); !slices.Equal(x.Items, items) {
		t.Error(boxes, "items", x.Items, "not", items)
	}
}

// wrong: does Build answer this error, and nothing beside it?
func wrong(t *testing.T, boxes []api.Box, leaf int, want api.Errno) {
	t.Helper()
	if x, e := Build(boxes, leaf); e != want || x.Nodes != nil || x.Items != nil {
		t.Error("Build", boxes, leaf, x, e, "not", want)
	}
}

// touched: does Touched answer just these items?
func touched(t *testing.T, x api.Tree, o, d api.V, items ...int) {
	t.Helper()
	if l, e := Touched(x, o, d); e != api.OK || !slices.Equal(l, items) {
		t.Error("Touched", o, d, l, e, "not", items)
	}
}

// tooLarge: does Touched answer that the ray is out of its bounds?
func tooLarge(t *testing.T, x api.Tree, o, d api.V) {
	t.Helper()
	if l, e := Touched(x, o, d); e != api.ErrLarge || l != nil {
		t.Error("Touched", o, d, l, e)
	}
}

// box: the box with these parts of Lo and of Hi.
func box(lx, ly, lz, hx, hy, hz int) api.Box {
	return api.Box{Lo: api.V{X: lx, Y: ly, Z: lz}, Hi: api.V{X: hx, Y: hy, Z: hz}}
}

// spot: the box of one point.
func spot(x, y, z int) api.Box { return box(x, y, z, x, y, z) }

// three: the boxes of the chapter's example; the last one is in the midst.
func three() []api.Box {
	return []api.Box{box(0, 0, 0, 2, 2, 2), box(10, 0, 0, 12, 2, 2), box(4, 1, -1, 6, 3, 1)}
}

func TestThree(t *testing.T) { // P16.1: the chapter's example
	check(t, three(), 2, []api.Node{
		{Box: box(0, 0, -1, 12, 3, 2), Left: 1, Right: 2},
		{Box: box(0, 0, -1, 6, 3, 2), First: 0, Count: 2},
		{Box: box(10, 0, 0, 12, 2, 2), First: 2, Count: 1},
	}, []int{0, 2, 1})
}

func TestThreeAlone(t *testing.T) { // P16.1: leaves of one item, a Left node that isn't a leaf
	check(t, three(), 1, []api.Node{
		{Box: box(0, 0, -1, 12, 3, 2), Left: 1, Right: 4},
		{Box: box(0, 0, -1, 6, 3, 2), Left: 2, Right: 3},
		{Box: box(0, 0, 0, 2, 2, 2), First: 0, Count: 1},
		{Box: box(4, 1, -1, 6, 3, 1), First: 1, Count: 1},
		{Box: box(10, 0, 0, 12, 2, 2), First: 2, Count: 1},
	}, []int{0, 2, 1})
}

func TestOneLeaf(t *testing.T) { // P16.1: no more boxes than a leaf may have, so that nothing is sorted
	for _, leaf := range []int{3, 4, 64, 1 << 40, most} {
		check(t, three(), leaf, []api.Node{{Box: box(0, 0, -1, 12, 3, 2), Count: 3}}, []int{0, 1, 2})
	}
	back := []api.Box{spot(9, 0, 0), spot(8, 0, 0), spot(7, 0, 0), spot(6, 0, 0)}
	check(t, back, 4, []api.Node{{Box: box(6, 0, 0, 9, 0, 0), Count: 4}}, []int{0, 1, 2, 3})
	check(t, back, 3, []api.Node{
		{Box: box(6, 0, 0, 9, 0, 0), Left: 1, Right: 2},
		{Box: box(6, 0, 0, 7, 0, 0), First: 0, Count: 2},
		{Box: box(8, 0, 0, 9, 0, 0), First: 2, Count: 2},
	}, []int{3, 2, 1, 0})
	for _, leaf := range []int{1, 2, most} {
		check(t, []api.Box{box(5, 6, 7, 8, 9, 10)}, leaf, []api.Node{{Box: box(5, 6, 7, 8, 9, 10), Count: 1}}, []int{0})
	}
}

func TestOdd(t *testing.T) { // P16.1: the Left node has one more of an odd number, all of it stands ahead of the Right one
	boxes := make([]api.Box, 7)
	for i := range boxes {
		boxes[i] = spot(0, 10*i, 0)
	}
	check(t, boxes, 2, []api.Node{
		{Box: box(0, 0, 0, 0, 60, 0), Left: 1, Right: 4},
		{Box: box(0, 0, 0, 0, 30, 0), Left: 2, Right: 3},
		{Box: box(0, 0, 0, 0, 10, 0), First: 0, Count: 2},
		{Box: box(0, 20, 0, 0, 30, 0), First: 2, Count: 2},
		{Box: box(0, 40, 0, 0, 60, 0), Left: 5, Right: 6},
		{Box: box(0, 40, 0, 0, 50, 0), First: 4, Count: 2},
		{Box: box(0, 60, 0, 0, 60, 0), First: 6, Count: 1},
	}, []int{0, 1, 2, 3, 4, 5, 6})
}

func TestPart(t *testing.T) { // P16.1: by which part the items are sorted
	ordered(t, []api.Box{spot(2, 0, 0), spot(0, 1, 1)}, 1, 0)
	ordered(t, []api.Box{spot(0, 2, 1), spot(1, 0, 0)}, 1, 0)
	ordered(t, []api.Box{spot(0, 1, 2), spot(1, 0, 0)}, 1, 0)
	// Of several that are as far apart it is the first of X, Y, Z.
	ordered(t, []api.Box{spot(2, 0, 0), spot(0, 2, 2)}, 1, 0)
	ordered(t, []api.Box{spot(0, 2, 0), spot(2, 0, 2)}, 0, 1)
	ordered(t, []api.Box{spot(0, 2, 0), spot(1, 0, 2)}, 1, 0)
	ordered(t, []api.Box{spot(1, 0, 2), spot(0, 2, 0)}, 0, 1)
	// How far apart they are counts, not how far out.
	ordered(t, []api.Box{spot(900, 3, 0), spot(901, 0, 0)}, 1, 0)
	ordered(t, []api.Box{spot(-900, -3, 0), spot(-901, 0, 0)}, 0, 1)
	// The greatest and the least of all, not the first and the last of them.
	ordered(t, []api.Box{spot(0, 5, 0), spot(9, 6, 0), spot(1, 7, 0)}, 0, 2, 1)
}

func TestMiddles(t *testing.T) { // P16.1: Lo and Hi together are what counts, neither of them alone
	// The boxes are long in X, but their middles are apart in Y.
	ordered(t, []api.Box{box(-50, 3, 0, 51, 3, 0), box(-60, 0, 0, 60, 0, 0)}, 1, 0)
	// The Lo are apart in X, and the Hi likewise the other way.
	ordered(t, []api.Box{box(-9, 1, 0, 9, 1, 0), box(-5, 0, 0, 5, 0, 0)}, 1, 0)
	// Halves count: 5 and 4 together, not 2 and 2.
	ordered(t, []api.Box{box(0, 0, 0, 5, 0, 0), box(0, 0, 0, 4, 0, 0)}, 1, 0)
	ordered(t, []api.Box{box(0, -4, 0, 0, 0, 0), box(0, -5, 0, 0, 0, 0)}, 1, 0)
	ordered(t, []api.Box{box(0, 0, -1, 0, 0, 2), box(0, 0, 0, 0, 0, 0)}, 1, 0)
}

func TestNumbers(t *testing.T) { // P16.1: of alike ones the lesser number stands ahead
	boxes := make([]api.Box, 11)
	for i := range boxes {
		boxes[i] = box(-i, -i, -i, i, i, i)
	}
	ordered(t, boxes, 0, 1, 2, 3, 4, 5, 6, 7, 8, 9, 10)
	// Where X is alike on each side of the root, each side goes by Y and then by the numbers.
	ordered(t, []api.Box{spot(20, 0, 0), spot(20, 9, 9), spot(0, 0, 0), spot(20, 0, 9), spot(20, 1, 1), spot(0, 1, 1), spot(0, 0, 1), spot(0, 9, 9)},
		2, 6, 5, 7, 0, 3, 4, 1)
}

func TestEachNodeAnew(t *testing.T) { // P16.1: each node goes by its own items' greatest and least
	boxes := []api.Box{spot(100, 0, 5), spot(0, 8, 0), spot(101, 0, 4), spot(1, 0, 0), spot(102, 0, 0), spot(2, 4, 0)}
	check(t, boxes, 1, []api.Node{
		{Box: box(0, 0, 0, 102, 8, 5), Left: 1, Right: 6},
		{Box: box(0, 0, 0, 2, 8, 0), Left: 2, Right: 5},
		{Box: box(1, 0, 0, 2, 4, 0), Left: 3, Right: 4},
		{Box: spot(1, 0, 0), First: 0, Count: 1},
		{Box: spot(2, 4, 0), First: 1, Count: 1},
		{Box: spot(0, 8, 0), First: 2, Count: 1},
		{Box: box(100, 0, 0, 102, 0, 5), Left: 7, Right: 10},
		{Box: box(101, 0, 0, 102, 0, 4), Left: 8, Right: 9},
		{Box: spot(102, 0, 0), First: 3, Count: 1},
		{Box: spot(101, 0, 4), First: 4, Count: 1},
		{Box: spot(100, 0, 5), First: 5, Count: 1},
	}, []int{3, 5, 1, 4, 2, 0})
}

func TestWithoutPoints(t *testing.T) { // P16.1: a box whose Lo is above its Hi is an item too, by layer 2's Join
	odd := box(9, 9, -9, -9, -9, -10)
	check(t, []api.Box{odd}, 1, []api.Node{{Box: odd, Count: 1}}, []int{0})
	check(t, []api.Box{odd, odd}, 2, []api.Node{{Box: odd, Count: 2}}, []int{0, 1})
	check(t, []api.Box{box(1, -2, 3, 4, 5, 6), odd}, 1, []api.Node{
		{Box: box(1, -2, -9, 4, 5, 6), Left: 1, Right: 2},
		{Box: odd, First: 0, Count: 1},
		{Box: box(1, -2, 3, 4, 5, 6), First: 1, Count: 1},
	}, []int{1, 0})
}

func TestFarFromNought(t *testing.T) { // P16.1: the least box has no more than the items'
	check(t, []api.Box{box(5, 5, 5, 6, 6, 6), box(7, 7, 7, 8, 8, 8)}, 2, []api.Node{{Box: box(5, 5, 5, 8, 8, 8), Count: 2}}, []int{0, 1})
	check(t, []api.Box{box(-6, -6, -6, -5, -5, -5), box(-8, -8, -8, -7, -7, -7)}, 2, []api.Node{{Box: box(-8, -8, -8, -5, -5, -5), Count: 2}}, []int{0, 1})
}

// corners: all parts of a box, to be changed.
func corners(b *api.Box) []*int {
	return []*int{&b.Lo.X, &b.Lo.Y, &b.Lo.Z, &b.Hi.X, &b.Hi.Y, &b.Hi.Z}
}

func TestLarge(t *testing.T) { // P16.1: each part of each corner within 131,072
	for k := range 6 {
		for _, n := range []int{131073, -131073, 1 << 32, -1 << 32, 1 << 62, most, least, least + 1} {
			boxes := three()
			*corners(&boxes[k%3])[k] = n
			wrong(t, boxes, 1, api.ErrLarge)
			wrong(t, boxes, most, api.ErrLarge)
			wrong(t, boxes, 0, api.ErrPlace)
			wrong(t, boxes[k%3:k%3+1], 1, api.ErrLarge)
		}
		for _, n := range []int{131072, -131072} {
			boxes := three()
			*corners(&boxes[k%3])[k] = n
			if x := built(t, boxes, 1); len(x.Nodes) != 5 || *corners(&x.Nodes[0].Box)[k] != n && (n > 0) == (k >= 3) {
				t.Error(k, n, x)
			}
		}
	}
	const end = 131072
	check(t, []api.Box{spot(end, end, end), box(-end, -end, -end, end, end, end), spot(-end, -end, -end)}, 1, []api.Node{
		{Box: box(-end, -end, -end, end, end, end), Left: 1, Right: 4},
		{Box: box(-end, -end, -end, end, end, end), Left: 2, Right: 3},
		{Box: spot(-end, -end, -end), First: 0, Count: 1},
		{Box: box(-end, -end, -end, end, end, end), First: 1, Count: 1},
		{Box: spot(end, end, end), First: 2, Count: 1},
	}, []int{2, 1, 0})
}

func TestLeaf(t *testing.T) { // P16.1: a leaf below 1, ahead of all else
	for _, leaf := range []int{0, -1, -2, -64, -1 << 40, least, least + 1} {
		wrong(t, three(), leaf, api.ErrPlace)
		wrong(t, nil, leaf, api.ErrPlace)
		wrong(t, []api.Box{{Hi: api.V{X: most}}}, leaf, api.ErrPlace)
	}
}

func TestNone(t *testing.T) { // P16.1, P16.2: without boxes there is nothing, and nothing is asked of the ray
	for _, leaf := range []int{1, 2, most} {
		for _, boxes := range [][]api.Box{nil, {}, three()[:0]} {
			check(t, boxes, leaf, nil, nil)
			x := built(t, boxes, leaf)
			touched(t, x, api.V{}, api.V{X: 1})
			touched(t, x, api.V{}, api.V{})
			touched(t, x, api.V{X: most, Y: least, Z: 1}, api.V{X: least, Y: most, Z: most})
		}
	}
	touched(t, api.Tree{}, api.V{X: 65537}, api.V{Y: 32769})
}

// shelf: sixteen boxes in four rows; leaves of two.
func shelf(t testing.TB) api.Tree {
	var boxes []api.Box
	for i := range 16 {
		x, y := 10*(i%4), 100*(i/4)
		boxes = append(boxes, box(x, y, 0, x+4, y+4, 4))
	}
	return built(t, boxes, 2)
}

func TestTouched(t *testing.T) { // P16.2
	x := shelf(t)
	touched(t, x, api.V{X: -5, Y: 102, Z: 2}, api.V{X: 3}, 4, 5, 6, 7)
	touched(t, x, api.V{X: 50, Y: 102, Z: 2}, api.V{X: -3}, 4, 5, 6, 7)
	// From the midst on: what is behind the origin is not on the ray.
	touched(t, x, api.V{X: 17, Y: 102, Z: 2}, api.V{X: 3}, 6, 7)
	touched(t, x, api.V{X: 17, Y: 102, Z: 2}, api.V{X: -3}, 4, 5)
	touched(t, x, api.V{X: -5, Y: 102, Z: 2}, api.V{X: -3})
	// Down a column: a leaf's items both, though the ray is in one alone.
	touched(t, x, api.V{X: 2, Y: -5, Z: 2}, api.V{Y: 1}, 0, 1, 4, 5, 8, 9, 12, 13)
	// In no item, but in the leaves: between the two of each.
	touched(t, x, api.V{X: 7, Y: -5, Z: 2}, api.V{Y: 1}, 0, 1, 4, 5, 8, 9, 12, 13)
	// In the root and in nodes, but in no leaf.
	touched(t, x, api.V{X: 17, Y: -5, Z: 2}, api.V{Y: 1})
	touched(t, x, api.V{X: 20, Y: 50, Z: -9}, api.V{Z: 1})
	// Beside all.
	touched(t, x, api.V{X: 20, Y: 50, Z: 5}, api.V{X: 1})
	// Along a side, through a corner, from a corner on.
	touched(t, x, api.V{X: -5, Y: 104, Z: 4}, api.V{X: 1}, 4, 5, 6, 7)
	touched(t, x, api.V{X: -5, Y: 105, Z: 4}, api.V{X: 1})
	touched(t, x, api.V{X: 14, Y: 304, Z: 4}, api.V{X: 1, Y: 1, Z: 1}, 12, 13)
	touched(t, x, api.V{X: 35, Y: 305, Z: 5}, api.V{X: 1, Y: 1, Z: 1})
	touched(t, x, api.V{X: 35, Y: 305, Z: 5}, api.V{X: -1, Y: -1, Z: -1}, 14, 15)
}

func TestOrder(t *testing.T) { // P16.2: in the tree's order, whichever way the ray goes
	x := built(t, three(), 1)
	touched(t, x, api.V{X: -1, Y: 1, Z: 1}, api.V{X: 1}, 0, 2, 1)
	touched(t, x, api.V{X: 99, Y: 1, Z: 1}, api.V{X: -1}, 0, 2, 1)
	touched(t, x, api.V{X: 99, Y: 0, Z: 1}, api.V{X: -1}, 0, 1)
	touched(t, x, api.V{X: 5, Y: 1, Z: 1}, api.V{X: 1}, 2, 1)
	touched(t, x, api.V{X: 99, Y: 1, Z: -1}, api.V{X: -1}, 2)
	all := built(t, three(), 3)
	touched(t, all, api.V{X: 99, Y: 1, Z: -1}, api.V{X: -1}, 0, 1, 2)
}

func TestNoPointTouched(t *testing.T) { // P16.2: a leaf whose box has no points is not come to
	odd := box(2, 0, 0, 1, 9, 9)
	touched(t, built(t, []api.Box{odd}, 1), api.V{X: -9, Y: 1, Z: 1}, api.V{X: 1})
	touched(t, built(t, []api.Box{odd, box(0, 0, 0, 9, 9, 9)}, 1), api.V{X: -9, Y: 1, Z: 1}, api.V{X: 1}, 1)
	touched(t, built(t, []api.Box{odd, box(0, 0, 0, 9, 9, 9)}, 2), api.V{X: -9, Y: 1, Z: 1}, api.V{X: 1}, 0, 1)
}

func TestRays(t *testing.T) { // P16.2: each part of an origin within 65,536, of a direction within 32,768, and not 0
	x := shelf(t)
	part := func(v *api.V, k int) *int { return []*int{&v.X, &v.Y, &v.Z}[k] }
	for k := range 3 {
		for _, n := range []int{65537, -65537, 131072, 1 << 40, most, least} {
			o := api.V{X: 1, Y: 1, Z: 1}
			*part(&o, k) = n
			tooLarge(t, x, o, api.V{X: 1})
		}
		for _, n := range []int{32769, -32769, 65536, 1 << 40, most, least} {
			d := api.V{X: 1, Y: 1, Z: 1}
			*part(&d, k) = n
			tooLarge(t, x, api.V{}, d)
			// It comes to no box either, but that is not asked ahead.
			tooLarge(t, x, api.V{X: -9, Y: -9, Z: -9}, d)
		}
		for _, n := range []int{65536, -65536} {
			o := api.V{X: 2, Y: 2, Z: 2}
			*part(&o, k) = n
			var d api.V
			*part(&d, k) = n / -2
			if l, e := Touched(x, o, d); e != api.OK || !slices.Contains(l, 0) {
				t.Error(o, d, l, e)
			}
		}
	}
	tooLarge(t, x, api.V{}, api.V{})
	tooLarge(t, x, api.V{X: 1 << 20}, api.V{})
	tooLarge(t, built(t, []api.Box{spot(1, 2, 3)}, 1), api.V{}, api.V{})
}

func TestAsItWas(t *testing.T) { // P16.3: what is handed in stays as it was, what lies behind it too, and isn't kept
	memory := append(three(), box(1, 2, 3, 4, 5, 6), box(-99, 0, 0, 7, 7, 7))
	was := slices.Clone(memory)
	x := built(t, memory[:3], 1)
	if !slices.Equal(memory, was) {
		t.Error("Build", memory)
	}
	tree := api.Tree{Nodes: slices.Clone(x.Nodes), Items: slices.Clone(x.Items)}
	for i := range memory {
		memory[i] = api.Box{}
	}
	touched(t, x, api.V{X: -1, Y: 1, Z: 1}, api.V{X: 1}, 0, 2, 1)
	tooLarge(t, x, api.V{}, api.V{})
	if !slices.Equal(x.Nodes, tree.Nodes) || !slices.Equal(x.Items, tree.Items) {
		t.Error("Touched", x)
	}
}

func TestNew(t *testing.T) { // P16.3: what is answered is no one else's, its spare room neither
	boxes := three()
	x, y := built(t, boxes, 1), built(t, boxes, 1)
	nodes, items := slices.Clone(x.Nodes), slices.Clone(x.Items)
	for _, ray := range []api.V{{X: -1, Y: 1, Z: 1}, {X: 5, Y: 1, Z: 1}, {X: 11, Y: 0, Z: 1}} {
		l, _ := Touched(x, ray, api.V{X: 1})
		again, _ := Touched(x, ray, api.V{X: 1})
		kept := slices.Clone(again)
		l = l[:cap(l)]
		for i := range l {
			l[i] = 77
		}
		if !slices.Equal(again, kept) || !slices.Equal(x.Items[:cap(x.Items)][:3], items) {
			t.Error("Touched", again, x)
		}
	}
	y.Nodes, y.Items = y.Nodes[:cap(y.Nodes)], y.Items[:cap(y.Items)]
	for i := range y.Nodes {
		y.Nodes[i] = api.Node{Left: 77}
	}
	for i := range y.Items {
		y.Items[i] = 77
	}
	if !slices.Equal(x.Nodes, nodes) || !slices.Equal(x.Items, items) || !slices.Equal(boxes, three()) {
		t.Error("Build", x, boxes)
	}
}
