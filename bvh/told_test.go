package bvh

import (
	"math/big"
	"slices"
	"testing"

	"relievo/api"
)

// dice: numbers that look like any, the same at each run.
type dice uint64

// below: a number from 0 on, below a bound.
func (r *dice) below(bound int) int {
	*r = *r*6364136223846793005 + 1442695040888963407
	return int(uint64(*r)>>33) % bound
}

// point: one within a bound, now and then with a part at its ends.
func (r *dice) point(bound int) api.V {
	part := func() int {
		if r.below(9) == 0 {
			return bound * (1 - 2*r.below(2))
		}
		return r.below(2*bound+1) - bound
	}
	return api.V{X: part(), Y: part(), Z: part()}
}

// across: the box of two points, part by part.
func across(a, b api.V) api.Box {
	return box(min(a.X, b.X), min(a.Y, b.Y), min(a.Z, b.Z), max(a.X, b.X), max(a.Y, b.Y), max(a.Z, b.Z))
}

// boxes: so many boxes of one kind or of all kinds: of one point, small and large
// ones, ones without points, and ones that were there ahead.
func (r *dice) boxes(n int) []api.Box {
	bound := []int{2, 9, 500, 65536, 131072}[r.below(5)]
	kind := r.below(8)
	var list []api.Box
	for range n {
		a := r.point(bound)
		b := a
		switch k := r.below(6); {
		case kind == 0 || kind > 1 && k < 3:
			near := r.point(min(bound, 3))
			b = api.V{X: min(a.X+near.X, bound), Y: min(a.Y+near.Y, bound), Z: min(a.Z+near.Z, bound)}
			b = api.V{X: max(b.X, -bound), Y: max(b.Y, -bound), Z: max(b.Z, -bound)}
		case kind != 1 && k == 3:
			b = r.point(bound)
		case kind == 7 && k == 4:
			list = append(list, api.Box{Lo: a, Hi: r.point(bound)})
			continue
		case kind > 4 && k == 5 && len(list) > 0:
			list = append(list, list[r.below(len(list))])
			continue
		}
		list = append(list, across(a, b))
	}
	return list
}

// part: a part of a point, by its place.
func part(v api.V, k int) int { return [3]int{v.X, v.Y, v.Z}[k] }

// sides: of a part, the least Lo and the greatest Hi of items.
func sides(boxes []api.Box, items []int, k int) (int, int) {
	var lo, hi []int
	for _, i := range items {
		lo, hi = append(lo, part(boxes[i].Lo, k)), append(hi, part(boxes[i].Hi, k))
	}
	return slices.Min(lo), slices.Max(hi)
}

// line: items in the order in which they are halved: each stands behind all that
// are less by the part, or the same and less by their number.
func line(boxes []api.Box, items []int) []int {
	together := func(i, k int) int { return part(boxes[i].Lo, k) + part(boxes[i].Hi, k) }
	by, apart := 0, -1
	for k := range 3 {
		for _, i := range items {
			for _, j := range items {
				if size := together(i, k) - together(j, k); size > apart {
					by, apart = k, size
				}
			}
		}
	}
	out := make([]int, len(items))
	for _, i := range items {
		ahead := 0
		for _, j := range items {
			a, b := together(j, by), together(i, by)
			if a < b || a == b && j < i {
				ahead++
			}
		}
		out[ahead] = i
	}
	return out
}

// lay: adds to a tree what the chapter tells of a node over items.
func lay(x *api.Tree, boxes []api.Box, items []int, leaf int) int {
	at := len(x.Nodes)
	var b api.Box
	b.Lo.X, b.Hi.X = sides(boxes, items, 0)
	b.Lo.Y, b.Hi.Y = sides(boxes, items, 1)
	b.Lo.Z, b.Hi.Z = sides(boxes, items, 2)
	x.Nodes = append(x.Nodes, api.Node{Box: b})
	if len(items) <= leaf {
		x.Nodes[at].First, x.Nodes[at].Count = len(x.Items), len(items)
		x.Items = append(x.Items, items...)
		return at
	}
	sorted := line(boxes, items)
	half := len(items)/2 + len(items)%2
	left := lay(x, boxes, sorted[:half], leaf)
	right := lay(x, boxes, sorted[half:], leaf)
	x.Nodes[at].Left, x.Nodes[at].Right = left, right
	return at
}

// told: the tree that the chapter tells, or the error.
func told(boxes []api.Box, leaf int) (api.Tree, api.Errno) {
	if leaf < 1 {
		return api.Tree{}, api.ErrPlace
	}
	var items []int
	for i, b := range boxes {
		for k := range 3 {
			for _, n := range []int{part(b.Lo, k), part(b.Hi, k)} {
				if n > 131072 || n < -131072 {
					return api.Tree{}, api.ErrLarge
				}
			}
		}
		items = append(items, i)
	}
	var x api.Tree
	if len(items) > 0 {
		lay(&x, boxes, items, leaf)
	}
	return x, api.OK
}

// in: is a ray in a box? It is told by fractions of any size: the greatest t at
// which it comes in, and the least one at which it leaves.
func in(o, d api.V, b api.Box) bool {
	first, last := new(big.Rat), (*big.Rat)(nil)
	for k := range 3 {
		from, step, lo, hi := part(o, k), part(d, k), part(b.Lo, k), part(b.Hi, k)
		if lo > hi || step == 0 && (from < lo || from > hi) {
			return false
		}
		if step == 0 {
			continue
		}
		come, leave := big.NewRat(int64(lo-from), int64(step)), big.NewRat(int64(hi-from), int64(step))
		if step < 0 {
			come, leave = leave, come
		}
		if come.Cmp(first) > 0 {
			first = come
		}
		if last == nil || leave.Cmp(last) < 0 {
			last = leave
		}
	}
	return last == nil || first.Cmp(last) <= 0
}

// reached: the items of all leaves below a node that the ray comes to.
func reached(x api.Tree, at int, o, d api.V) []int {
	n := x.Nodes[at]
	switch {
	case !in(o, d, n.Box):
		return nil
	case n.Count > 0:
		return x.Items[n.First : n.First+n.Count]
	}
	return slices.Concat(reached(x, n.Left, o, d), reached(x, n.Right, o, d))
}

// fits: is a ray within its bounds?
func fits(o, d api.V) bool {
	for k := range 3 {
		if p := part(o, k); p > 65536 || p < -65536 {
			return false
		}
		if p := part(d, k); p > 32768 || p < -32768 {
			return false
		}
	}
	return d != api.V{}
}

// held: the tree over boxes, held against what the chapter tells; false without one.
func held(t testing.TB, boxes []api.Box, leaf int) (api.Tree, bool) {
	t.Helper()
	was := slices.Clone(boxes)
	x, e := Build(boxes, leaf)
	want, errno := told(was, leaf)
	if e != errno || !slices.Equal(x.Nodes, want.Nodes) || !slices.Equal(x.Items, want.Items) {
		t.Fatal("Build", was, leaf, x, e, "not", want, errno)
	}
	if !slices.Equal(boxes, was) {
		t.Fatal("Build changes", was, boxes)
	}
	return x, e == api.OK
}

// met: what a ray comes to of a tree, held against what the chapter tells.
func met(t testing.TB, x api.Tree, boxes []api.Box, o, d api.V) []int {
	t.Helper()
	l, e := Touched(x, o, d)
	if len(x.Nodes) == 0 || !fits(o, d) {
		large := len(x.Nodes) > 0
		if len(l) > 0 || large && e != api.ErrLarge || !large && e != api.OK {
			t.Fatal("Touched", boxes, o, d, l, e)
		}
		return nil
	}
	if want := reached(x, 0, o, d); e != api.OK || !slices.Equal(l, want) {
		t.Fatal("Touched", boxes, o, d, l, e, "not", want)
	}
	for i, b := range boxes {
		if in(o, d, b) && !slices.Contains(l, i) {
			t.Fatal("not touched", i, boxes, o, d, l)
		}
	}
	return l
}

// once: is each item in one leaf, and are the leaves' items all there are, in order?
func once(t testing.TB, x api.Tree, boxes []api.Box, leaf int) {
	t.Helper()
	count := make([]int, len(boxes))
	next := 0
	for at, n := range x.Nodes {
		if n.Count == 0 {
			if n.First != 0 || n.Left != at+1 || n.Right <= n.Left || n.Right >= len(x.Nodes) {
				t.Fatal("node", at, x)
			}
			continue
		}
		if n.First != next || n.Count > leaf || n.Left != 0 || n.Right != 0 {
			t.Fatal("leaf", at, x)
		}
		next += n.Count
		for _, i := range x.Items[n.First:next] {
			count[i]++
		}
	}
	for i, n := range count {
		if n != 1 || next != len(x.Items) {
			t.Fatal("item", i, "in", n, "leaves", x)
		}
	}
}

// ray: one that begins anywhere, mostly toward a box or from a point of it on.
func (r *dice) ray(boxes []api.Box) (api.V, api.V) {
	o := r.point([]int{4, 20, 600, 65536}[r.below(4)])
	d := r.point([]int{1, 1, 3, 30, 32768}[r.below(5)])
	if len(boxes) > 0 && r.below(4) > 0 {
		to := boxes[r.below(len(boxes))].Lo
		by := 1 << r.below(3)
		d = api.V{X: (to.X - o.X) / by, Y: (to.Y - o.Y) / by, Z: (to.Z - o.Z) / by}
		for d.X < -32768 || d.X > 32768 || d.Y < -32768 || d.Y > 32768 || d.Z < -32768 || d.Z > 32768 {
			d = api.V{X: d.X / 2, Y: d.Y / 2, Z: d.Z / 2}
		}
	}
	return o, d
}

func TestTrees(t *testing.T) { // P16.1 to P16.3: many trees, and many rays through each
	r := dice(1)
	some, none := 0, 0
	for range 800 {
		boxes := r.boxes(r.below(40))
		leaf := 1 + r.below(1+r.below(12))
		x, _ := held(t, boxes, leaf)
		once(t, x, boxes, leaf)
		for range 25 {
			o, d := r.ray(boxes)
			if len(met(t, x, boxes, o, d)) > 0 {
				some++
			} else {
				none++
			}
		}
	}
	if some < 2000 || none < 2000 {
		t.Error("rays that come to some", some, "and to none", none)
	}
}

func TestSizes(t *testing.T) { // P16.1, P16.3: each number of boxes, with leaves of each size
	r := dice(2)
	for n := range 34 {
		boxes := r.boxes(n)
		for leaf := -1; leaf <= n+2; leaf++ {
			if x, ok := held(t, boxes, leaf); ok {
				once(t, x, boxes, leaf)
			}
		}
	}
}

func TestMany(t *testing.T) { // P1, P16.1, P16.3: as many boxes as no scene has, all alike or each elsewhere
	const n = 100000
	r := dice(3)
	boxes := make([]api.Box, n)
	x := built(t, boxes, 1)
	once(t, x, boxes, 1)
	if len(x.Nodes) != 2*n-1 || !slices.IsSorted(x.Items) {
		t.Error(len(x.Nodes))
	}
	if l, e := Touched(x, api.V{}, api.V{Z: 1}); e != api.OK || !slices.Equal(l, x.Items) {
		t.Error(len(l), e)
	}
	for i := range boxes {
		boxes[i] = spot(r.below(1000), r.below(1000), r.below(1000))
	}
	x = built(t, boxes, 8)
	once(t, x, boxes, 8)
	l, e := Touched(x, api.V{X: 1, Y: 2, Z: -3}, api.V{X: 5, Y: 4, Z: 7})
	if e != api.OK || len(l) > n/10 {
		t.Error(len(l), e)
	}
}

func FuzzAny(f *testing.F) { // P1, P16.1 to P16.3: it answers at all numbers
	f.Add([]byte{0, 3, 6, 9, 1, 255, 128, 127, 4, 5, 6, 7, 8}, 7, 2, 0, 0, -99, 0, 0, 1)
	f.Add([]byte{1, 2, 3, 4, 5, 6, 6, 5, 4, 3, 2, 1}, 1024, 1, 5, 5, 5, 32768, -32768, 3)
	f.Add([]byte{1, 2, 3, 4, 5, 6}, 40000, 1, 0, 0, 0, 1, 1, 1)
	f.Add([]byte{9, 9, 9, 9, 9, 9}, 1, 0, most, least, 0, 0, 0, 0)
	f.Add([]byte{9, 9, 9, 9, 9, 9}, 1, most, 65537, 0, 0, 0, 32769, 0)
	f.Add([]byte{}, 0, 1, 0, 0, 0, 0, 0, 0)
	f.Fuzz(func(t *testing.T, bytes []byte, scale, leaf, ox, oy, oz, dx, dy, dz int) {
		var boxes []api.Box
		for ; len(bytes) >= 6 && len(boxes) < 60; bytes = bytes[6:] {
			var b api.Box
			for k, p := range corners(&b) {
				*p = int(int8(bytes[k])) * scale
			}
			boxes = append(boxes, b)
		}
		x, ok := held(t, boxes, leaf)
		if !ok {
			return
		}
		once(t, x, boxes, leaf)
		met(t, x, boxes, api.V{X: ox, Y: oy, Z: oz}, api.V{X: dx, Y: dy, Z: dz})
	})
}
