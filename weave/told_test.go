package weave

import (
	"slices"
	"testing"

	"relievo/api"
)

// whole: how long the square's sides are, so that a part of each number of them is a whole number.
const whole = 720720

// place is where a spot lies in the square: the side 0 goes along x, the side 1 from there along y.
type place struct{ x, y int }

// turned: a place by the side k, told as if that were the side 0.
func turned(k int, p place) place {
	for range k {
		p = place{whole - p.y, p.x}
	}
	return p
}

// laid: the spots by the chapter's words, and where they lie.
func laid(rates [4]int) (spots []api.Spot, places []place) {
	add := func(kind, a, b int, p place) {
		spots = append(spots, api.Spot{Kind: kind, A: a, B: b})
		places = append(places, p)
	}
	for k := range 4 {
		add(1, k, 0, turned(k, place{}))
	}
	for k, r := range rates {
		for i := 1; i <= r-1; i++ {
			add(2, k, i, turned(k, place{x: whole / r * i}))
		}
	}
	r := slices.Max(rates[:])
	for b := 1; b <= r-1; b++ {
		for a := 1; a <= r-1; a++ {
			add(3, a, b, place{whole / r * a, whole / r * b})
		}
	}
	return spots, places
}

// step is one of a strip, from a spot of one of its two rows to the next: the place of its midst (twice), and in which row.
type step struct {
	midst int
	inner bool
}

// steps: what the chapter's rule for a strip comes to: the steps of both rows by their midsts, of two alike the side's own first.
func steps(most, parts int) []step {
	var list []step
	for i := range parts {
		list = append(list, step{whole / parts * (2*i + 1), false})
	}
	for t := 1; t < most-1; t++ {
		list = append(list, step{whole / most * (2*t + 1), true})
	}
	slices.SortStableFunc(list, func(p, q step) int { return p.midst - q.midst })
	return list
}

// joined: the triangles by the chapter's words, as places.
func joined(rates [4]int) (tris [][3]place) {
	most := slices.Max(rates[:])
	far := whole / most
	if most == 1 {
		return [][3]place{{{}, {far, 0}, {far, far}}, {{}, {far, far}, {0, far}}}
	}
	for b := 1; b <= most-2; b++ {
		for a := 1; a <= most-2; a++ {
			p, q, r, s := place{a * far, b * far}, place{(a + 1) * far, b * far}, place{(a + 1) * far, (b + 1) * far}, place{a * far, (b + 1) * far}
			tris = append(tris, [3]place{p, q, r}, [3]place{p, r, s})
		}
	}
	for k, parts := range rates {
		own := func(i int) place { return turned(k, place{x: whole / parts * i}) }
		inner := func(t int) place { return turned(k, place{t * far, far}) }
		i, t := 0, 1
		for _, s := range steps(most, parts) {
			if s.inner {
				tris = append(tris, [3]place{own(i), inner(t + 1), inner(t)})
				t++
			} else {
				tris = append(tris, [3]place{own(i), own(i + 1), inner(t)})
				i++
			}
		}
	}
	return tris
}

// all: all rates there are, one after another.
func all(yield func([4]int) bool) {
	for code := range 1 << 16 {
		if !yield([4]int{code>>12 + 1, code>>8&15 + 1, code>>4&15 + 1, code&15 + 1}) {
			return
		}
	}
}

// hold: does Weave answer what the chapter tells?
func hold(t *testing.T, rates [4]int) {
	t.Helper()
	spots, tris := woven(t, rates)
	want, places := laid(rates)
	if !slices.Equal(spots, want) {
		t.Fatal(rates, "spots", spots, "not", want)
	}
	shapes := joined(rates)
	if len(tris) != len(shapes) {
		t.Fatal(rates, len(tris), "triangles, not", len(shapes))
	}
	for n, tri := range tris {
		if got := [3]place{places[tri[0]], places[tri[1]], places[tri[2]]}; got != shapes[n] {
			t.Fatal(rates, "triangle", n, got, "not", shapes[n])
		}
	}
}

func TestAllTold(t *testing.T) { // P13.1: all rates, against the chapter's words
	t.Parallel()
	for rates := range all {
		hold(t, rates)
	}
}

// ways: in which of all cases each way from a spot to another one was last gone along.
type ways [17 * 17][17 * 17]int32

// cloth is what is woven, ahead of being looked at: its ways of this case.
type cloth struct {
	gone *ways
	now  int32
}

// along: goes along a way; false, if that has been gone along.
func (c cloth) along(from, to int) bool {
	first := c.gone[from][to] != c.now
	c.gone[from][to] = c.now
	return first
}

// has: has a way been gone along?
func (c cloth) has(from, to int) bool { return c.gone[from][to] == c.now }

// chain: the spots of a side by their numbers, both corners with them.
func chain(rates [4]int, k int) []int {
	next := 4
	for _, r := range rates[:k] {
		next += r - 1
	}
	list := []int{k}
	for range rates[k] - 1 {
		list = append(list, next)
		next++
	}
	return append(list, (k+1)%4)
}

// whether: are all edges gone along once each way, but the sides' parts, and all spots used?
func (c cloth) whether(rates [4]int, spots int, tris [][3]int) bool {
	used := make([]bool, spots)
	for _, tri := range tris {
		for i, from := range tri {
			used[from] = true
			if !c.along(from, tri[(i+1)%3]) {
				return false
			}
		}
	}
	parts := 0
	for k := range 4 {
		list := chain(rates, k)
		for i, to := range list[1:] {
			if !c.has(list[i], to) || c.has(to, list[i]) {
				return false
			}
			parts++
		}
	}
	for _, tri := range tris {
		for i, from := range tri {
			if !c.has(tri[(i+1)%3], from) {
				parts--
			}
		}
	}
	return parts == 0 && !slices.Contains(used, false)
}

// area: twice a triangle's area, above 0 where it goes round as the square does.
func area(p, q, r place) int {
	return (q.x-p.x)*(r.y-p.y) - (q.y-p.y)*(r.x-p.x)
}

// flat: do all triangles go round as the square does, and have its area together?
func flat(places []place, tris [][3]int) bool {
	sum := 0
	for _, tri := range tris {
		one := area(places[tri[0]], places[tri[1]], places[tri[2]])
		if one <= 0 {
			return false
		}
		sum += one
	}
	return sum == 2*whole*whole
}

func TestAllEdges(t *testing.T) { // P13.2, P3: all rates
	t.Parallel()
	c := cloth{gone: new(ways)}
	for rates := range all {
		c.now++
		spots, tris := woven(t, rates)
		if !c.whether(rates, len(spots), tris) {
			t.Fatal(rates, tris)
		}
		if _, places := laid(rates); !flat(places, tris) {
			t.Fatal(rates, tris, "don't cover the square once")
		}
	}
}

func TestEdgesTell(t *testing.T) { // what is looked for above would be found
	rates := [4]int{3, 1, 3, 2}
	spots, tris := woven(t, rates)
	c := cloth{gone: new(ways)}
	tell := func(spots int, tris [][3]int) bool {
		c.now++
		return c.whether(rates, spots, tris)
	}
	if !tell(len(spots), tris) || tell(len(spots)+1, tris) {
		t.Error("a spot without a triangle")
	}
	for n, tri := range tris {
		turned, doubled := slices.Clone(tris), append(slices.Clone(tris), tri)
		slices.Reverse(turned[n][:])
		if tell(len(spots), turned) || tell(len(spots), doubled) || tell(len(spots), slices.Delete(slices.Clone(tris), n, n+1)) {
			t.Error("a triangle turned, twice or gone", n)
		}
	}
}

func FuzzAny(f *testing.F) { // P1, P13.1, P13.3: it answers at all numbers
	f.Add(1, 1, 1, 1)
	f.Add(16, 2, 7, 16)
	f.Add(0, 1, 1, 1)
	f.Add(1, 17, 1, 1)
	f.Add(3, 5, most, least)
	f.Fuzz(func(t *testing.T, p, q, r, s int) {
		rates := [4]int{p, q, r, s}
		if slices.Min(rates[:]) < 1 || slices.Max(rates[:]) > 16 {
			none(t, rates)
			return
		}
		hold(t, rates)
	})
}
