package cache

import (
	"slices"
	"testing"

	"relievo/api"
)

// dice: numbers that look like any, the same at each run.
type dice uint64

// below: a number from 0 on, below a bound.
func (r *dice) below(bound int) int {
	*r = *r*6364136223846793005 + 1442695040888963407
	return int(uint64(*r)>>33) % bound
}

// list: so many numbers, from one on, below another.
func (r *dice) list(n, from, below int) []int {
	var out []int
	for range n {
		out = append(out, from+r.below(below-from))
	}
	return out
}

// told is a cache as the chapter tells it: the numbers that are kept, in the order in
// which they came, and of each number when it was asked last.
type told struct {
	room  int
	picks []int
	sizes map[int]int
	kept  []int
	asked map[int]int
	clock int
	tally api.Tally
}

// held: how many triangles are kept.
func (x *told) held() int {
	sum := 0
	for _, i := range x.kept {
		sum += x.sizes[i]
	}
	return sum
}

// drop: keeps one no more.
func (x *told) drop() {
	at := 0
	if len(x.picks) > 0 {
		at = x.picks[0] % len(x.kept)
		if at < 0 {
			at += len(x.kept)
		}
		x.picks = x.picks[1:]
	} else {
		for k, i := range x.kept {
			if x.asked[i] < x.asked[x.kept[at]] {
				at = k
			}
		}
	}
	x.kept = slices.Concat(x.kept[:at], x.kept[at+1:])
	x.tally.Drops++
}

// get: what becomes of it when a number is asked.
func (x *told) get(i int) {
	x.clock++
	size, ok := x.sizes[i]
	switch {
	case !ok:
		return
	case slices.Contains(x.kept, i):
		x.asked[i] = x.clock
		return
	}
	x.tally.Builds++
	if size > x.room {
		x.tally.Passed++
		return
	}
	for x.held()+size > x.room {
		x.drop()
	}
	x.kept = append(x.kept, i)
	x.asked[i] = x.clock
	x.tally.Most = max(x.tally.Most, x.held())
}

// run: asks a cache for numbers, and holds it at each step against what the chapter tells.
func run(t testing.TB, room int, picks []int, m *mill, numbers []int) api.Tally {
	t.Helper()
	was := slices.Clone(picks)
	c := New(room, picks, m)
	x := told{room: max(room, 0), picks: was, sizes: m.sizes, asked: map[int]int{}}
	for k, i := range numbers {
		get(t, c, m, i)
		x.get(i)
		if !slices.Equal(c.Kept(), x.kept) || c.Held() != x.held() || c.Tally() != x.tally {
			t.Fatal("room", room, "picks", was, "sizes", m.sizes, "asked", numbers[:k+1],
				"kept", c.Kept(), c.Held(), c.Tally(), "not", x.kept, x.held(), x.tally)
		}
		if c.Held() > x.room || x.tally.Most > x.room {
			t.Fatal("more than the room", room, c.Held(), x.tally)
		}
	}
	if !slices.Equal(picks, was) {
		t.Fatal("picks", picks, "not", was)
	}
	return c.Tally()
}

func TestRuns(t *testing.T) { // P17.1 to P17.3: many caches, rows of picks, and rows of numbers
	r := dice(1)
	var all api.Tally
	for range 1500 {
		sizes := r.list(1+r.below(20), 0, 1+[]int{1, 2, 6, 40}[r.below(4)])
		m := row(sizes...)
		for range r.below(3) {
			delete(m.sizes, r.below(len(sizes))) // an error
		}
		room := r.below(120) - 4
		picks := r.list(r.below(2)*r.below(60), -30, 30)
		got := run(t, room, picks, m, r.list(150, -1, len(sizes)+1))
		all.Builds += got.Builds
		all.Drops += got.Drops
		all.Passed += got.Passed
	}
	if all.Drops < 10000 || all.Passed < 5000 || all.Builds < 30000 {
		t.Error("too little happens", all)
	}
}

func TestRooms(t *testing.T) { // P17.1, P17.2: each room, from one for nothing to one for all
	r := dice(2)
	sizes := []int{3, 1, 4, 0, 5, 9, 2, 6}
	numbers := r.list(400, 0, len(sizes))
	for room := -2; room < 34; room++ {
		for _, picks := range [][]int{nil, r.list(20, -9, 9), r.list(500, least/2, most/2)} {
			got := run(t, room, picks, row(sizes...), numbers)
			if room >= 30 && got.Builds != len(sizes) || room < 0 && got.Most > 0 {
				t.Error(room, got)
			}
		}
	}
}

// grains makes meshes of one triangle.
type grains struct{}

func (grains) Make(i int) (api.Mesh, api.Tree, api.Errno) {
	return api.Mesh{Tris: [][3]int{{i, i, i}}}, api.Tree{}, api.OK
}

func TestMany(t *testing.T) { // P1, P17.1, P17.2: as many as no scene has, most of them in turns
	const n = 100000
	r := dice(3)
	picks := r.list(n/10, -n, n)
	c := New(n/2, picks, grains{})
	for k := range 4 * n {
		if m, _, e := c.Get(k % n); e != api.OK || m.Tris[0][1] != k%n {
			t.Fatal(k, m, e)
		}
		if _, _, e := c.Get(k % n); e != api.OK {
			t.Fatal(k, e)
		}
	}
	x := c.Tally()
	if len(c.Kept()) != n/2 || c.Held() != n/2 || x.Most != n/2 || x.Builds-x.Drops != n/2 || x.Passed != 0 || x.Builds > 4*n {
		t.Error(x, len(c.Kept()), c.Held())
	}
	if got := c.Kept(); got[len(got)-1] != n-1 || got[0] != n/2 {
		t.Error(got[0], got[len(got)-1])
	}
}

func FuzzAny(f *testing.F) { // P1, P17.1 to P17.3: it answers at all numbers
	f.Add(10, []byte{4, 255, 0}, []byte{4, 4, 4, 11, 10, 0}, []byte{0, 1, 0, 2, 3, 0, 1, 2, 5, 9, 4})
	f.Add(0, []byte{}, []byte{0, 1, 0}, []byte{0, 1, 2, 1, 0, 3})
	f.Add(least, []byte{1}, []byte{0}, []byte{0, 0, 0})
	f.Add(most, []byte{128}, []byte{200, 100}, []byte{0, 1, 1, 0})
	f.Fuzz(func(t *testing.T, room int, bytes, sizes, asked []byte) {
		m := row()
		for i, size := range sizes[:min(len(sizes), 60)] {
			if size < 250 {
				m.sizes[i] = int(size)
			}
		}
		var picks, numbers []int
		for k, b := range bytes {
			picks = append(picks, int(int8(b))<<(k%3*28))
		}
		for _, b := range asked[:min(len(asked), 300)] {
			numbers = append(numbers, int(b)%64)
		}
		run(t, room, picks, m, numbers)
	})
}
