package cache

import (
	"math"
	"slices"
	"testing"

	"relievo/api"
	"relievo/bvh"
	"relievo/mesh"
	"relievo/vec"
)

const most, least = math.MaxInt64, math.MinInt64

// mill makes meshes of as many triangles as it tells of their numbers, and an error
// for all others; it writes down what it was asked.
type mill struct {
	sizes map[int]int
	asked []int
}

func (m *mill) Make(i int) (api.Mesh, api.Tree, api.Errno) {
	m.asked = append(m.asked, i)
	size, ok := m.sizes[i]
	if !ok {
		// Beside an error it has something to answer that isn't to be answered.
		x, tree := shape(i, 3)
		return x, tree, api.ErrLost
	}
	x, tree := shape(i, size)
	return x, tree, api.OK
}

// row: a mill whose meshes from 0 on have so many triangles.
func row(sizes ...int) *mill {
	m := mill{sizes: map[int]int{}}
	for i, size := range sizes {
		m.sizes[i] = size
	}
	return &m
}

// shape: the mesh and the tree of a number, with so many triangles.
func shape(i, size int) (api.Mesh, api.Tree) {
	m := api.Mesh{Verts: []api.V{{X: i}, {Y: size}}, Keys: []api.Key{{Kind: api.KInner, Of: i}, {A: size}}}
	t := api.Tree{Nodes: []api.Node{{Box: api.Box{Hi: api.V{Z: i}}, Count: size}}}
	for k := range size {
		m.Tris = append(m.Tris, [3]int{i, k, size})
		t.Items = append(t.Items, k+i)
	}
	return m, t
}

// same: are two meshes with their trees alike?
func same(m, n api.Mesh, t, u api.Tree) bool {
	return slices.Equal(m.Verts, n.Verts) && slices.Equal(m.Keys, n.Keys) && slices.Equal(m.Tris, n.Tris) &&
		slices.Equal(t.Nodes, u.Nodes) && slices.Equal(t.Items, u.Items)
}

// none: are a mesh and its tree zero values?
func none(m api.Mesh, t api.Tree) bool {
	return m.Verts == nil && m.Keys == nil && m.Tris == nil && t.Nodes == nil && t.Items == nil
}

// get: gets numbers, each of them as the mill makes it.
func get(t testing.TB, c *Cache, m *mill, numbers ...int) {
	t.Helper()
	for _, i := range numbers {
		x, tree, e := c.Get(i)
		size, ok := m.sizes[i]
		want, wood := shape(i, size)
		if ok && (e != api.OK || !same(x, want, tree, wood)) || !ok && (e != api.ErrLost || !none(x, tree)) {
			t.Fatal("Get", i, x, tree, e)
		}
	}
}

// holds: does it keep just these, in this order, with so many triangles?
func holds(t testing.TB, c *Cache, held int, numbers ...int) {
	t.Helper()
	if got := c.Kept(); !slices.Equal(got, numbers) {
		t.Error("Kept", got, "not", numbers)
	}
	if got := c.Held(); got != held {
		t.Error("Held", got, "not", held)
	}
}

// tells: does it tell just this of what it has done?
func tells(t testing.TB, c *Cache, builds, drops, passed, greatest int) {
	t.Helper()
	if got, want := c.Tally(), (api.Tally{Builds: builds, Drops: drops, Passed: passed, Most: greatest}); got != want {
		t.Error("Tally", got, "not", want)
	}
}

func TestTurns(t *testing.T) { // P17.1, P17.2: the chapter's example
	m := row(5, 5)
	c := New(5, nil, m)
	for i := range 10 {
		get(t, c, m, i%2)
		holds(t, c, 5, i%2)
		tells(t, c, i+1, i, 0, 5)
	}
	if !slices.Equal(m.asked, []int{0, 1, 0, 1, 0, 1, 0, 1, 0, 1}) {
		t.Error(m.asked)
	}
}

func TestNew(t *testing.T) { // P17.1: a cache with nothing, that nothing was made for
	for _, room := range []int{0, 1, 100, most, -1, least} {
		for _, picks := range [][]int{nil, {}, {0, 1, -1, most, least}} {
			m := row(1)
			c := New(room, picks, m)
			holds(t, c, 0)
			tells(t, c, 0, 0, 0, 0)
			if len(m.asked) > 0 {
				t.Error(room, m.asked)
			}
		}
	}
}

func TestNoRoom(t *testing.T) { // P17.1, P17.2: a room below 0 is 0, and a mesh without triangles needs none
	for _, room := range []int{0, -1, -2, -1 << 40, least, least + 1} {
		m := row(1, 0, 7, 0)
		c := New(room, []int{0, 0}, m)
		get(t, c, m, 0, 1, 2, 0, 1, 3, 2, 3)
		holds(t, c, 0, 1, 3)
		tells(t, c, 6, 0, 4, 0)
		if !slices.Equal(m.asked, []int{0, 1, 2, 0, 3, 2}) {
			t.Error(room, m.asked)
		}
	}
}

func TestRoom(t *testing.T) { // P17.1, P17.2: as many as the room has are kept, one more isn't
	m := row(10, 11, 4, 6, 0, 1)
	c := New(10, nil, m)
	get(t, c, m, 0)
	holds(t, c, 10, 0)
	get(t, c, m, 1)
	holds(t, c, 10, 0)
	tells(t, c, 2, 0, 1, 10)
	get(t, c, m, 2, 3)
	holds(t, c, 10, 2, 3)
	tells(t, c, 4, 1, 1, 10)
	get(t, c, m, 4)
	holds(t, c, 10, 2, 3, 4)
	get(t, c, m, 5)
	holds(t, c, 7, 3, 4, 5)
	tells(t, c, 6, 2, 1, 10)
	for _, room := range []int{most, most - 1} {
		c = New(room, nil, m)
		get(t, c, m, 0, 1, 2, 3, 4, 5, 0)
		holds(t, c, 32, 0, 1, 2, 3, 4, 5)
		tells(t, c, 6, 0, 0, 32)
	}
}

func TestCame(t *testing.T) { // P17.1: in the order in which they came, whatever is asked of them
	m := row(2, 2, 2, 2)
	c := New(8, nil, m)
	get(t, c, m, 3, 1, 0, 2)
	holds(t, c, 8, 3, 1, 0, 2)
	get(t, c, m, 1, 3, 2, 0, 3, 3)
	holds(t, c, 8, 3, 1, 0, 2)
	tells(t, c, 4, 0, 0, 8)
	if !slices.Equal(m.asked, []int{3, 1, 0, 2}) {
		t.Error("made", m.asked)
	}
}

func TestNumbers(t *testing.T) { // P1, P17.1: all numbers are numbers
	m := &mill{sizes: map[int]int{-1: 1, 0: 2, most: 3, least: 4, 1 << 32: 5}}
	c := New(15, nil, m)
	get(t, c, m, least, -1, most, 1<<32, 0, -1, least)
	holds(t, c, 15, least, -1, most, 1<<32, 0)
	get(t, c, m, 1, -2, least+1, most-1)
	holds(t, c, 15, least, -1, most, 1<<32, 0)
	tells(t, c, 5, 0, 0, 15)
}

func TestPicks(t *testing.T) { // P17.1: which place a pick tells, of four
	for _, x := range []struct{ pick, place int }{
		{0, 0}, {1, 1}, {2, 2}, {3, 3}, {4, 0}, {5, 1}, {7, 3}, {8, 0}, {1 << 40, 0}, {most, 3}, {most - 1, 2},
		{-1, 3}, {-2, 2}, {-3, 1}, {-4, 0}, {-5, 3}, {-8, 0}, {least, 0}, {least + 1, 1}, {least + 3, 3},
	} {
		m := row(1, 1, 1, 1, 1)
		c := New(4, []int{x.pick}, m)
		// The order in which they were asked is another one than that in which they came.
		get(t, c, m, 0, 1, 2, 3, 2, 0, 3, 1, 4)
		holds(t, c, 4, slices.Delete([]int{0, 1, 2, 3, 4}, x.place, x.place+1)...)
		tells(t, c, 5, 1, 0, 4)
	}
}

func TestPicksInTurn(t *testing.T) { // P17.1: each drop takes a pick, modulo how many are kept then; nothing else takes one
	m := row(3, 3, 3, 3, 8, 13, 1)
	c := New(12, []int{2, -2, 5, 1}, m)
	get(t, c, m, 0, 1, 2, 3)
	holds(t, c, 12, 0, 1, 2, 3)
	get(t, c, m, 4) // 2 of four, -2 of three, and 5 of two are 2, 1 and 1
	holds(t, c, 11, 0, 4)
	tells(t, c, 5, 3, 0, 12)
	get(t, c, m, 0, 5, 7, 4, 6) // one that is kept, one that passes, an error: no pick is taken
	holds(t, c, 12, 0, 4, 6)
	tells(t, c, 7, 3, 1, 12)
	get(t, c, m, 3) // 1 of three
	holds(t, c, 7, 0, 6, 3)
	tells(t, c, 8, 4, 1, 12)
	get(t, c, m, 4) // no pick is left: 0 was asked longest ago
	holds(t, c, 12, 6, 3, 4)
	tells(t, c, 9, 5, 1, 12)
}

func TestLongestAgo(t *testing.T) { // P17.1: behind the last pick the one that was asked longest ago
	m := row(1, 1, 1, 1, 1, 1, 1, 4)
	c := New(4, nil, m)
	get(t, c, m, 0, 1, 2, 3, 0, 2)
	get(t, c, m, 4)
	holds(t, c, 4, 0, 2, 3, 4) // asked: 3, 0, 2, 4
	get(t, c, m, 5)
	holds(t, c, 4, 0, 2, 4, 5)
	get(t, c, m, 0, 6)
	holds(t, c, 4, 0, 4, 5, 6) // asked: 4, 5, 0, 6
	get(t, c, m, 4, 5, 6, 1)
	holds(t, c, 4, 4, 5, 6, 1)
	get(t, c, m, 4, 4, 4, 0) // asked: 6, 1, 4, 0
	holds(t, c, 4, 4, 6, 1, 0)
	get(t, c, m, 7)
	holds(t, c, 4, 7)
	get(t, c, m, 3)
	holds(t, c, 1, 3)
}

func TestAskedAmongPicks(t *testing.T) { // P17.1: what is asked while there are picks counts behind the last of them
	m := row(1, 1, 1, 1, 1, 1)
	c := New(3, []int{1}, m)
	get(t, c, m, 0, 1, 2, 0, 3)
	holds(t, c, 3, 0, 2, 3)
	get(t, c, m, 4) // 2, that came behind 0
	holds(t, c, 3, 0, 3, 4)
	get(t, c, m, 2) // it is back, and the last one; 0 goes
	holds(t, c, 3, 3, 4, 2)
	get(t, c, m, 0)
	holds(t, c, 3, 4, 2, 0)
}

func TestOneThatPasses(t *testing.T) { // P17.1, P17.2: it is made each time, and nothing else becomes of it
	m := row(2, 2, 5, 6, 2)
	c := New(4, []int{0}, m)
	get(t, c, m, 0, 1, 2, 3, 2)
	holds(t, c, 4, 0, 1)
	tells(t, c, 5, 0, 3, 4)
	get(t, c, m, 4)
	holds(t, c, 4, 1, 4)
	tells(t, c, 6, 1, 3, 4)
}

func TestWithoutTriangles(t *testing.T) { // P17.1, P17.2: meshes without triangles are dropped too, though that makes no room
	m := row(0, 0, 3, 4, 0)
	c := New(4, []int{0, -1}, m)
	get(t, c, m, 0, 1, 2, 4, 3) // of 0, 1, 2, 4: 0, then 4, then 1, that was asked longest ago, then 2
	holds(t, c, 4, 3)
	tells(t, c, 5, 4, 0, 4)
	get(t, c, m, 0, 1, 3, 2) // asked: 0, 1, 3, and 3 is in the way
	holds(t, c, 3, 2)
	tells(t, c, 8, 7, 0, 4)
}

func TestErrors(t *testing.T) { // P17.1: the Maker's error, and nothing is kept, dropped, counted, or taken
	m := row(2, 2, 2)
	c := New(4, []int{1}, m)
	get(t, c, m, 3, -1)
	holds(t, c, 0)
	tells(t, c, 0, 0, 0, 0)
	get(t, c, m, 0, 1)
	get(t, c, m, 3, least, most, 3)
	holds(t, c, 4, 0, 1)
	tells(t, c, 2, 0, 0, 4)
	get(t, c, m, 2)
	holds(t, c, 4, 0, 2)
	get(t, c, m, 5, 1)
	holds(t, c, 4, 2, 1)
	tells(t, c, 4, 2, 0, 4)
}

// faulty answers an error of the asked number, and beside it what it should not.
type faulty struct{}

func (faulty) Make(i int) (api.Mesh, api.Tree, api.Errno) {
	m, t := shape(i, 2)
	return m, t, api.Errno(i)
}

func TestAnyError(t *testing.T) { // P17.1: whatever error it is
	c := New(100, []int{1}, faulty{})
	for _, e := range []api.Errno{api.ErrSyntax, api.ErrRange, api.ErrName, api.ErrLimit, api.ErrForm, api.ErrLost, api.ErrPlace, api.ErrLarge, 1, -1, most, least} {
		if m, tree, got := c.Get(int(e)); got != e || !none(m, tree) {
			t.Error(int(e), m, tree, got)
		}
	}
	holds(t, c, 0)
	tells(t, c, 0, 0, 0, 0)
}

func TestMost(t *testing.T) { // P17.2: the greatest Held there ever was, not the last one
	m := row(3, 4, 9, 2, 10, 8)
	c := New(9, nil, m)
	get(t, c, m, 0)
	tells(t, c, 1, 0, 0, 3)
	get(t, c, m, 1)
	tells(t, c, 2, 0, 0, 7)
	get(t, c, m, 4)
	tells(t, c, 3, 0, 1, 7)
	get(t, c, m, 5)
	tells(t, c, 4, 2, 1, 8)
	get(t, c, m, 3)
	holds(t, c, 2, 3)
	tells(t, c, 5, 3, 1, 8)
	get(t, c, m, 2)
	tells(t, c, 6, 4, 1, 9)
	get(t, c, m, 0)
	tells(t, c, 7, 5, 1, 9)
}

func TestPicksAreCopied(t *testing.T) { // P17.3: they stay as they were, what lies behind them too, and aren't kept
	memory := []int{-1, 0, 7, 8, 9}
	m := row(1, 1, 1, 1, 1)
	c := New(3, memory[:2], m)
	memory[0], memory[1] = 0, 1
	get(t, c, m, 0, 1, 2, 3)
	holds(t, c, 3, 0, 1, 3)
	get(t, c, m, 4)
	holds(t, c, 3, 1, 3, 4)
	get(t, c, m, 3, 1, 0)
	holds(t, c, 3, 1, 3, 0)
	if !slices.Equal(memory, []int{0, 1, 7, 8, 9}) {
		t.Error(memory)
	}
}

// shelf answers the same memory each time, with spare room behind its lists.
type shelf struct {
	m api.Mesh
	t api.Tree
}

func (s *shelf) Make(int) (api.Mesh, api.Tree, api.Errno) { return s.m, s.t, api.OK }

// stocked: a shelf with a mesh of four triangles, each list with room for one more.
func stocked() *shelf {
	m, t := shape(5, 5)
	return &shelf{
		api.Mesh{Verts: m.Verts[:1], Keys: m.Keys[:1], Tris: m.Tris[:4]},
		api.Tree{Nodes: append(t.Nodes, t.Nodes...)[:1], Items: t.Items[:4]},
	}
}

// filled: writes over all that a list has, its spare room too.
func filled[T any](list []T, with T) {
	list = list[:cap(list)]
	for i := range list {
		list[i] = with
	}
}

// spoiled: writes over all that a mesh and its tree have.
func spoiled(m api.Mesh, t api.Tree) {
	filled(m.Verts, api.V{X: 77})
	filled(m.Keys, api.Key{Of: 77})
	filled(m.Tris, [3]int{77, 77, 77})
	filled(t.Nodes, api.Node{Left: 77})
	filled(t.Items, 77)
}

// whole: a shelf's lists with all that lies behind them.
func whole(s *shelf) (api.Mesh, api.Tree) {
	return api.Mesh{Verts: s.m.Verts[:2], Keys: s.m.Keys[:2], Tris: s.m.Tris[:5]}, api.Tree{Nodes: s.t.Nodes[:2], Items: s.t.Items[:5]}
}

func TestAnswersAreNew(t *testing.T) { // P17.3: no one who changes an answer changes another one, or what the Maker has
	for _, room := range []int{0, 3, 4, 5, 8} {
		s := stocked()
		c := New(room, nil, s)
		good, tree := stocked().m, stocked().t
		for i := range 20 {
			m, x, e := c.Get(i / 4 % 3)
			n, y, errno := c.Get(i / 4 % 3)
			if e != api.OK || errno != api.OK || !same(m, good, x, tree) || !same(n, good, y, tree) {
				t.Fatal(room, i, m, x, e, n, y, errno)
			}
			spoiled(m, x)
			if !same(n, good, y, tree) {
				t.Fatal(room, i, n, y)
			}
			spoiled(n, y)
		}
		m, x := whole(s)
		n, y := whole(stocked())
		if !same(m, n, x, y) {
			t.Error(room, s)
		}
	}
}

func TestMakerWritesAgain(t *testing.T) { // P17.3: what is kept isn't the Maker's memory
	s := stocked()
	c := New(9, nil, s)
	first, x, _ := c.Get(1)
	spoiled(s.m, s.t)
	for range 3 {
		m, y, e := c.Get(1)
		if good := stocked(); e != api.OK || !same(m, good.m, y, good.t) || !same(first, good.m, x, good.t) {
			t.Fatal(m, y, e, first, x)
		}
	}
	holds(t, c, 4, 1)
	tells(t, c, 1, 0, 0, 4)
}

func TestKeptIsNew(t *testing.T) { // P17.3: whoever changes what Kept answers changes nothing else
	m := row(1, 1, 1, 1)
	c := New(3, nil, m)
	get(t, c, m, 0, 1, 2)
	before := c.Kept()
	filled(c.Kept(), 77)
	holds(t, c, 3, 0, 1, 2)
	get(t, c, m, 3)
	if !slices.Equal(before, []int{0, 1, 2}) {
		t.Error("Kept changes", before)
	}
	holds(t, c, 3, 1, 2, 3)
	get(t, c, m, 1)
	if !slices.Equal(m.asked, []int{0, 1, 2, 3}) {
		t.Error("made", m.asked)
	}
}

func TestAlone(t *testing.T) { // P17.3: caches know nothing of each other
	m := row(2, 2, 2)
	picks := []int{0}
	a, b := New(4, picks, m), New(4, picks, m)
	get(t, a, m, 0, 1, 2)
	get(t, b, m, 1)
	holds(t, a, 4, 1, 2)
	holds(t, b, 2, 1)
	get(t, b, m, 2, 0)
	holds(t, b, 4, 2, 0)
	tells(t, a, 3, 1, 0, 4)
	tells(t, b, 3, 1, 0, 4)
}

// asker has to ask the cache itself before it can make some of its meshes.
type asker struct {
	mill
	c *Cache
}

func (a *asker) Make(i int) (api.Mesh, api.Tree, api.Errno) {
	if i > 0 {
		if _, _, e := a.c.Get(i - 1); e != api.OK {
			return api.Mesh{}, api.Tree{}, e
		}
	}
	return a.mill.Make(i)
}

func TestMakerAsks(t *testing.T) { // P1, P17.1: what the Maker asks on its way comes first
	a := &asker{mill: *row(1, 2, 3, 2)}
	a.c = New(5, nil, a)
	get(t, a.c, &a.mill, 1)
	holds(t, a.c, 3, 0, 1)
	get(t, a.c, &a.mill, 3)
	holds(t, a.c, 5, 2, 3)
	tells(t, a.c, 4, 2, 0, 5)
	if _, _, e := a.c.Get(5); e != api.ErrLost {
		t.Error(e)
	}
	holds(t, a.c, 5, 2, 3)
}

// waves makes curved squares, cut as finely as their numbers tell.
type waves struct{}

func (waves) Make(i int) (api.Mesh, api.Tree, api.Errno) {
	p := api.Patch{Corners: [4]int{0, 1, 2, 3}}
	for k := range p.P {
		p.P[k] = api.V{X: 100 * (k % 4), Y: 100 * (k / 4), Z: k * k % 7 * 30}
	}
	m, e := mesh.Dice(p, 0, i, api.Skin{Unit: i, Tex: -1}, nil)
	if e != api.OK {
		return api.Mesh{}, api.Tree{}, e
	}
	var boxes []api.Box
	for k := range m.Tris {
		tri, _ := mesh.Tri(m, k)
		b, _ := vec.Bound([]api.V{tri.A, tri.B, tri.C})
		boxes = append(boxes, b)
	}
	tree, e := bvh.Build(boxes, 2)
	return m, tree, e
}

func TestMeshes(t *testing.T) { // P17.1, P17.3: patches in triangles, with trees over these
	for _, room := range []int{0, 2, 100, 700, 5000} {
		for _, picks := range [][]int{nil, {3, 1, -4, 1, 5, -9}} {
			c := New(room, picks, waves{})
			for k := range 60 {
				i := k*k%11*17 - 17
				m, tree, e := c.Get(i)
				n, wood, errno := waves{}.Make(i)
				if e != errno || !same(m, n, tree, wood) || (e == api.OK) != (i > 0) {
					t.Fatal(room, i, e, errno)
				}
			}
			if x := c.Tally(); x.Most > room || x.Builds-x.Drops-x.Passed != len(c.Kept()) {
				t.Error(room, x, c.Kept())
			}
		}
	}
}
