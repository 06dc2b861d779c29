package vec

import (
	"math"
	"math/big"
	"slices"
	"testing"

	"relievo/api"
)

const most, least = math.MaxInt64, math.MinInt64

// ints: small numbers, some of the document's limits, and the edges of 64 bits.
func ints() []int {
	out := []int{0, 5, 7, 10, -5, -7, -10, most, most - 1, least, least + 1}
	for _, k := range []int{0, 1, 2, 14, 16, 31, 32, 60, 61, 62} {
		out = append(out, 1<<k, 1<<k-1, 1<<k+1, -1<<k, -1<<k-1, -1<<k+1)
	}
	seed := uint64(1)
	for i := range 24 {
		seed = seed*6364136223846793005 + 1442695040888963407
		out = append(out, int(int64(seed)>>(i*2)))
	}
	return out
}

// points: three neighbours each of the numbers, and each number alone in a part.
func points() []api.V {
	list := ints()
	var out []api.V
	for i, n := range list {
		out = append(out, api.V{X: n}, api.V{Y: n}, api.V{Z: n})
		out = append(out, api.V{X: n, Y: list[(i*7+1)%len(list)], Z: list[(i*11+2)%len(list)]})
	}
	return out
}

// parts: the point as a list.
func parts(a api.V) [3]int { return [3]int{a.X, a.Y, a.Z} }

// round: a number of any size, gone round to 64 bits.
func round(n *big.Int) int {
	low := new(big.Int).And(n, new(big.Int).SetUint64(math.MaxUint64))
	return int(low.Uint64())
}

// whole: the number for the library.
func whole(n int) *big.Int { return big.NewInt(int64(n)) }

// times: the product, of any size.
func times(a, b int) *big.Int { return new(big.Int).Mul(whole(a), whole(b)) }

func TestSums(t *testing.T) { // P2.1
	list := points()
	for i, a := range list {
		for j, b := range list {
			k := b.X
			sum, less, more := parts(Add(a, b)), parts(Sub(a, b)), parts(Scale(a, k))
			for n, x := range parts(a) {
				y := parts(b)[n]
				if sum[n] != round(new(big.Int).Add(whole(x), whole(y))) {
					t.Fatal("Add", i, j, a, b, sum)
				}
				if less[n] != round(new(big.Int).Sub(whole(x), whole(y))) {
					t.Fatal("Sub", i, j, a, b, less)
				}
				if more[n] != round(times(x, k)) {
					t.Fatal("Scale", i, j, a, k, more)
				}
			}
		}
	}
}

func TestDotAndCross(t *testing.T) { // P2.1
	less := func(a, b *big.Int) int { return round(new(big.Int).Sub(a, b)) }
	list := points()
	for _, a := range list {
		for _, b := range list {
			dot := new(big.Int).Add(times(a.X, b.X), times(a.Y, b.Y))
			dot.Add(dot, times(a.Z, b.Z))
			if got := Dot(a, b); got != round(dot) {
				t.Fatal("Dot", a, b, got)
			}
			want := api.V{
				X: less(times(a.Y, b.Z), times(a.Z, b.Y)),
				Y: less(times(a.Z, b.X), times(a.X, b.Z)),
				Z: less(times(a.X, b.Y), times(a.Y, b.X)),
			}
			if got := Cross(a, b); got != want {
				t.Fatal("Cross", a, b, got)
			}
		}
	}
}

func TestSumsByHand(t *testing.T) { // P2.1
	a, b := api.V{X: 3, Y: -5, Z: 7}, api.V{X: -2, Y: 11, Z: 13}
	if got := Add(a, b); got != (api.V{X: 1, Y: 6, Z: 20}) {
		t.Error("Add", got)
	}
	if got := Sub(a, b); got != (api.V{X: 5, Y: -16, Z: -6}) {
		t.Error("Sub", got)
	}
	if got := Scale(a, -3); got != (api.V{X: -9, Y: 15, Z: -21}) {
		t.Error("Scale", got)
	}
	if got := Dot(a, b); got != 30 {
		t.Error("Dot", got)
	}
	if got := Cross(a, b); got != (api.V{X: -142, Y: -53, Z: 23}) {
		t.Error("Cross", got)
	}
	x, y, z := api.V{X: 1}, api.V{Y: 1}, api.V{Z: 1}
	if Cross(x, y) != z || Cross(y, z) != x || Cross(z, x) != y || Cross(y, x) != (api.V{Z: -1}) {
		t.Error("Cross of the axes")
	}
	end := api.V{X: most, Y: least, Z: -1}
	if got := Add(end, api.V{X: 1, Y: -1, Z: 1}); got != (api.V{X: least, Y: most}) {
		t.Error("Add at the ends", got)
	}
	if got := Sub(api.V{}, end); got != (api.V{X: -most, Y: least, Z: 1}) {
		t.Error("Sub at the ends", got)
	}
	if got := Scale(end, 2); got != (api.V{X: -2, Y: 0, Z: -2}) {
		t.Error("Scale at the ends", got)
	}
}

func TestWithin(t *testing.T) { // P2.2
	for i, c := range []struct {
		a    api.V
		most int
		want bool
	}{
		{api.V{}, 0, true},
		{api.V{}, -1, false},
		{api.V{}, least, false},
		{api.V{X: least, Y: least, Z: least}, least, false},
		{api.V{X: 1}, 0, false},
		{api.V{X: 5, Y: -5, Z: 5}, 5, true},
		{api.V{X: 6}, 5, false},
		{api.V{X: -6}, 5, false},
		{api.V{Y: 6}, 5, false},
		{api.V{Y: -6}, 5, false},
		{api.V{Z: 6}, 5, false},
		{api.V{Z: -6}, 5, false},
		{api.V{X: most, Y: -most, Z: most}, most, true},
		{api.V{X: least}, most, false},
		{api.V{Y: least}, most, false},
		{api.V{Z: least}, most, false},
		{api.V{X: 1}, -1, false},
		{api.V{X: most}, -1, false},
	} {
		if got := Within(c.a, c.most); got != c.want {
			t.Error(i, c.a, c.most, got)
		}
	}
}

func TestWithinAll(t *testing.T) { // P2.2
	for _, a := range points() {
		for _, bound := range ints() {
			want := bound >= 0
			for _, n := range parts(a) {
				want = want && new(big.Int).Abs(whole(n)).Cmp(whole(bound)) <= 0
			}
			if Within(a, bound) != want {
				t.Fatal(a, bound, !want)
			}
		}
	}
}

func TestCut(t *testing.T) { // P2.2
	for i, c := range []struct {
		a    api.V
		most int
		want api.V
	}{
		{api.V{X: 5, Y: -3, Z: 1}, 2, api.V{X: 2, Y: -1}},
		{api.V{X: 5, Y: -3, Z: 1}, 5, api.V{X: 5, Y: -3, Z: 1}},
		{api.V{X: 5, Y: -3, Z: 1}, 4, api.V{X: 2, Y: -1}},
		{api.V{X: 5, Y: -3, Z: 1}, 1, api.V{X: 1}},
		{api.V{X: -5, Y: -3, Z: -1}, 2, api.V{X: -2, Y: -1}},
		{api.V{X: 1, Y: 7, Z: 100}, 30, api.V{Y: 1, Z: 25}},
		{api.V{X: 1, Y: -8}, 7, api.V{Y: -4}},
		{api.V{}, 1, api.V{}},
		{api.V{X: 1}, 0, api.V{}},
		{api.V{X: 1}, -1, api.V{}},
		{api.V{X: 1}, least, api.V{}},
		{api.V{X: least, Y: most, Z: -most}, most, api.V{X: -1 << 62, Y: 1<<62 - 1, Z: 1 - 1<<62}},
		{api.V{X: least, Y: least, Z: most}, 1, api.V{X: -1, Y: -1}},
	} {
		if got := Cut(c.a, c.most); got != c.want {
			t.Error(i, c.a, c.most, got)
		}
	}
}

// cut: the parts divided toward 0 by the least power of 2 that brings them
// within the bound; dividing toward 0 at once is the same as halving often.
func cut(a api.V, bound int) api.V {
	by := big.NewInt(1)
	for {
		var out [3]int
		ok := true
		for i, n := range parts(a) {
			part := new(big.Int).Quo(whole(n), by)
			ok = ok && new(big.Int).Abs(part).Cmp(whole(bound)) <= 0
			out[i] = round(part)
		}
		if ok {
			return api.V{X: out[0], Y: out[1], Z: out[2]}
		}
		by.Lsh(by, 1)
	}
}

func TestCutAll(t *testing.T) { // P2.2
	for _, a := range points() {
		for _, bound := range ints() {
			got, want := Cut(a, bound), api.V{}
			if bound > 0 {
				want = cut(a, bound)
			}
			if got != want {
				t.Fatal(a, bound, got)
			}
		}
	}
}

func TestRound(t *testing.T) { // P2.3
	const end = 1 << 61
	for i, c := range [][3]int{
		{-1, 2, 0}, {1, 2, 1}, {3, 2, 2}, {-3, 2, -1}, {5, 2, 3}, {-5, 2, -2},
		{0, 1, 0}, {0, end, 0}, {7, 1, 7}, {-7, 1, -7},
		{1, 3, 0}, {2, 3, 1}, {-1, 3, 0}, {-2, 3, -1}, {4, 3, 1}, {-4, 3, -1},
		{2, 4, 1}, {-2, 4, 0}, {-3, 4, -1}, {1, 4, 0}, {-1, 4, 0},
		{end, 1, end}, {-end, 1, -end}, {end, end, 1}, {-end, end, -1}, {end - 1, end, 1},
		{end / 2, end, 1}, {end/2 - 1, end, 0}, {-end / 2, end, 0}, {-end/2 - 1, end, -1},
		{end, 2, end / 2}, {end, 3, 768614336404564651}, {-end, 3, -768614336404564651},
		{end + 1, 1, 0}, {-end - 1, 1, 0}, {end + 1, end, 0}, {-end - 1, end, 0},
		{most, 1, 0}, {least, 1, 0}, {least, least, 0}, {most, most, 0},
		{end, end + 1, 0}, {end, most, 0}, {1, most, 0},
		{5, 0, 0}, {-5, 0, 0}, {0, 0, 0}, {5, -1, 0}, {4, -2, 0}, {5, least, 0},
	} {
		if got := Round(c[0], c[1]); got != c[2] {
			t.Error(i, c, got)
		}
	}
}

func TestRoundAll(t *testing.T) { // P2.3
	const end = 1 << 61
	list := ints()
	for n := -40; n <= 40; n++ {
		list = append(list, n)
	}
	for _, n := range list {
		for _, d := range list {
			want := 0
			if n >= -end && n <= end && d >= 1 && d <= end {
				// The library's Div rounds down for a divisor above 0.
				twice := new(big.Int).Add(times(2, n), whole(d))
				want = int(new(big.Int).Div(twice, times(2, d)).Int64())
			}
			if got := Round(n, d); got != want {
				t.Fatal(n, d, got)
			}
		}
	}
}

func TestBound(t *testing.T) { // P2.4
	p, q, r := api.V{X: 3, Y: -1, Z: 2}, api.V{X: -2, Y: 5, Z: 2}, api.V{X: 1, Y: 0, Z: -9}
	for i, c := range []struct {
		list []api.V
		want api.Box
		ok   bool
	}{
		{nil, api.Box{}, false},
		{[]api.V{}, api.Box{}, false},
		{[]api.V{p, q}[:0], api.Box{}, false},
		{[]api.V{{}}, api.Box{}, true},
		{[]api.V{p}, api.Box{Lo: p, Hi: p}, true},
		{[]api.V{p, p, p}, api.Box{Lo: p, Hi: p}, true},
		{[]api.V{p, q, r}, api.Box{Lo: api.V{X: -2, Y: -1, Z: -9}, Hi: api.V{X: 3, Y: 5, Z: 2}}, true},
		{[]api.V{r, q, p}, api.Box{Lo: api.V{X: -2, Y: -1, Z: -9}, Hi: api.V{X: 3, Y: 5, Z: 2}}, true},
		{[]api.V{{X: 4, Y: 4, Z: 4}, {X: 9, Y: 9, Z: 9}}, api.Box{Lo: api.V{X: 4, Y: 4, Z: 4}, Hi: api.V{X: 9, Y: 9, Z: 9}}, true},
		{[]api.V{{X: -4, Y: -4, Z: -4}, {X: -9, Y: -9, Z: -9}}, api.Box{Lo: api.V{X: -9, Y: -9, Z: -9}, Hi: api.V{X: -4, Y: -4, Z: -4}}, true},
		{[]api.V{{X: most, Y: least}, {X: least, Y: most}}, api.Box{Lo: api.V{X: least, Y: least}, Hi: api.V{X: most, Y: most}}, true},
	} {
		before := slices.Clone(c.list)
		if got, ok := Bound(c.list); got != c.want || ok != c.ok {
			t.Error(i, got, ok)
		}
		if !slices.Equal(before, c.list) {
			t.Error(i, "the list has changed")
		}
	}
}

// TestBoundLeast: all points are within, and each face of the box has one.
func TestBoundLeast(t *testing.T) { // P2.4
	list := points()
	for i := range list {
		some := list[i:min(i+9, len(list))]
		box, ok := Bound(some)
		if !ok {
			t.Fatal(i)
		}
		var low, high [3]bool
		for _, p := range some {
			if !Has(box, p) {
				t.Fatal(i, box, p)
			}
			for n, part := range parts(p) {
				low[n] = low[n] || part == parts(box.Lo)[n]
				high[n] = high[n] || part == parts(box.Hi)[n]
			}
		}
		if low != [3]bool{true, true, true} || high != low {
			t.Fatal(i, box, low, high)
		}
	}
}

func TestJoin(t *testing.T) { // P2.4
	a := api.Box{Lo: api.V{X: 1, Y: -2, Z: 3}, Hi: api.V{X: 4, Y: 5, Z: 6}}
	b := api.Box{Lo: api.V{X: 2, Y: -7, Z: 0}, Hi: api.V{X: 3, Y: 9, Z: 5}}
	want := api.Box{Lo: api.V{X: 1, Y: -7}, Hi: api.V{X: 4, Y: 9, Z: 6}}
	if Join(a, b) != want || Join(b, a) != want || Join(a, a) != a {
		t.Error(Join(a, b), Join(b, a), Join(a, a))
	}
	// Boxes whose Lo is above their Hi have no point, and count all the same.
	odd := api.Box{Lo: api.V{X: 9, Y: 9, Z: -9}, Hi: api.V{X: -9, Y: -9, Z: -10}}
	if got := Join(a, odd); got != (api.Box{Lo: api.V{X: 1, Y: -2, Z: -9}, Hi: a.Hi}) {
		t.Error(got)
	}
	if got := Join(odd, odd); got != odd {
		t.Error(got)
	}
	end := api.Box{Lo: api.V{X: least, Y: most, Z: least}, Hi: api.V{X: most, Y: least, Z: most}}
	if got := Join(a, end); got != (api.Box{Lo: api.V{X: least, Y: -2, Z: least}, Hi: api.V{X: most, Y: 5, Z: most}}) {
		t.Error(got)
	}
}

func TestHas(t *testing.T) { // P2.4
	box := api.Box{Lo: api.V{X: -1, Y: 2, Z: 5}, Hi: api.V{X: 1, Y: 4, Z: 5}}
	for x := -3; x <= 3; x++ {
		for y := 0; y <= 6; y++ {
			for z := 3; z <= 7; z++ {
				want := x >= -1 && x <= 1 && y >= 2 && y <= 4 && z == 5
				if Has(box, api.V{X: x, Y: y, Z: z}) != want {
					t.Error(x, y, z)
				}
			}
		}
	}
	if Has(api.Box{Lo: api.V{X: 1}}, api.V{X: 1}) || Has(api.Box{Lo: api.V{X: 1}}, api.V{}) {
		t.Error("a box without a point")
	}
	all := api.Box{Lo: api.V{X: least, Y: least, Z: least}, Hi: api.V{X: most, Y: most, Z: most}}
	for _, p := range points() {
		if !Has(all, p) || Has(api.Box{Lo: all.Hi, Hi: all.Lo}, p) {
			t.Error(p)
		}
	}
}

// TestAnyArguments: every call ends without a panic; what is wrong is answered
// by noughts.
func TestAnyArguments(t *testing.T) { // P1 for P2.1 to P2.4
	list := []int{0, 1, -1, 2, 1 << 61, 1<<61 + 1, most, least}
	for _, n := range list {
		for _, m := range list {
			a, b := api.V{X: n, Y: m, Z: -n}, api.V{X: m, Y: -m, Z: n}
			Add(a, b)
			Sub(a, b)
			Dot(a, b)
			Cross(a, b)
			Scale(a, m)
			Bound([]api.V{a, b})
			Join(api.Box{Lo: a, Hi: b}, api.Box{Lo: b, Hi: a})
			Has(api.Box{Lo: a, Hi: b}, a)
			if m < 0 && Within(a, m) {
				t.Error("Within", a, m)
			}
			if m < 1 && Cut(a, m) != (api.V{}) {
				t.Error("Cut", a, m)
			}
			if m > 0 && !Within(Cut(a, m), m) {
				t.Error("Cut", a, m, Cut(a, m))
			}
			if m < 1 && Round(n, m) != 0 {
				t.Error("Round", n, m)
			}
		}
	}
}
