package relief

import (
	"math/big"
	"slices"
	"testing"

	"relievo/api"
)

// dice: numbers that look like any, the same at each run.
type dice uint64

// below: a number from 0 on, below a bound.
func (r *dice) below(bound int) int {
	*r = *r*6364136223846793005 + 1442695040888963407
	return int(uint64(*r)>>33) % bound
}

// part: one within a bound, now and then at its ends.
func (r *dice) part(bound int) int {
	switch r.below(6) {
	case 0:
		return bound
	case 1:
		return -bound
	}
	return r.below(2*bound+1) - bound
}

// point: one within a bound that is at most this one.
func (r *dice) point(bound int) api.V {
	bound = []int{1, 9, bound / 5, bound - 1, bound, bound}[r.below(6)]
	return api.V{X: r.part(bound), Y: r.part(bound), Z: r.part(bound)}
}

// off: the point, now and then with a part that is far out.
func (r *dice) off(v api.V, bound int) api.V {
	if r.below(12) == 0 {
		part := []int{bound + 1, -bound - 1, 1 << 40, most, least}[r.below(5)]
		*[]*int{&v.X, &v.Y, &v.Z}[r.below(3)] = part
	}
	return v
}

// parts: a point's parts, exactly.
func parts(v api.V) [3]*big.Int {
	return [3]*big.Int{big.NewInt(int64(v.X)), big.NewInt(int64(v.Y)), big.NewInt(int64(v.Z))}
}

// within: is each part of the point -bound to bound?
func within(v api.V, bound int64) bool {
	for _, part := range parts(v) {
		if part.CmpAbs(big.NewInt(bound)) > 0 {
			return false
		}
	}
	return true
}

// nearest: the whole number that is nearest to n/d, the greater one of two: the greatest that isn't above n/d and a half.
func nearest(n *big.Int, d int64) *big.Int {
	above := new(big.Int).Add(new(big.Int).Mul(n, big.NewInt(2)), big.NewInt(d))
	return above.Div(above, big.NewInt(2*d)) // rounds down, as d is above 0
}

// together: a part of what Blend tells, exactly, and of n.
func together(a, b *big.Int, i, n int) *big.Int {
	sum := new(big.Int).Mul(a, big.NewInt(int64(n-i)))
	return nearest(sum.Add(sum, new(big.Int).Mul(b, big.NewInt(int64(i)))), int64(n))
}

// point: the point that has these parts.
func point(list [3]*big.Int) api.V {
	return api.V{X: int(list[0].Int64()), Y: int(list[1].Int64()), Z: int(list[2].Int64())}
}

// blend: what the chapter tells of Blend.
func blend(a, b api.V, i, n int) (api.V, bool) {
	if !place(i, n) || !within(a, 1023) || !within(b, 1023) {
		return api.V{}, false
	}
	list, other := parts(a), parts(b)
	for k := range list {
		list[k] = together(list[k], other[k], i, n)
	}
	return point(list), true
}

// mix: what the chapter tells of Mix.
func mix(n [4]api.V, i, k, j, m int) (api.V, bool) {
	a, ok := blend(n[0], n[1], i, k)
	b, fine := blend(n[3], n[2], i, k)
	v, good := blend(a, b, j, m)
	if !ok || !fine || !good {
		return api.V{}, false
	}
	return v, true
}

// lift: what the chapter tells of Lift.
func lift(p, n api.V, texel, height int) (api.V, bool) {
	if !within(p, 65536-512) || !within(n, 1023) || texel < 0 || texel > 255 || height < 0 || height > 255 {
		return api.V{}, false
	}
	h := nearest(big.NewInt(int64(texel*height)), 255)
	list, up := parts(p), parts(n)
	for k := range list {
		list[k].Add(list[k], nearest(up[k].Mul(up[k], h), 1024))
	}
	return point(list), true
}

// seen: what the chapter tells of Texel, of a right texture.
func seen(x api.Tex, p api.V) (int, bool) {
	if !within(p, 65536) {
		return 0, false
	}
	list := parts(p)
	place := func(part *big.Int, cells int) int {
		part.Div(part, big.NewInt(16)) // rounds down
		return int(part.Mod(part, big.NewInt(int64(cells))).Int64())
	}
	column, row := place(list[0], x.W), place(list[1].Add(list[1], list[2]), x.H)
	return x.Rows[row*x.W+column], true
}

// texture: a right one.
func (r *dice) texture() api.Tex {
	x := api.Tex{Name: "any", W: 1 + r.below(16), H: 1 + r.below(16)}
	for range x.W * x.H {
		x.Rows = append(x.Rows, r.below(256))
	}
	return x
}

func TestTexels(t *testing.T) { // P14.1: many textures of all sizes at many points
	r := dice(1)
	for range 1500 {
		x := r.texture()
		before := slices.Clone(x.Rows)
		for range 30 {
			p := r.off(r.point(65536), 65536)
			got, ok := Texel(x, p)
			if want, fine := seen(x, p); got != want || ok != fine {
				t.Fatal(x, p, got, ok, want, fine)
			}
		}
		if !slices.Equal(before, x.Rows) {
			t.Fatal(before, x.Rows)
		}
	}
}

func TestCells(t *testing.T) { // P14.1: all places along three cells, both ways from 0, in all sizes
	for size := 1; size <= 16; size++ {
		across, down := numbered(size, 1), numbered(1, size)
		for place := -48 * size; place <= 48*size; place++ {
			for x, list := range map[int][]api.V{0: {{X: place}}, 1: {{Y: place}, {Z: place}, {Y: 2 * place, Z: -place}, {Y: 5, Z: place - 5}}} {
				tex := []api.Tex{across, down}[x]
				for _, p := range list {
					want, _ := seen(tex, p)
					if got := texel(t, tex, p); got != want {
						t.Fatal(size, p, got, want)
					}
				}
			}
		}
	}
}

func TestBlends(t *testing.T) { // P14.2: many directions at all places
	r := dice(2)
	for range 300 {
		a, b := r.off(r.point(1023), 1023), r.off(r.point(1023), 1023)
		for n := -1; n <= 18; n++ {
			for i := -1; i <= n+1; i++ {
				got, ok := Blend(a, b, i, n)
				if want, fine := blend(a, b, i, n); got != want || ok != fine {
					t.Fatal(a, b, i, n, got, ok, want, fine)
				}
			}
		}
	}
}

func TestMixes(t *testing.T) { // P14.2: many squares, at any places
	r := dice(3)
	for range 4000 {
		var n [4]api.V
		for k := range n {
			n[k] = r.off(r.point(1023), 1023)
		}
		for range 20 {
			k, m := r.below(18), r.below(18)
			i, j := r.below(k+2)-r.below(40)/39, r.below(m+2)-r.below(40)/39
			got, ok := Mix(n, i, k, j, m)
			if want, fine := mix(n, i, k, j, m); got != want || ok != fine {
				t.Fatal(n, i, k, j, m, got, ok, want, fine)
			}
		}
	}
}

func TestMixEnds(t *testing.T) { // P14.2: along the square's sides it is what Blend tells of their ends
	r := dice(4)
	for range 400 {
		var n [4]api.V
		for k := range n {
			n[k] = r.point(1023)
		}
		k, m := 1+r.below(16), 1+r.below(16)
		for i := range k + 1 {
			if mixed(t, n, i, k, 0, m) != blended(t, n[0], n[1], i, k) || mixed(t, n, i, k, m, m) != blended(t, n[3], n[2], i, k) {
				t.Fatal(n, i, k, m)
			}
			if mixed(t, n, 0, m, i, k) != blended(t, n[0], n[3], i, k) || mixed(t, n, m, m, i, k) != blended(t, n[1], n[2], i, k) {
				t.Fatal(n, i, k, m)
			}
		}
	}
}

// moved: does the point move by no more than its height in any part?
func moved(t *testing.T, p, got api.V, height int) {
	t.Helper()
	for _, way := range []int{got.X - p.X, got.Y - p.Y, got.Z - p.Z} {
		if way < -height || way > height {
			t.Fatal(p, got, height)
		}
	}
}

func TestLifts(t *testing.T) { // P14.3, P14.4: many points and directions
	r := dice(5)
	for range 60000 {
		p, n := r.off(r.point(65024), 65024), r.off(r.point(1023), 1023)
		high, height := r.below(258)-1, r.below(258)-1
		got, ok := Lift(p, n, high, height)
		want, fine := lift(p, n, high, height)
		if got != want || ok != fine {
			t.Fatal(p, n, high, height, got, ok, want, fine)
		}
		if ok {
			moved(t, p, got, height)
		}
	}
}

func TestAllHeights(t *testing.T) { // P14.3, P14.4: all texels and heights, up, down, and by halves
	p := api.V{X: 65024, Y: -65024, Z: 1}
	for high := range 256 {
		for height := range 256 {
			for _, n := range []api.V{{X: 1023, Y: -1023, Z: 512}, {X: -512, Y: 511, Z: -1023}, {X: 64, Y: -64, Z: -1}} {
				got := lifted(t, p, n, high, height)
				if want, _ := lift(p, n, high, height); got != want {
					t.Fatal(n, high, height, got, want)
				}
				moved(t, p, got, height)
			}
		}
	}
}

func FuzzAny(f *testing.F) { // P1, P14.1 to P14.4: it answers at all numbers
	f.Add([]byte{1, 2, 3, 4, 5, 6}, 3, 2, -1, 16, 7, 2, 3)
	f.Add([]byte{255}, 1, 1, 65536, -65536, 65536, 16, 16)
	f.Add([]byte{0, 9}, 2, 1, 1023, -1024, 512, 0, 1)
	f.Add([]byte{}, most, least, most, least, 0, 0, 0)
	f.Fuzz(func(t *testing.T, bytes []byte, w, h, x, y, z, i, n int) {
		tex := api.Tex{W: w, H: h}
		for _, b := range bytes {
			tex.Rows = append(tex.Rows, int(b))
		}
		p := api.V{X: x, Y: y, Z: z}
		got, ok := Texel(tex, p)
		good := 1 <= w && w <= 16 && 1 <= h && h <= 16 && w*h == len(bytes)
		if want, fine := 0, false; good {
			if want, fine = seen(tex, p); got != want || ok != fine {
				t.Fatal(tex, p, got, ok, want, fine)
			}
		} else if got != want || ok != fine {
			t.Fatal(tex, p, got, ok)
		}
		q := api.V{X: z, Y: x % 1024, Z: y % 1024}
		v, ok := Blend(p, q, i, n)
		if want, fine := blend(p, q, i, n); v != want || ok != fine {
			t.Fatal(p, q, i, n, v, ok, want, fine)
		}
		corners := [4]api.V{p, q, {X: w, Y: h}, {Z: i}}
		v, ok = Mix(corners, i, n, w, h)
		if want, fine := mix(corners, i, n, w, h); v != want || ok != fine {
			t.Fatal(corners, i, n, w, h, v, ok, want, fine)
		}
		v, ok = Lift(p, q, i, n)
		if want, fine := lift(p, q, i, n); v != want || ok != fine {
			t.Fatal(p, q, i, n, v, ok, want, fine)
		}
	})
}
