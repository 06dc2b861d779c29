package relief

import (
	"math"
	"slices"
	"testing"

	"relievo/api"
)

const most, least = math.MaxInt64, math.MinInt64

// texel: the texel at a point, where there must be one.
func texel(t testing.TB, x api.Tex, p api.V) int {
	t.Helper()
	n, ok := Texel(x, p)
	if !ok {
		t.Fatal("Texel", x, p)
	}
	return n
}

// noTexel: does Texel answer that there is nothing, and nothing else?
func noTexel(t testing.TB, x api.Tex, p api.V) {
	t.Helper()
	if n, ok := Texel(x, p); ok || n != 0 {
		t.Error("Texel", x, p, n, ok)
	}
}

// blended: a direction between two, where there must be one.
func blended(t testing.TB, a, b api.V, i, n int) api.V {
	t.Helper()
	v, ok := Blend(a, b, i, n)
	if !ok {
		t.Fatal("Blend", a, b, i, n)
	}
	return v
}

// noBlend: does Blend answer that there is nothing, and nothing else?
func noBlend(t testing.TB, a, b api.V, i, n int) {
	t.Helper()
	if v, ok := Blend(a, b, i, n); ok || v != (api.V{}) {
		t.Error("Blend", a, b, i, n, v, ok)
	}
}

// mixed: a direction among four, where there must be one.
func mixed(t testing.TB, n [4]api.V, i, k, j, m int) api.V {
	t.Helper()
	v, ok := Mix(n, i, k, j, m)
	if !ok {
		t.Fatal("Mix", n, i, k, j, m)
	}
	return v
}

// noMix: does Mix answer that there is nothing, and nothing else?
func noMix(t testing.TB, n [4]api.V, i, k, j, m int) {
	t.Helper()
	if v, ok := Mix(n, i, k, j, m); ok || v != (api.V{}) {
		t.Error("Mix", n, i, k, j, m, v, ok)
	}
}

// lifted: a point that is lifted, where it must be one.
func lifted(t testing.TB, p, n api.V, texel, height int) api.V {
	t.Helper()
	v, ok := Lift(p, n, texel, height)
	if !ok {
		t.Fatal("Lift", p, n, texel, height)
	}
	return v
}

// noLift: does Lift answer that there is nothing, and nothing else?
func noLift(t testing.TB, p, n api.V, texel, height int) {
	t.Helper()
	if v, ok := Lift(p, n, texel, height); ok || v != (api.V{}) {
		t.Error("Lift", p, n, texel, height, v, ok)
	}
}

// numbered: a texture whose texels tell their places, from 1 on.
func numbered(w, h int) api.Tex {
	rows := make([]int, w*h)
	for k := range rows {
		rows[k] = (k + 1) % 256
	}
	return api.Tex{W: w, H: h, Rows: rows}
}

// ends: a point with one part at a bound, of all parts and signs.
func ends(bound int) []api.V {
	return []api.V{{X: bound}, {X: -bound}, {Y: bound}, {Y: -bound}, {Z: bound}, {Z: -bound}}
}

// beyond: points with one part beyond a bound, by one and by much.
func beyond(bound int) []api.V {
	var list []api.V
	for _, part := range []int{bound + 1, bound + 2, 2 * bound, 1 << 32, 1<<32 + 1, 1 << 62, most, least, least + 1} {
		list = append(list, ends(part)...)
	}
	return list
}

func TestTexelByHand(t *testing.T) { // P14.1
	x := numbered(3, 2)
	for k, c := range []struct {
		p    api.V
		want int
	}{
		{api.V{}, 1}, {api.V{X: 15}, 1}, {api.V{X: 16}, 2}, {api.V{X: 31}, 2}, {api.V{X: 32}, 3}, {api.V{X: 47}, 3}, {api.V{X: 48}, 1},
		{api.V{X: -1}, 3}, {api.V{X: -16}, 3}, {api.V{X: -17}, 2}, {api.V{X: -32}, 2}, {api.V{X: -33}, 1}, {api.V{X: -48}, 1}, {api.V{X: -49}, 3},
		{api.V{Y: 15}, 1}, {api.V{Y: 16}, 4}, {api.V{Y: 31}, 4}, {api.V{Y: 32}, 1}, {api.V{Y: -1}, 4}, {api.V{Y: -16}, 4}, {api.V{Y: -17}, 1}, {api.V{Y: -33}, 4},
		{api.V{Z: 15}, 1}, {api.V{Z: 16}, 4}, {api.V{Z: 32}, 1}, {api.V{Z: -1}, 4}, {api.V{Z: -17}, 1},
		{api.V{Y: 8, Z: 7}, 1}, {api.V{Y: 8, Z: 8}, 4}, {api.V{Y: -8, Z: 8}, 1}, {api.V{Y: -8, Z: 7}, 4}, {api.V{Y: 40, Z: -9}, 4}, {api.V{Y: 40, Z: -8}, 1},
		{api.V{X: 20, Y: 20, Z: 20}, 2}, {api.V{X: 40, Y: 30, Z: 1}, 6}, {api.V{X: -40, Y: -3, Z: 2}, 4},
	} {
		if got := texel(t, x, c.p); got != c.want {
			t.Error(k, c, got)
		}
	}
}

func TestFarTexels(t *testing.T) { // P14.1: MaxSpace itself is within, and Y and Z together may be beyond it
	x := numbered(3, 5)
	for _, c := range []struct {
		p    api.V
		want int
	}{
		{api.V{X: 65536}, 2}, {api.V{X: -65536}, 3}, // 4096 is 3 times 1365, and 1
		{api.V{Y: 65536}, 4}, {api.V{Y: -65536}, 13}, // 4096 is 5 times 819, and 1
		{api.V{Z: 65536}, 4}, {api.V{Z: -65536}, 13},
		{api.V{Y: 65536, Z: 65536}, 7}, {api.V{Y: -65536, Z: -65536}, 10}, {api.V{Y: -65536, Z: 65536}, 1},
		{api.V{X: 65535, Y: 65535}, 1},
	} {
		if got := texel(t, x, c.p); got != c.want {
			t.Error(c, got)
		}
	}
	for _, p := range beyond(65536) {
		noTexel(t, x, p)
	}
	noTexel(t, x, api.V{Y: 65537, Z: -65537})
}

func TestTextures(t *testing.T) { // P14.1: all sizes that are right, and which aren't
	for w := -2; w <= 19; w++ {
		for h := -2; h <= 19; h++ {
			count := max(w*h, 0)
			for _, texels := range []int{count - 16, count - 1, count, count + 1, 2*count + 1} {
				if texels < 0 {
					continue
				}
				x := api.Tex{W: w, H: h, Rows: slices.Repeat([]int{7}, texels)}
				if 1 <= w && w <= 16 && 1 <= h && h <= 16 && texels == count {
					if got := texel(t, x, api.V{X: 5, Y: -9}); got != 7 {
						t.Error(w, h, got)
					}
				} else {
					noTexel(t, x, api.V{})
				}
			}
		}
	}
}

func TestOddTextures(t *testing.T) { // P1, P14.1: sizes whose product goes round
	rows := slices.Repeat([]int{7}, 256)
	for _, c := range [][2]int{{-1, -1}, {-16, -16}, {1 << 32, 1 << 32}, {1 << 62, 4}, {least, 2}, {least, least}, {most, most}, {0, most}, {least, 0}, {1<<32 + 1, 1}, {256, 1}, {1, 256}, {17, 15}} {
		for _, n := range []int{0, 1, 2, 16, 255, 256} {
			noTexel(t, api.Tex{W: c[0], H: c[1], Rows: rows[:n]}, api.V{})
			noTexel(t, api.Tex{W: c[0], H: c[1], Rows: rows[:n:n]}, api.V{X: 1000})
		}
	}
	noTexel(t, api.Tex{}, api.V{})
	noTexel(t, api.Tex{W: 1, H: 1}, api.V{})
	noTexel(t, api.Tex{Rows: rows}, api.V{})
}

func TestWrongTexels(t *testing.T) { // P14.1: each texel is 0 to 255, not only the one at the point
	for _, wrong := range []int{-1, 256, 257, -255, 1 << 32, 1<<32 + 1, most, least} {
		for k := range 6 {
			x := numbered(3, 2)
			x.Rows[k] = wrong
			for at := range 6 {
				noTexel(t, x, api.V{X: 16 * (at % 3), Y: 16 * (at / 3)})
			}
		}
	}
	for _, fine := range []int{0, 1, 254, 255} {
		x := numbered(3, 2)
		x.Rows[0] = fine
		if got := texel(t, x, api.V{}); got != fine {
			t.Error(fine, got)
		}
		if got := texel(t, x, api.V{X: 16}); got != 2 {
			t.Error(fine, got)
		}
	}
}

func TestBlendByHand(t *testing.T) { // P14.2
	a, b := api.V{X: 10}, api.V{Y: 10}
	for k, c := range []struct {
		a, b api.V
		i, n int
		want api.V
	}{
		{a, b, 0, 4, a}, {a, b, 4, 4, b}, {a, b, 0, 1, a}, {a, b, 1, 1, b},
		{a, b, 1, 4, api.V{X: 8, Y: 3}}, // 7 1/2, 2 1/2
		{a, b, 3, 4, api.V{X: 3, Y: 8}},
		{a, b, 1, 16, api.V{X: 9, Y: 1}},  // 150/16, 10/16
		{a, b, 15, 16, api.V{X: 1, Y: 9}}, // 10/16, 150/16
		{api.V{Z: -1}, api.V{}, 1, 2, api.V{}},
		{api.V{Z: -3}, api.V{}, 1, 2, api.V{Z: -1}},
		{api.V{Z: 1}, api.V{}, 1, 2, api.V{Z: 1}},
		{api.V{X: 1023, Y: -1023, Z: 1023}, api.V{X: -1023, Y: -1023, Z: 1022}, 1, 2, api.V{Y: -1023, Z: 1023}},
	} {
		if got := blended(t, c.a, c.b, c.i, c.n); got != c.want {
			t.Error(k, c, got)
		}
	}
}

// places: numbers about the ends of those that i and n may be, and others that are never right.
var places = []int{-1, 0, 1, 2, 3, 8, 15, 16, 17, 18, -16, 32, 255, 1 << 21, 1<<32 + 1, 1 << 62, most, least}

// place: is i one of 0 to n, and n one of 1 to 16?
func place(i, n int) bool {
	for parts := 1; parts <= 16; parts++ {
		for k := 0; k <= parts; k++ {
			if k == i && parts == n {
				return true
			}
		}
	}
	return false
}

func TestPlaces(t *testing.T) { // P1, P14.2: which numbers are places, for Blend and for both of Mix
	a, b := api.V{X: 5, Y: 6, Z: 7}, api.V{X: 9, Y: 8, Z: 7}
	check := func(i, n int) {
		if place(i, n) {
			blended(t, a, b, i, n)
		} else {
			noBlend(t, a, b, i, n)
		}
	}
	for _, i := range places {
		for _, n := range places {
			check(i, n)
			for _, j := range places {
				for _, m := range places {
					if place(i, n) && place(j, m) {
						mixed(t, [4]api.V{a, b, b, a}, i, n, j, m)
					} else {
						noMix(t, [4]api.V{a, b, b, a}, i, n, j, m)
					}
				}
			}
		}
	}
	for i := -3; i <= 20; i++ {
		for n := -3; n <= 20; n++ {
			check(i, n)
		}
	}
}

func TestDirections(t *testing.T) { // P14.2: both are within 1,023, whether they count there or not
	a := api.V{X: 5, Y: 6, Z: 7}
	for _, v := range beyond(1023) {
		for i := range 3 {
			noBlend(t, v, a, i, 2)
			noBlend(t, a, v, i, 2)
			noBlend(t, v, v, i, 2)
			for j := range 3 {
				for k := range 4 {
					n := [4]api.V{a, a, a, a}
					n[k] = v
					noMix(t, n, i, 2, j, 2)
				}
			}
		}
	}
	for _, v := range ends(1023) {
		for n := 1; n <= 16; n++ {
			if blended(t, v, a, 0, n) != v || blended(t, a, v, n, n) != v || blended(t, v, v, n/2, n) != v {
				t.Error(v, n)
			}
			if got := mixed(t, [4]api.V{v, v, v, v}, n/2, n, n/3, n); got != v {
				t.Error(v, n, got)
			}
		}
	}
}

func TestMixByHand(t *testing.T) { // P14.2
	n := [4]api.V{{X: 100, Y: 4}, {X: 200, Y: 8}, {X: 400, Z: -9}, {X: 300, Z: 9}}
	for k, c := range []struct {
		i, k, j, m int
		want       api.V
	}{
		{0, 1, 0, 1, n[0]}, {1, 1, 0, 1, n[1]}, {1, 1, 1, 1, n[2]}, {0, 1, 1, 1, n[3]}, // round, as Normals go
		{1, 4, 0, 1, api.V{X: 125, Y: 5}}, {1, 4, 3, 3, api.V{X: 325, Z: 5}}, // 4 1/2
		{0, 7, 1, 4, api.V{X: 150, Y: 3, Z: 2}}, {16, 16, 3, 4, api.V{X: 350, Y: 2, Z: -7}}, // -6 3/4
		{1, 4, 1, 4, api.V{X: 175, Y: 4, Z: 1}},  // 15/4, 5/4
		{3, 4, 1, 2, api.V{X: 275, Y: 4, Z: -2}}, // 7/2, -4/2: -4 1/2 goes up to -4
	} {
		if got := mixed(t, n, c.i, c.k, c.j, c.m); got != c.want {
			t.Error(k, c, got)
		}
	}
}

func TestMixOrder(t *testing.T) { // P14.2: first along the first and the third side, then from one to the other, each time rounded
	for k, c := range []struct {
		n          [4]int
		i, k, j, m int
		want       int
	}{
		{[4]int{1, 0, 0, 0}, 1, 2, 1, 2, 1}, // 1/2 up to 1, then 1/2 up to 1; at once 1/4
		{[4]int{2, 1, 1, 0}, 1, 2, 1, 3, 2}, // 3/2 up to 2, 1/2 up to 1, then 5/3; the other way 4/3 down to 1, 1, then 1
		{[4]int{1, 0, 1, 0}, 1, 3, 1, 2, 1}, // 2/3 up to 1, 1/3 down to 0, then 1/2 up to 1; were the third before the fourth, 2/3 up to 1
		{[4]int{0, 3, 0, 0}, 1, 2, 1, 3, 1}, // 3/2 up to 2, then 4/3; the other way 0, 2, then 1
		{[4]int{1, 0, 0, 0}, 3, 5, 1, 2, 0}, // 2/5 down to 0; the other way 1/2 up to 1, then 2/5
		{[4]int{-1, 0, 0, 0}, 1, 2, 0, 1, 0},
		{[4]int{-3, 0, 0, -1}, 1, 2, 1, 2, 0}, // -3/2 up to -1, -1/2 up to 0, then -1/2 up to 0; at once -1
	} {
		var n [4]api.V
		for at, part := range c.n {
			n[at] = api.V{X: part, Y: part, Z: 8}
		}
		if got := mixed(t, n, c.i, c.k, c.j, c.m); got != (api.V{X: c.want, Y: c.want, Z: 8}) {
			t.Error(k, c, got)
		}
	}
}

func TestLiftByHand(t *testing.T) { // P14.3
	up := api.V{Z: 1023}
	for k, c := range []struct {
		p, n          api.V
		texel, height int
		want          api.V
	}{
		{api.V{X: 5, Y: 5, Z: 5}, up, 255, 10, api.V{X: 5, Y: 5, Z: 15}}, // the chapter's example
		{api.V{X: 5}, up, 0, 255, api.V{X: 5}},
		{api.V{X: 5}, up, 255, 0, api.V{X: 5}},
		{api.V{X: 5}, api.V{}, 255, 255, api.V{X: 5}},
		{api.V{}, up, 255, 255, api.V{Z: 255}},                                                         // 254 3/4
		{api.V{}, up, 128, 255, api.V{Z: 128}},                                                         // 127 7/8
		{api.V{}, up, 127, 1, api.V{}},                                                                 // h is 127/255, down to 0
		{api.V{}, up, 128, 1, api.V{Z: 1}},                                                             // h is 128/255, up to 1
		{api.V{}, api.V{X: -512}, 128, 20, api.V{X: -5}},                                               // h is 10
		{api.V{}, api.V{X: 512}, 255, 1, api.V{X: 1}},                                                  // 1/2, up
		{api.V{}, api.V{X: 511}, 255, 1, api.V{}},                                                      // just less
		{api.V{}, api.V{X: -512}, 255, 1, api.V{}},                                                     // -1/2, up
		{api.V{}, api.V{X: -513}, 255, 1, api.V{X: -1}},                                                // just less
		{api.V{Y: -7}, api.V{Y: -512}, 255, 3, api.V{Y: -8}},                                           // -7, -1 1/2
		{api.V{X: 9, Y: 8, Z: 7}, api.V{X: 600, Y: -600, Z: 300}, 100, 51, api.V{X: 21, Y: -4, Z: 13}}, // h is 20: 11 23/32, 5 55/64
		{api.V{X: 9, Y: 8, Z: 7}, api.V{X: 600, Y: -600, Z: 300}, 99, 51, api.V{X: 21, Y: -4, Z: 13}},  // 19 4/5
	} {
		if got := lifted(t, c.p, c.n, c.texel, c.height); got != c.want {
			t.Error(k, c, got)
		}
	}
}

func TestLiftBounds(t *testing.T) { // P14.3: what is within, and what isn't
	up := api.V{X: 3, Z: 1023}
	for _, p := range ends(65024) {
		lifted(t, p, up, 255, 255)
	}
	for _, p := range beyond(65024) {
		noLift(t, p, up, 1, 1)
		noLift(t, p, api.V{}, 0, 0)
	}
	for _, n := range ends(1023) {
		lifted(t, api.V{X: 1}, n, 255, 255)
	}
	for _, n := range beyond(1023) {
		noLift(t, api.V{X: 1}, n, 1, 1)
		noLift(t, api.V{X: 1}, n, 0, 0)
	}
	for _, k := range []int{0, 1, 2, 127, 254, 255} {
		lifted(t, api.V{X: 1}, up, k, 1)
		lifted(t, api.V{X: 1}, up, 1, k)
	}
	for _, k := range []int{-1, 256, -2, 257, -255, 1 << 32, 1<<32 + 1, 1 << 62, most, least} {
		for _, other := range []int{0, 1, 255, -1, 256} {
			noLift(t, api.V{X: 1}, up, k, other)
			noLift(t, api.V{X: 1}, up, other, k)
		}
	}
}

func TestAsItWas(t *testing.T) { // P14.4: a texture stays as it was, and what lies behind its texels
	memory := []int{1, 2, 3, 4, 999, -5}
	x := api.Tex{Name: "bark", W: 2, H: 2, Rows: memory[:4]}
	for k := range 16 {
		texel(t, x, api.V{X: 16 * k, Y: 4 * k})
	}
	noTexel(t, x, api.V{X: most})
	if !slices.Equal(memory, []int{1, 2, 3, 4, 999, -5}) || x.Name != "bark" || x.W != 2 || x.H != 2 || len(x.Rows) != 4 {
		t.Error(memory, x)
	}
	// None is kept either: another texture in the same memory has its own texels.
	memory[0] = 77
	if got := texel(t, x, api.V{}); got != 77 {
		t.Error(got)
	}
}
