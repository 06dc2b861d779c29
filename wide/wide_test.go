package wide

import (
	"math"
	"math/big"
	"testing"

	"relievo/api"
)

const most, least = math.MaxInt64, math.MinInt64

// ints: small numbers, the powers of 2 with their neighbours, and some of any size.
func ints() []int {
	out := []int{0, 5, 7, 10, -5, -7, -10, most, most - 1, least, least + 1}
	for _, k := range []int{0, 1, 2, 8, 16, 31, 32, 33, 61, 62} {
		out = append(out, 1<<k, 1<<k-1, 1<<k+1, -1<<k, -1<<k-1, -1<<k+1)
	}
	seed := uint64(1)
	for i := range 24 {
		seed = seed*6364136223846793005 + 1442695040888963407
		out = append(out, int(int64(seed)>>(i*2)))
	}
	return out
}

// wides: each number of a short list above each of them.
func wides() []api.Wide {
	parts := []int{0, 1, 2, 3, 5, -1, -2, -3, 1 << 32, 1<<62 - 1, 1 << 62, -1 << 62, -1<<62 - 1, most, most - 1, least, least + 1, 0x0123456789abcdef, -0x0123456789abcdef}
	var out []api.Wide
	for _, hi := range parts {
		for _, lo := range parts {
			out = append(out, api.Wide{Hi: int64(hi), Lo: uint64(lo)})
		}
	}
	for _, n := range ints() {
		out = append(out, Of(n))
	}
	return out
}

// bigOf: the number as the library has it, by what the chapter says of Hi and Lo.
func bigOf(a api.Wide) *big.Int {
	n := new(big.Int).Lsh(big.NewInt(a.Hi), 64)
	return n.Add(n, new(big.Int).SetUint64(a.Lo))
}

// fits: is it from -2^127 to 2^127 - 1?
func fits(n *big.Int) bool {
	end := new(big.Int).Lsh(big.NewInt(1), 127)
	return n.Cmp(new(big.Int).Neg(end)) >= 0 && n.Cmp(end) < 0
}

func TestOfAndInt(t *testing.T) { // P1.1
	for n, want := range map[int]api.Wide{0: {}, 1: {Lo: 1}, -1: {Hi: -1, Lo: math.MaxUint64}, most: {Lo: most}, least: {Hi: -1, Lo: 1 << 63}} {
		if Of(n) != want {
			t.Error("Of", n, Of(n))
		}
	}
	for _, a := range wides() {
		n, ok := Int(a)
		want := bigOf(a)
		if ok != want.IsInt64() || ok && int64(n) != want.Int64() || !ok && n != 0 {
			t.Error("Int", a, n, ok)
		}
	}
	for _, n := range ints() {
		if bigOf(Of(n)).Cmp(big.NewInt(int64(n))) != 0 {
			t.Error("Of", n)
		}
	}
	for _, a := range []api.Wide{{Lo: 1 << 63}, {Hi: -1, Lo: 1<<63 - 1}, {Hi: 1}, {Hi: -2, Lo: math.MaxUint64}, {Hi: least}} {
		if n, ok := Int(a); n != 0 || ok {
			t.Error("Int", a, n, ok)
		}
	}
}

func TestAdd(t *testing.T) { // P1.1
	list := wides()
	for _, a := range list {
		for _, b := range list {
			sum, ok := Add(a, b)
			want := new(big.Int).Add(bigOf(a), bigOf(b))
			if ok != fits(want) || ok && bigOf(sum).Cmp(want) != 0 || !ok && sum != (api.Wide{}) {
				t.Fatal(a, b, sum, ok)
			}
		}
	}
}

func TestAddEdges(t *testing.T) { // P1.1
	top, bottom := api.Wide{Hi: most, Lo: math.MaxUint64}, api.Wide{Hi: least}
	for i, c := range []struct {
		a, b, want api.Wide
		ok         bool
	}{
		{top, Of(0), top, true},
		{top, Of(1), api.Wide{}, false},
		{top, top, api.Wide{}, false},
		{bottom, Of(0), bottom, true},
		{bottom, Of(-1), api.Wide{}, false},
		{bottom, bottom, api.Wide{}, false},
		{top, bottom, Of(-1), true},
		{Of(-1), Of(1), Of(0), true},
		{api.Wide{Lo: math.MaxUint64}, Of(1), api.Wide{Hi: 1}, true},
	} {
		if got, ok := Add(c.a, c.b); got != c.want || ok != c.ok {
			t.Error(i, got, ok)
		}
	}
}

func TestNeg(t *testing.T) { // P1.1
	for _, a := range wides() {
		got, ok := Neg(a)
		want := new(big.Int).Neg(bigOf(a))
		if ok != fits(want) || ok && bigOf(got).Cmp(want) != 0 || !ok && got != (api.Wide{}) {
			t.Error(a, got, ok)
		}
	}
	if got, ok := Neg(api.Wide{Hi: least}); got != (api.Wide{}) || ok {
		t.Error("the least number", got, ok)
	}
	if got, ok := Neg(api.Wide{Hi: least, Lo: 1}); got != (api.Wide{Hi: most, Lo: math.MaxUint64}) || !ok {
		t.Error("the one above it", got, ok)
	}
}

func TestCmp(t *testing.T) { // P1.1
	list := wides()
	for _, a := range list {
		for _, b := range list {
			if got := Cmp(a, b); got != bigOf(a).Cmp(bigOf(b)) {
				t.Fatal(a, b, got)
			}
		}
	}
	if Cmp(Of(-1), Of(-2)) != 1 || Cmp(api.Wide{Lo: 1}, api.Wide{Lo: math.MaxUint64}) != -1 || Cmp(api.Wide{Hi: least}, api.Wide{Hi: most}) != -1 {
		t.Error("lower halves have no sign, upper ones have")
	}
}

func TestMul(t *testing.T) { // P1.1
	list := ints()
	for _, a := range list {
		for _, b := range list {
			want := new(big.Int).Mul(big.NewInt(int64(a)), big.NewInt(int64(b)))
			if bigOf(Mul(a, b)).Cmp(want) != 0 {
				t.Fatal(a, b, Mul(a, b))
			}
		}
	}
	if Mul(least, least) != (api.Wide{Hi: 1 << 62}) || Mul(least, -1) != (api.Wide{Lo: 1 << 63}) || Mul(-3, 2) != Of(-6) {
		t.Error("products of known numbers")
	}
}

func TestDiv(t *testing.T) { // P1.2
	list := ints()
	for _, a := range wides() {
		for _, d := range list {
			q, left, ok := Div(a, d)
			if d < 1 {
				if q != (api.Wide{}) || left != 0 || ok {
					t.Fatal("no division", a, d, q, left, ok)
				}
				continue
			}
			back := new(big.Int).Mul(bigOf(q), big.NewInt(int64(d)))
			back.Add(back, big.NewInt(int64(left)))
			if !ok || left < 0 || left >= d || back.Cmp(bigOf(a)) != 0 {
				t.Fatal(a, d, q, left, ok)
			}
		}
	}
}

func TestDivEdges(t *testing.T) { // P1.2
	for i, c := range []struct {
		a, q    api.Wide
		d, left int
		ok      bool
	}{
		{Of(-7), Of(-4), 2, 1, true},
		{Of(7), Of(3), 2, 1, true},
		{Of(-8), Of(-4), 2, 0, true},
		{Of(-1), Of(-1), most, most - 1, true},
		{Of(0), Of(0), most, 0, true},
		{api.Wide{Hi: least}, api.Wide{Hi: least}, 1, 0, true},
		{api.Wide{Hi: least}, api.Wide{Hi: -1 << 62}, 2, 0, true},
		{api.Wide{Hi: most, Lo: math.MaxUint64}, api.Wide{Hi: most, Lo: math.MaxUint64}, 1, 0, true},
		{Of(7), Of(0), 0, 0, false},
		{Of(7), Of(0), -1, 0, false},
		{Of(-7), Of(0), least, 0, false},
	} {
		if q, left, ok := Div(c.a, c.d); q != c.q || left != c.left || ok != c.ok {
			t.Error(i, q, left, ok)
		}
	}
}

func TestSqrt(t *testing.T) { // P1.2
	check := func(a api.Wide) {
		got, ok := Sqrt(a)
		n := bigOf(a)
		want := new(big.Int)
		if n.Sign() >= 0 {
			want.Sqrt(n)
		}
		there := n.Sign() >= 0 && want.IsInt64()
		if ok != there || ok && int64(got) != want.Int64() || !ok && got != 0 {
			t.Error(a, got, ok)
		}
	}
	for _, a := range wides() {
		check(a)
	}
	for _, n := range ints() { // the squares, and their neighbours
		for _, by := range []int{-1, 0, 1} {
			a, _ := Add(Mul(n, n), Of(by))
			check(a)
		}
	}
	for n := range 1000 {
		check(Of(n))
	}
}

func TestSqrtEdges(t *testing.T) { // P1.2
	for i, c := range []struct {
		a    api.Wide
		want int
		ok   bool
	}{
		{Of(0), 0, true},
		{Of(1), 1, true},
		{Of(3), 1, true},
		{Of(4), 2, true},
		{Of(-1), 0, false},
		{api.Wide{Hi: least}, 0, false},
		{api.Wide{Hi: 1<<62 - 1, Lo: math.MaxUint64}, most, true},
		{api.Wide{Hi: 1 << 62}, 0, false},
		{api.Wide{Hi: most, Lo: math.MaxUint64}, 0, false},
	} {
		if got, ok := Sqrt(c.a); got != c.want || ok != c.ok {
			t.Error(i, got, ok)
		}
	}
}

func TestOrder(t *testing.T) { // P1.3
	list := ints()
	for _, n := range list {
		for _, m := range list {
			for _, d := range []int{1, 2, 7, 1 << 62, most} {
				p, q := api.Frac{N: n, D: d}, api.Frac{N: m, D: most - d + 1}
				want := big.NewRat(int64(p.N), int64(p.D)).Cmp(big.NewRat(int64(q.N), int64(q.D)))
				if got, ok := Order(p, q); got != want || !ok {
					t.Fatal(p, q, got, ok)
				}
			}
		}
	}
}

func TestOrderEdges(t *testing.T) { // P1.3
	endless := api.Frac{N: 1}
	for i, c := range []struct {
		p, q api.Frac
		want int
		ok   bool
	}{
		{api.Frac{N: 1, D: 3}, api.Frac{N: 2, D: 6}, 0, true},
		{api.Frac{N: 0, D: 1}, api.Frac{N: 0, D: most}, 0, true},
		{api.Frac{N: most, D: most - 1}, api.Frac{N: most - 1, D: most - 2}, -1, true},
		{api.Frac{N: least, D: 1}, api.Frac{N: least, D: 2}, -1, true},
		{endless, api.Frac{N: most, D: 1}, 1, true},
		{api.Frac{N: least, D: 1}, endless, -1, true},
		{endless, endless, 0, true},
		{api.Frac{}, api.Frac{N: 1, D: 1}, 0, false},
		{api.Frac{N: 1, D: 1}, api.Frac{}, 0, false},
		{api.Frac{N: 2}, endless, 0, false},
		{endless, api.Frac{N: -1}, 0, false},
		{api.Frac{N: 1, D: -1}, api.Frac{N: 1, D: 2}, 0, false},
		{api.Frac{N: 1, D: 2}, api.Frac{N: 1, D: least}, 0, false},
		{api.Frac{N: 2, D: -1}, api.Frac{N: 3, D: -1}, 0, false},
	} {
		if got, ok := Order(c.p, c.q); got != c.want || ok != c.ok {
			t.Error(i, got, ok)
		}
	}
}

func TestAnyArguments(t *testing.T) { // P1: each call answers at all numbers
	list := ints()
	for _, x := range list {
		for _, y := range list {
			a := api.Wide{Hi: int64(x), Lo: uint64(y)}
			Int(a)
			Neg(a)
			Sqrt(a)
			Div(a, x)
			Div(a, y)
			Add(a, a)
			Cmp(a, Of(x))
			Mul(x, y)
			Order(api.Frac{N: x, D: y}, api.Frac{N: y, D: x})
		}
	}
}
