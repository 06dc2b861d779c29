package rate

import (
	"math/big"
	"testing"

	"relievo/api"
)

// dice: numbers that look like any, the same at each run.
type dice uint64

// below: a number from 0 on, below a bound.
func (r *dice) below(bound int) int {
	*r = *r*6364136223846793005 + 1442695040888963407
	return int(uint64(*r)>>33) % bound
}

// part: one within a bound, now and then at its ends.
func (r *dice) part(bound int) int {
	switch r.below(6) {
	case 0:
		return bound
	case 1:
		return -bound
	}
	return r.below(2*bound+1) - bound
}

// points: so many, all within one bound of some; now and then one that is beyond all.
func (r *dice) points(n int) []api.V {
	bound := []int{1, 2, 9, 300, 16384, 65535, 65536}[r.below(7)]
	list := make([]api.V, n)
	for k := range list {
		list[k] = api.V{X: r.part(bound), Y: r.part(bound), Z: r.part(bound)}
	}
	if r.below(4) == 0 {
		far := []int{65537, -65537, 1 << 40, most, least}[r.below(5)]
		v := &list[r.below(n)]
		*[]*int{&v.X, &v.Y, &v.Z}[r.below(3)] = far
	}
	return list
}

// told: the length by the chapter's words, in numbers of any size; nil, if there is none.
func told(p [4]api.V) *big.Int {
	var parts [3][4]*big.Int
	for k, v := range p {
		for at, part := range []int{v.X, v.Y, v.Z} {
			parts[at][k] = big.NewInt(int64(part))
			if parts[at][k].CmpAbs(big.NewInt(65536)) > 0 {
				return nil
			}
		}
	}
	sum := new(big.Int)
	for _, part := range parts {
		for k := 1; k < 4; k++ {
			way := new(big.Int).Sub(part[k], part[k-1])
			sum.Add(sum, way.Abs(way))
		}
	}
	return sum
}

// counted: the rate by the chapter's words: a unit is taken away as long as it is there, and each makes a part more.
func counted(length *big.Int, unit int) int {
	if length == nil || unit < 1 {
		return 0
	}
	left, by := new(big.Int).Set(length), big.NewInt(int64(unit))
	parts := 1
	for parts < 16 && left.Cmp(by) >= 0 {
		left.Sub(left, by)
		parts++
	}
	return parts
}

// held: does the curve answer what the chapter tells, whichever way it is told?
func held(t *testing.T, p [4]api.V, unit int) {
	t.Helper()
	length := told(p)
	for _, q := range [][4]api.V{p, backwards(p)} {
		n, ok := Length(q)
		if ok != (length != nil) || ok && length.Cmp(big.NewInt(int64(n))) != 0 || !ok && n != 0 {
			t.Fatal("Length", q, n, ok, length)
		}
		if got, want := Edge(q, unit), counted(length, unit); got != want {
			t.Fatal("Edge", q, unit, got, want)
		}
	}
}

// units: some about those at which a length's rate changes, and others.
func (r *dice) units(p [4]api.V) []int {
	list := []int{1, 2, 1 + r.below(100), 1 + r.below(1<<21), most, 0, -1 - r.below(99), least}
	if length := told(p); length != nil {
		for parts := 1; parts <= 17; parts++ {
			unit := int(length.Int64()) / parts
			list = append(list, unit-1, unit, unit+1)
		}
	}
	return list
}

func TestEdges(t *testing.T) { // P12.1, P12.2: many curves, both ways, about all units that make a difference
	r := dice(1)
	for range 4000 {
		p := [4]api.V(r.points(4))
		for _, unit := range r.units(p) {
			held(t, p, unit)
		}
	}
}

func TestSmall(t *testing.T) { // P12.1, P12.2: all curves along a line of a few places, with all units about them
	for code := range 5 * 5 * 5 * 5 {
		var p [4]api.V
		for k, left := 0, code; k < 4; k, left = k+1, left/5 {
			part := left%5 - 2
			p[k] = api.V{X: part, Y: -2 * part, Z: part * part}
		}
		for unit := -2; unit < 60; unit++ {
			held(t, p, unit)
		}
	}
}

func TestAllLengths(t *testing.T) { // P12.1: all lengths and units of a hundred
	for length := range 101 {
		for unit := 1; unit <= 101; unit++ {
			if got, want := Edge(straight(length), unit), counted(big.NewInt(int64(length)), unit); got != want {
				t.Fatal(length, unit, got, want)
			}
		}
	}
}

// turned: a patch told from its next corner on.
func turned(p [16]api.V) [16]api.V {
	var q [16]api.V
	for k := range q {
		q[k] = p[k%4*4+3-k/4]
	}
	return q
}

// tipped: a patch, rows told as columns: its sides go round the other way, each of them backwards.
func tipped(p [16]api.V) [16]api.V {
	var q [16]api.V
	for k := range q {
		q[k] = p[k%4*4+k/4]
	}
	return q
}

func TestPatches(t *testing.T) { // P12.1, P12.2: many patches, told from each corner on, and round the other way
	r := dice(2)
	for range 3000 {
		p := [16]api.V(r.points(16))
		units := r.units([4]api.V(p[:4]))
		for _, unit := range units {
			got := Sides(p, unit)
			for side, own := range sidings {
				row := [4]api.V{p[own[0]], p[own[1]], p[own[2]], p[own[3]]}
				if want := counted(told(row), unit); got[side] != want {
					t.Fatal(p, unit, side, got, want)
				}
			}
			if q := Sides(turned(p), unit); q != [4]int{got[1], got[2], got[3], got[0]} {
				t.Fatal("turned", p, unit, got, q)
			}
			if q := Sides(tipped(p), unit); q != [4]int{got[3], got[2], got[1], got[0]} {
				t.Fatal("tipped", p, unit, got, q)
			}
		}
	}
}

func FuzzAny(f *testing.F) { // P1, P12.1, P12.2: it answers at all numbers
	f.Add([]byte{0, 3, 6, 9, 1, 255, 128, 127}, 7, 5)
	f.Add([]byte{0, 0, 0, 1, 0, 0, 255}, 65536, 1)
	f.Add([]byte{1}, 65537, 1)
	f.Add([]byte{1, 255}, most, least)
	f.Add([]byte{}, 0, 0)
	f.Fuzz(func(t *testing.T, bytes []byte, scale, unit int) {
		var p [16]api.V
		for k := range min(48, len(bytes)) {
			*[]*int{&p[k/3].X, &p[k/3].Y, &p[k/3].Z}[k%3] = int(int8(bytes[k])) * scale
		}
		rates := Sides(p, unit)
		for side, own := range sidings {
			row := [4]api.V{p[own[0]], p[own[1]], p[own[2]], p[own[3]]}
			held(t, row, unit)
			if rates[side] != Edge(row, unit) {
				t.Fatal(p, unit, side, rates)
			}
		}
	})
}
