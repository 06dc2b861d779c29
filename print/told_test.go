package print

import (
	"fmt"
	"math"
	"reflect"
	"regexp"
	"slices"
	"strings"
	"testing"

	"relievo/api"
	"relievo/scene"
)

// dice: numbers that look like any, the same at each run.
type dice uint64

// below: a number from 0 on, below a bound.
func (r *dice) below(bound int) int {
	*r = *r*6364136223846793005 + 1442695040888963407
	return int(uint64(*r)>>33) % bound
}

// between: a number from the least on up to the most, an end of these more often than others.
func (r *dice) between(least, most int) int {
	switch r.below(8) {
	case 0:
		return least
	case 1:
		return most
	}
	return least + r.below(most-least+1)
}

// pick: one of some things.
func pick[T any](r *dice, list ...T) T { return list[r.below(len(list))] }

// told: the text of a scene whose places are right.
func told(s api.Scene) string {
	c := s.Camera
	out := fmt.Sprintln("camera", c.Eye.X, c.Eye.Y, c.Eye.Z, c.First.X, c.First.Y, c.First.Z, c.Right.X, c.Right.Y, c.Right.Z, c.Down.X, c.Down.Y, c.Down.Z, c.W, c.H, c.Grid, c.Depth)
	out += fmt.Sprintln("sky", s.Sky.R, s.Sky.G, s.Sky.B)
	for _, l := range s.Lights {
		out += fmt.Sprintln("light", l.At.X, l.At.Y, l.At.Z, l.Color.R, l.Color.G, l.Color.B)
	}
	for _, x := range s.Texs {
		out += fmt.Sprintln("texture", x.Name, x.W, x.H, strings.Trim(fmt.Sprint(x.Rows), "[]"))
	}
	for _, m := range s.Mats {
		out += fmt.Sprintln("material", m.Name, m.Color.R, m.Color.G, m.Color.B, m.Shine, m.Sharp, m.Mirror, m.Clear, m.Ior)
	}
	for i, k := range s.Skins {
		texture := "-"
		if k.Tex != -1 {
			texture = s.Texs[k.Tex].Name
		}
		out += fmt.Sprintln("cage", k.Name, s.Mats[k.Mat].Name, k.Levels, k.Unit, texture, k.Height)
		for _, v := range s.Cages[i].Verts {
			out += fmt.Sprintln("v", v.X, v.Y, v.Z)
		}
		for _, f := range s.Cages[i].Faces {
			out += fmt.Sprintln("f", strings.Trim(fmt.Sprint(f), "[]"))
		}
		for _, k := range s.Cages[i].Creases {
			out += fmt.Sprintln("crease", k.A, k.B, k.S)
		}
	}
	return out
}

var name = regexp.MustCompile(`\A[a-z][a-z0-9_.]{0,15}\z`)

// in: are all numbers within the bounds?
func in(least, most int, list ...int) bool {
	return !slices.ContainsFunc(list, func(n int) bool { return n < least || n > most })
}

func near(most int, list ...api.V) bool {
	return !slices.ContainsFunc(list, func(v api.V) bool { return !in(-most, most, v.X, v.Y, v.Z) })
}

func color(c api.Color) bool { return in(0, 255, c.R, c.G, c.B) }

// named: are all of these names, and none there twice?
func named(list ...string) bool {
	met := map[string]bool{}
	for _, s := range list {
		if met[s] || !name.MatchString(s) {
			return false
		}
		met[s] = true
	}
	return true
}

// whether: is a scene one that a text may tell? Asked of the scene itself, by layer 6's bounds.
func whether(s api.Scene) bool {
	c := s.Camera
	good := near(16384, c.Eye, c.First) && near(32, c.Right, c.Down) && in(1, 64, c.W, c.H) && in(1, 4, c.Grid) && in(0, 8, c.Depth) && color(s.Sky)
	good = good && len(s.Lights) <= 4 && len(s.Texs) <= 4 && len(s.Mats) <= 8 && len(s.Skins) <= 8 && len(s.Cages) == len(s.Skins)
	for _, l := range s.Lights {
		good = good && near(16384, l.At) && color(l.Color)
	}
	var texs, mats, skins []string
	for _, x := range s.Texs {
		texs = append(texs, x.Name)
		good = good && in(1, 16, x.W, x.H) && len(x.Rows) == x.W*x.H && in(0, 255, x.Rows...)
	}
	for _, m := range s.Mats {
		mats = append(mats, m.Name)
		good = good && color(m.Color) && in(0, 256, m.Shine, m.Mirror, m.Clear, m.Mirror+m.Clear) && in(1, 64, m.Sharp) && in(64, 1024, m.Ior)
	}
	for _, k := range s.Skins {
		skins = append(skins, k.Name)
		good = good && in(0, len(s.Mats)-1, k.Mat) && in(-1, len(s.Texs)-1, k.Tex) && in(0, 2, k.Levels) && in(1, 65536, k.Unit) && in(0, 255, k.Height)
	}
	for _, c := range s.Cages {
		last := len(c.Verts) - 1
		good = good && len(c.Verts) <= 64 && len(c.Faces) <= 64 && len(c.Creases) <= 128 && near(16384, c.Verts...)
		for _, f := range c.Faces {
			good = good && in(3, 8, len(f)) && in(0, last, f...)
		}
		for _, k := range c.Creases {
			good = good && in(0, last, k.A, k.B) && k.A != k.B && in(1, 255, k.S)
		}
	}
	return good && named(texs...) && named(mats...) && named(skins...)
}

// hold: does Show answer what it has to? Tells whether there was a text.
func hold(t *testing.T, s api.Scene) bool {
	t.Helper()
	good := whether(s)
	if good {
		shown(t, s, told(s))
	} else {
		refused(t, s)
	}
	return good
}

// parts: all numbers and names of a scene, each as a thing that can be set, and all lists.
func parts(v reflect.Value) (numbers, names, lists []reflect.Value) {
	var look func(v reflect.Value)
	look = func(v reflect.Value) {
		switch v.Kind() {
		case reflect.Int:
			numbers = append(numbers, v)
		case reflect.String:
			names = append(names, v)
		case reflect.Struct:
			for i := range v.NumField() {
				look(v.Field(i))
			}
		case reflect.Slice:
			lists = append(lists, v)
			for i := range v.Len() {
				look(v.Index(i))
			}
		}
	}
	look(v)
	return numbers, names, lists
}

// ends: all ends of bounds that layer 6 has, those beside them, and far ones.
func ends() []int {
	var all []int
	for _, n := range []int{0, 1, 2, 4, 8, 16, 32, 64, 255, 256, 1024, 16384, 65536, 999999, 1 << 32} {
		all = append(all, n-1, n, n+1, -n-1, -n, -n+1)
	}
	return append(all, math.MaxInt, math.MaxInt-1, math.MinInt, math.MinInt+1)
}

func TestEachNumber(t *testing.T) { // P7.1: each number of a scene, at the ends of all bounds and beyond
	s := parsed(t, whole)
	numbers, _, _ := parts(reflect.ValueOf(&s).Elem())
	met := map[bool]int{}
	for _, v := range numbers {
		was := v.Int()
		for _, n := range ends() {
			v.SetInt(int64(n))
			met[hold(t, s)]++
		}
		v.SetInt(was)
	}
	shown(t, s, whole)
	if len(numbers) < 100 || met[true] < 1000 || met[false] < 1000 {
		t.Error(len(numbers), met)
	}
}

// resize: a list with its last thing left out, with it twice, with a thing of noughts behind it, or turned round.
func resize(v reflect.Value, how int) reflect.Value {
	n := v.Len()
	out := reflect.MakeSlice(v.Type(), n, n+1)
	reflect.Copy(out, v)
	switch {
	case how == 0 && n > 0:
		return out.Slice(0, n-1)
	case how == 1 && n > 0:
		return reflect.Append(out, v.Index(n-1))
	case how == 2:
		return reflect.Append(out, reflect.Zero(v.Type().Elem()))
	case how == 3:
		for i := range n {
			out.Index(i).Set(v.Index(n - 1 - i))
		}
	}
	return out
}

func TestEachList(t *testing.T) { // P7.1: each list of a scene, shorter, longer, and turned round
	s := parsed(t, whole)
	_, _, lists := parts(reflect.ValueOf(&s).Elem())
	met := map[bool]int{}
	for _, v := range lists {
		was := reflect.ValueOf(v.Interface())
		for how := range 4 {
			v.Set(resize(was, how))
			met[hold(t, s)]++
		}
		v.Set(was)
	}
	shown(t, s, whole)
	if len(lists) < 20 || met[true] < 30 || met[false] < 20 {
		t.Error(len(lists), met)
	}
}

// someScene: a scene that a text may tell.
func (r *dice) someScene() api.Scene {
	point := func(most int) api.V {
		return api.V{X: r.between(-most, most), Y: r.between(-most, most), Z: r.between(-most, most)}
	}
	paint := func() api.Color { return api.Color{R: r.between(0, 255), G: r.between(0, 255), B: r.between(0, 255)} }
	names := 0
	name := func() string {
		names++
		return fmt.Sprint(pick(r, "a", "b_", "c.", "v", "abcdefghijklm"), names)
	}
	s := api.Scene{Camera: api.Camera{Eye: point(16384), First: point(16384), Right: point(32), Down: point(32), W: r.between(1, 64), H: r.between(1, 64), Grid: r.between(1, 4), Depth: r.between(0, 8)}, Sky: paint()}
	for range r.below(5) {
		s.Lights = append(s.Lights, api.Light{At: point(16384), Color: paint()})
	}
	for range r.below(5) {
		x := api.Tex{Name: name(), W: r.between(1, 16), H: r.between(1, 16)}
		for range x.W * x.H {
			x.Rows = append(x.Rows, r.between(0, 255))
		}
		s.Texs = append(s.Texs, x)
	}
	for range r.below(9) {
		m := api.Mat{Name: name(), Color: paint(), Shine: r.between(0, 256), Sharp: r.between(1, 64), Mirror: r.between(0, 256), Ior: r.between(64, 1024)}
		m.Clear = r.between(0, 256-m.Mirror)
		s.Mats = append(s.Mats, m)
	}
	for range r.below(9) * min(len(s.Mats), 1) {
		s.Skins = append(s.Skins, api.Skin{Name: name(), Mat: r.below(len(s.Mats)), Levels: r.between(0, 2), Unit: r.between(1, 65536), Tex: r.between(-1, len(s.Texs)-1), Height: r.between(0, 255)})
		s.Cages = append(s.Cages, r.someCage(point))
	}
	return s
}

// someCage: a cage that a text may tell.
func (r *dice) someCage(point func(most int) api.V) api.Cage {
	var c api.Cage
	for range r.between(0, pick(r, 5, 64)) {
		c.Verts = append(c.Verts, point(16384))
	}
	last := len(c.Verts) - 1
	for range r.between(0, pick(r, 5, 64)) * min(len(c.Verts), 1) {
		var face []int
		for range r.between(3, 8) {
			face = append(face, r.between(0, last))
		}
		c.Faces = append(c.Faces, face)
	}
	for range r.between(0, pick(r, 5, 128)) * min(max(last, 0), 1) {
		a := r.between(0, last)
		c.Creases = append(c.Creases, api.Crease{A: a, B: (a + r.between(1, last)) % (last + 1), S: r.between(1, 255)})
	}
	return c
}

func TestAll(t *testing.T) { // P7.1, P7.2: scenes that a text may tell, and the same with something changed
	var r dice
	met := map[bool]int{}
	for range 120 {
		s := r.someScene()
		if !whether(s) {
			t.Fatal("the test's own scene is none", s)
		}
		shown(t, s, told(s))
		shown(t, parsed(t, told(s)), told(s))
		for range 8 {
			met[hold(t, r.spoiled(s))]++
		}
	}
	if met[true] < 50 || met[false] < 200 {
		t.Error(met)
	}
}

// spoiled: a scene with one thing changed.
func (r *dice) spoiled(s api.Scene) api.Scene {
	s = another(s, false)
	numbers, names, lists := parts(reflect.ValueOf(&s).Elem())
	switch what := r.below(10); {
	case what < 6:
		pick(r, numbers...).SetInt(int64(pick(r, ends()...)))
	case what < 7 && len(names) > 0:
		pick(r, names...).SetString(pick(r, "a1", "b_2", "c.3", "-", "", "a b", "A", "a\n", "z", "abcdefghijklmnopq", "a#", names[0].String()))
	default:
		v := pick(r, lists...)
		v.Set(resize(v, r.below(4)))
	}
	return s
}

func FuzzAnyText(f *testing.F) { // P1, P7.2: each scene that Parse answers is shown, and is what it was
	for _, s := range []string{"", eye, whole, eye + "texture t 1 1 0\n#", "sky 1 2 3#x\n" + eye} {
		f.Add(s)
	}
	f.Fuzz(func(t *testing.T, text string) {
		s, _, e := scene.Parse(text)
		if e != api.OK {
			refused(t, s)
			return
		}
		was := another(s, true)
		shown(t, s, told(s))
		if !reflect.DeepEqual(another(s, true), was) {
			t.Errorf("%q is changed", text)
		}
	})
}

func FuzzAnyScene(f *testing.F) { // P1, P7.1: it answers at all names and numbers
	f.Add("t", "m", "c", 0, 0, 1)
	f.Add("t 1 1 0\ntexture s", "m", "c", -1, 0, 1)
	f.Add("-", "m 0 0 0 0 1 0 0 64\nmaterial n", " c", 1, 1, 255)
	f.Fuzz(func(t *testing.T, texture, material, cage string, tex, mat, texel int) {
		s := parsed(t, eye)
		s.Texs = []api.Tex{{Name: texture, W: 1, H: 1, Rows: []int{texel}}}
		s.Mats = []api.Mat{{Name: material, Sharp: 1, Ior: 64}}
		s.Skins = []api.Skin{{Name: cage, Mat: mat, Unit: 1, Tex: tex}}
		s.Cages = make([]api.Cage, 1)
		hold(t, s)
	})
}
