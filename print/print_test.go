package print

import (
	"math"
	"reflect"
	"slices"
	"strings"
	"testing"

	"relievo/api"
	"relievo/scene"
)

// A text as Show writes it, with something of each kind.
const (
	eye   = "camera 1 -2 3 -4 5 -6 7 -8 9 -10 11 -12 13 14 3 8\n"
	sky   = "sky 1 2 3\n"
	whole = eye + sky +
		"light 1 -2 3 4 5 6\n" +
		"light -7 8 -9 10 11 12\n" +
		"texture t 2 3 1 2 3 4 5 255\n" +
		"texture u_1. 1 1 0\n" +
		"material m 1 2 3 4 5 6 7 256\n" +
		"material n 255 254 253 252 51 128 128 64\n" +
		"cage c n 2 65536 u_1. 255\n" +
		"v 1 -2 3\n" +
		"v -4 5 -6\n" +
		"v 7 -8 9\n" +
		"v 16384 -16384 0\n" +
		"f 0 1 2\n" +
		"f 3 2 1 0\n" +
		"f 0 1 2 3 0 1 2 3\n" +
		"crease 2 0 255\n" +
		"crease 0 3 1\n" +
		"cage d m 0 1 - 0\n" +
		"cage e m 1 2 t 3\n" +
		"v 0 0 0\n" +
		"f 0 0 0\n"
)

// parsed: the scene of a text that is right.
func parsed(t testing.TB, text string) api.Scene {
	t.Helper()
	s, no, e := scene.Parse(text)
	if no != 0 || e != api.OK {
		t.Fatalf("%.200q %d %d", text, no, e)
	}
	return s
}

// shown: does Show answer this text?
func shown(t *testing.T, s api.Scene, want string) {
	t.Helper()
	if text, e := Show(s); text != want || e != api.OK {
		t.Errorf("%.300q %d, not %.300q", text, e, want)
	}
}

// refused: does Show answer ErrRange, and nothing else?
func refused(t *testing.T, s api.Scene) {
	t.Helper()
	if text, e := Show(s); text != "" || e != api.ErrRange {
		t.Errorf("%.300q %d", text, e)
	}
}

func TestByHand(t *testing.T) { // P7.1: the lines of each kind
	camera := api.Camera{Eye: api.V{X: 1, Y: -2, Z: 3}, First: api.V{X: -4, Y: 5, Z: -6}, Right: api.V{X: 7, Y: -8, Z: 9}, Down: api.V{X: -10, Y: 11, Z: -12}, W: 13, H: 14, Grid: 3, Depth: 8}
	s := api.Scene{Camera: camera}
	// A sky of noughts is told, too.
	shown(t, s, eye+"sky 0 0 0\n")
	s.Sky = api.Color{R: 1, G: 2, B: 3}
	shown(t, s, eye+sky)
	s.Lights = []api.Light{
		{At: api.V{X: 1, Y: -2, Z: 3}, Color: api.Color{R: 4, G: 5, B: 6}},
		{At: api.V{X: -7, Y: 8, Z: -9}, Color: api.Color{R: 10, G: 11, B: 12}},
	}
	s.Texs = []api.Tex{{Name: "t", W: 2, H: 3, Rows: []int{1, 2, 3, 4, 5, 255}}, {Name: "u_1.", W: 1, H: 1, Rows: []int{0}}}
	s.Mats = []api.Mat{
		{Name: "m", Color: api.Color{R: 1, G: 2, B: 3}, Shine: 4, Sharp: 5, Mirror: 6, Clear: 7, Ior: 256},
		{Name: "n", Color: api.Color{R: 255, G: 254, B: 253}, Shine: 252, Sharp: 51, Mirror: 128, Clear: 128, Ior: 64},
	}
	head, _, _ := strings.Cut(whole, "cage")
	shown(t, s, head)
	s.Skins = []api.Skin{
		{Name: "c", Mat: 1, Levels: 2, Unit: 65536, Tex: 1, Height: 255},
		{Name: "d", Mat: 0, Unit: 1, Tex: -1},
		{Name: "e", Mat: 0, Levels: 1, Unit: 2, Tex: 0, Height: 3},
	}
	s.Cages = []api.Cage{{
		Verts:   []api.V{{X: 1, Y: -2, Z: 3}, {X: -4, Y: 5, Z: -6}, {X: 7, Y: -8, Z: 9}, {X: 16384, Y: -16384}},
		Faces:   [][]int{{0, 1, 2}, {3, 2, 1, 0}, {0, 1, 2, 3, 0, 1, 2, 3}},
		Creases: []api.Crease{{A: 2, B: 0, S: 255}, {A: 0, B: 3, S: 1}},
	}, {}, {Verts: []api.V{{}}, Faces: [][]int{{0, 0, 0}}}}
	shown(t, s, whole)
}

func TestRead(t *testing.T) { // P7.1, P7.2: a text that was read is told in the document's order, without what tells nothing
	for text, want := range map[string]string{
		whole: whole,
		// The chapter's example.
		"sky 1 2 3#x\n" + eye: eye + sky,
		eye:                   eye + "sky 0 0 0\n",
		// Layer 6's example.
		"camera 0 0 -9 0 0 8 1 0 0 0 1 0 2 2 1 0":                                "camera 0 0 -9 0 0 8 1 0 0 0 1 0 2 2 1 0\nsky 0 0 0\n",
		"# a\n\n  camera  1 -2 3   -4 5 -6 7 -8 9 -10 11 -12 13 14 3 8 # b\n#\n": eye + "sky 0 0 0\n",
		"#\n" + strings.ReplaceAll(whole, "\n", " # v 1 2\n\n"):                  whole,
		strings.ReplaceAll(whole, " ", "   "):                                    whole,
		strings.TrimSuffix(whole, "\n"):                                          whole,
		// The kinds come in another order, each one's own order stays.
		"material b 0 0 0 0 1 0 0 64\nlight 1 0 0 0 0 0\ntexture z 1 1 1\nmaterial a 0 0 0 0 1 0 0 64\ntexture y 1 1 2\nlight 0 0 0 0 0 0\n" + sky + eye: eye + sky +
			"light 1 0 0 0 0 0\nlight 0 0 0 0 0 0\ntexture z 1 1 1\ntexture y 1 1 2\nmaterial b 0 0 0 0 1 0 0 64\nmaterial a 0 0 0 0 1 0 0 64\n",
		// Of a cage the vertices come first, and the creases last; what is told between cages comes ahead of them.
		"material b 0 0 0 0 1 0 0 64\ncage z b 0 1 - 0\nv 1 0 0\nf 0 0 0\nv 0 1 0\ncrease 1 0 9\nmaterial a 0 0 0 0 1 0 0 64\nv 0 0 1\nf 2 1 0\ntexture t 1 1 1\ncrease 0 2 8\nv 0 0 2\n" + sky + "cage y a 0 1 t 0\nv 5 5 5\n" + eye: eye + sky +
			"texture t 1 1 1\nmaterial b 0 0 0 0 1 0 0 64\nmaterial a 0 0 0 0 1 0 0 64\ncage z b 0 1 - 0\nv 1 0 0\nv 0 1 0\nv 0 0 1\nv 0 0 2\nf 0 0 0\nf 2 1 0\ncrease 1 0 9\ncrease 0 2 8\ncage y a 0 1 t 0\nv 5 5 5\n",
		// Materials, textures and cages may have one name.
		eye + "material a 0 0 0 0 1 0 0 64\ntexture a 1 1 0\ncage a a 0 1 a 0\n": eye + "sky 0 0 0\ntexture a 1 1 0\nmaterial a 0 0 0 0 1 0 0 64\ncage a a 0 1 a 0\n",
	} {
		shown(t, parsed(t, text), want)
	}
}

func TestNothing(t *testing.T) { // P7.1: a scene of noughts has lines, but Parse answers another error for them
	refused(t, api.Scene{})
	s := parsed(t, whole)
	s.Camera = api.Camera{}
	refused(t, s)
	refused(t, api.Scene{Sky: s.Sky, Lights: s.Lights, Mats: s.Mats, Texs: s.Texs})
	shown(t, api.Scene{Camera: api.Camera{W: 1, H: 1, Grid: 1}}, "camera 0 0 0 0 0 0 0 0 0 0 0 0 1 1 1 0\nsky 0 0 0\n")
}

func TestPlaces(t *testing.T) { // P7.1: each Mat and Tex is a place there is, or a Tex -1
	ends := []int{math.MinInt, math.MinInt + 1, -1 << 32, -3, -2, -1, 0, 1, 2, 3, 1 << 32, math.MaxInt}
	for i := range 3 {
		for _, n := range ends {
			s := parsed(t, whole)
			s.Skins[i].Mat = n
			if n == 0 || n == 1 {
				shown(t, s, told(s))
			} else {
				refused(t, s)
			}
			s = parsed(t, whole)
			s.Skins[i].Tex = n
			if -1 <= n && n <= 1 {
				shown(t, s, told(s))
			} else {
				refused(t, s)
			}
		}
	}
	// Without any there is no place.
	for _, mat := range []int{-1, 0, 1} {
		refused(t, api.Scene{Camera: parsed(t, eye).Camera, Skins: []api.Skin{{Name: "c", Mat: mat, Unit: 1, Tex: -1}}, Cages: make([]api.Cage, 1)})
	}
	for _, tex := range []int{-2, -1, 0, 1} {
		s := parsed(t, eye+"material m 0 0 0 0 1 0 0 64\ncage c m 0 1 - 0\n")
		s.Skins[0].Tex = tex
		if tex == -1 {
			shown(t, s, eye+"sky 0 0 0\nmaterial m 0 0 0 0 1 0 0 64\ncage c m 0 1 - 0\n")
		} else {
			refused(t, s)
		}
	}
}

func TestCagesAndSkins(t *testing.T) { // P7.1: as many Cages as Skins
	for skins := range 4 {
		for cages := range 4 {
			s := parsed(t, whole)
			s.Skins, s.Cages = s.Skins[:skins], s.Cages[:cages]
			if skins == cages {
				shown(t, s, told(s))
			} else {
				refused(t, s)
			}
		}
	}
	s := parsed(t, whole)
	s.Cages = append(s.Cages, api.Cage{})
	refused(t, s)
	s.Skins = append(s.Skins, api.Skin{Name: "f", Unit: 1, Tex: -1})
	shown(t, s, whole+"cage f m 0 1 - 0\n")
	refused(t, api.Scene{Camera: s.Camera, Cages: s.Cages})
	refused(t, api.Scene{Camera: s.Camera, Mats: s.Mats, Texs: s.Texs, Skins: s.Skins})
}

func TestNames(t *testing.T) { // P7.1: names that are none, that are twice, and that hold more than a name
	put := []func(s *api.Scene, name string){
		func(s *api.Scene, name string) { s.Texs[1].Name = name },
		func(s *api.Scene, name string) { s.Mats[1].Name = name },
		func(s *api.Scene, name string) { s.Skins[1].Name = name },
	}
	good := []string{"a", "z", "a.b_2", "abcdefghijklmnop", "v", "f", "cage", "sky"}
	bad := []string{
		"", "-", " ", "1", "_", ".", "A", "a-", "abcdefghijklmnopq", "a b", "a ", " a", "a  ", "a\n", "\na", "\n", "a#", "#", "a#b", "a\x00", "\xff", "é", "a\t",
		"t 1 1 0\ntexture s", "n 0 0 0 0 1 0 0 64\nmaterial s", "d m 0 1 - 0\ncage s", "a\nv 1 2 3\n", "a 1 1 0 # ", "a #", "d m 0 1 - 0\n#", "d m 0 1 - 0 #", "u_1. 1 1 0 #", "u_1. 1 1 0\n#", "n 255 254 253 252 51 128 128 64 #", "n 255 254 253 252 51 128 128 64\n#",
	}
	for kind, change := range put {
		for _, name := range good {
			s := parsed(t, whole)
			change(&s, name)
			shown(t, s, told(s))
		}
		for _, name := range append(bad, []string{"t", "m", "c"}[kind], []string{"t", "m", "e"}[kind]) {
			s := parsed(t, whole)
			change(&s, name)
			refused(t, s)
		}
		// Another kind's name may be the same.
		for other, name := range []string{"t", "m", "c"} {
			s := parsed(t, whole)
			change(&s, name)
			if kind != other {
				shown(t, s, told(s))
			}
		}
	}
}

func TestLinesInNames(t *testing.T) { // P7.1: a name with lines in it makes a text that is right, but of another scene
	s := parsed(t, eye+"material m 0 0 0 0 1 0 0 64\n")
	s.Mats[0].Name = "n 0 0 0 0 1 0 0 64\nmaterial m"
	refused(t, s)
	s = parsed(t, eye+"material m 0 0 0 0 1 0 0 64\ncage c m 0 1 - 0\n")
	s.Skins[0].Name = "b m 0 1 - 0\ncage c"
	refused(t, s)
	s.Skins[0].Name = " c"
	refused(t, s)
	s = parsed(t, eye+"texture t 1 1 0\n")
	for _, name := range []string{"t 1 1 0#", "t 1 1 0 #", "t 1 1 0\n#", " t", "t ", "\ntexture t", "s 1 1 5\ntexture t"} {
		s.Texs[0].Name = name
		refused(t, s)
	}
	// Two scenes that would have one text: that of the first.
	const both = "texture s 1 1 0\ntexture t 1 1 0\n"
	shown(t, parsed(t, eye+both), eye+"sky 0 0 0\n"+both)
	s.Texs[0].Name = "s 1 1 0\ntexture t"
	refused(t, s)
}

func TestTextures(t *testing.T) { // P7.1: as many texels as W times H
	for w := -2; w <= 18; w++ {
		for h := -2; h <= 18; h++ {
			for _, off := range []int{-1, 0, 1} {
				if w*h+off < 0 {
					continue
				}
				s := parsed(t, eye)
				s.Texs = []api.Tex{{Name: "t", W: w, H: h, Rows: slices.Repeat([]int{255}, w*h+off)}}
				if off == 0 && 1 <= w && w <= 16 && 1 <= h && h <= 16 {
					shown(t, s, told(s))
				} else {
					refused(t, s)
				}
			}
		}
	}
	// A product that goes round is none, and texels that aren't there are none.
	for _, tex := range []api.Tex{{Name: "t"}, {Name: "t", W: 1, H: 1}, {Name: "t", W: 1 << 32, H: 1 << 32}, {Name: "t", W: math.MinInt, H: 2}, {Name: "t", W: 2, H: 2, Rows: []int{1, 2}}, {Name: "t", W: 1, H: 1, Rows: []int{256}}, {Name: "t", W: 1, H: 1, Rows: []int{-1}}} {
		s := parsed(t, eye)
		s.Texs = []api.Tex{tex}
		refused(t, s)
	}
}

func TestFaces(t *testing.T) { // P7.1: 3 to 8 sides, of the cage's own vertices, wherever in its list those stand
	for n := range 12 {
		s := parsed(t, whole)
		s.Cages[0].Faces[1] = slices.Repeat([]int{3}, n)
		if 3 <= n && n <= 8 {
			shown(t, s, told(s))
		} else {
			refused(t, s)
		}
	}
	for _, face := range [][]int{{0, 1, 4}, {-1, 0, 1}, {4, 0, 1}, {0, 1, 2, 3, 0, 1, 2, 4}, {0, 1, math.MaxInt}, {math.MinInt, 0, 1}, nil, {}} {
		s := parsed(t, whole)
		s.Cages[0].Faces[1] = face
		refused(t, s)
	}
	s := parsed(t, whole)
	s.Cages[1].Faces = [][]int{{0, 0, 0}} // that of a cage without vertices
	refused(t, s)
	s.Cages[1].Verts = make([]api.V, 1)
	shown(t, s, told(s))
	for _, k := range []api.Crease{{A: 0, B: 0, S: 1}, {A: 1, B: 1, S: 9}, {A: 0, B: 4, S: 1}, {A: 4, B: 0, S: 1}, {A: -1, B: 0, S: 1}, {A: 0, B: 1}, {A: 0, B: 1, S: 256}, {A: 0, B: 1, S: -1}} {
		s := parsed(t, whole)
		s.Cages[0].Creases[1] = k
		refused(t, s)
	}
}

func TestLimits(t *testing.T) { // P7.1: as many of each kind as the limit, and one more
	name := func(i int) string { return "n" + string(rune('a'+i)) }
	for _, l := range []struct {
		most int
		add  func(s *api.Scene, i int)
	}{
		{4, func(s *api.Scene, i int) { s.Lights = append(s.Lights, api.Light{}) }},
		{4, func(s *api.Scene, i int) {
			s.Texs = append(s.Texs, api.Tex{Name: name(i), W: 1, H: 1, Rows: []int{i}})
		}},
		{8, func(s *api.Scene, i int) { s.Mats = append(s.Mats, api.Mat{Name: name(i), Sharp: 1, Ior: 64}) }},
		{7, func(s *api.Scene, i int) { // one is there
			s.Skins = append(s.Skins, api.Skin{Name: name(i), Unit: 1, Tex: -1})
			s.Cages = append(s.Cages, api.Cage{})
		}},
		{62, func(s *api.Scene, i int) { s.Cages[0].Verts = append(s.Cages[0].Verts, api.V{X: i}) }}, // two are there
		{64, func(s *api.Scene, i int) { s.Cages[0].Faces = append(s.Cages[0].Faces, []int{0, 1, 0}) }},
		{128, func(s *api.Scene, i int) { s.Cages[0].Creases = append(s.Cages[0].Creases, api.Crease{A: 1, S: 1}) }},
	} {
		s := parsed(t, eye+"material m 0 0 0 0 1 0 0 64\ncage c m 0 1 - 0\nv 0 0 0\nv 0 0 0\n")
		if l.most == 8 {
			s.Mats, s.Skins, s.Cages = nil, nil, nil
		}
		for i := range l.most + 3 {
			l.add(&s, i)
			if i < l.most {
				shown(t, s, told(s))
			} else {
				refused(t, s)
			}
		}
	}
}

func TestEmptyLists(t *testing.T) { // P7.1: an empty list and none are one
	s := parsed(t, eye+"material m 0 0 0 0 1 0 0 64\ncage c m 0 1 - 0\n")
	const want = eye + "sky 0 0 0\nmaterial m 0 0 0 0 1 0 0 64\ncage c m 0 1 - 0\n"
	s.Lights, s.Texs, s.Cages[0] = nil, nil, api.Cage{}
	shown(t, s, want)
	s.Lights, s.Texs, s.Cages[0] = []api.Light{}, []api.Tex{}, api.Cage{Verts: []api.V{}, Faces: [][]int{}, Creases: []api.Crease{}}
	shown(t, s, want)
	shown(t, api.Scene{Camera: s.Camera, Mats: []api.Mat{}, Skins: []api.Skin{}}, eye+"sky 0 0 0\n")
	shown(t, api.Scene{Camera: s.Camera, Cages: []api.Cage{}}, eye+"sky 0 0 0\n")
}

// largest: a scene of as many bytes as there can be.
func largest() api.Scene {
	name := func(i int) string { return "abcdefghijklmno" + string(rune('a'+i)) }
	far, color := api.V{X: -16384, Y: -16384, Z: -16384}, api.Color{R: 255, G: 255, B: 255}
	s := api.Scene{Camera: api.Camera{Eye: far, First: far, Right: api.V{X: -32, Y: -32, Z: -32}, Down: api.V{X: -32, Y: -32, Z: -32}, W: 64, H: 64, Grid: 4, Depth: 8}, Sky: color}
	for i := range 8 {
		if i < 4 {
			s.Lights = append(s.Lights, api.Light{At: far, Color: color})
			s.Texs = append(s.Texs, api.Tex{Name: name(i), W: 16, H: 16, Rows: slices.Repeat([]int{255}, 256)})
		}
		s.Mats = append(s.Mats, api.Mat{Name: name(i), Color: color, Shine: 256, Sharp: 64, Mirror: 128, Clear: 128, Ior: 1024})
		s.Skins = append(s.Skins, api.Skin{Name: name(i), Mat: i, Levels: 2, Unit: 65536, Tex: i / 2, Height: 255})
		s.Cages = append(s.Cages, api.Cage{
			Verts:   slices.Repeat([]api.V{far}, 64),
			Faces:   slices.Repeat([][]int{slices.Repeat([]int{63}, 8)}, 64),
			Creases: slices.Repeat([]api.Crease{{A: 63, B: 62, S: 255}}, 128),
		})
	}
	return s
}

func TestLargest(t *testing.T) { // P7.2: the longest text of all is none that is too long
	s := largest()
	shown(t, s, told(s))
	shown(t, parsed(t, told(s)), told(s))
}

func TestFar(t *testing.T) { // P1, P7.1: of any size, and where lists share their memory; each ends, long before all that it tells is gone through
	long := strings.Repeat("a", 1<<24)
	many := make([]int, 1<<20)
	verts := make([]api.V, 1<<20)
	faces := slices.Repeat([][]int{many}, 1<<14)
	cages := func(c api.Cage) api.Scene {
		s := parsed(t, whole)
		s.Skins = slices.Repeat(s.Skins[1:2], 1<<17)
		s.Cages = slices.Repeat([]api.Cage{c}, 1<<17)
		return s
	}
	all := []api.Scene{
		cages(api.Cage{}), cages(api.Cage{Verts: verts}), cages(api.Cage{Faces: faces}), cages(api.Cage{Faces: make([][]int, 1<<20)}), cages(api.Cage{Creases: make([]api.Crease, 1<<20)}),
	}
	for _, change := range []func(s *api.Scene){
		func(s *api.Scene) { s.Lights = make([]api.Light, 1<<20) },
		func(s *api.Scene) { s.Texs = slices.Repeat([]api.Tex{{Name: long, Rows: many}}, 1<<20) },
		func(s *api.Scene) { s.Texs[0].Rows = many },
		func(s *api.Scene) { s.Texs[0].Name = long },
		func(s *api.Scene) { s.Mats = slices.Repeat([]api.Mat{{Name: long}}, 1<<20) },
		func(s *api.Scene) { s.Mats = make([]api.Mat, 1<<20) },
		func(s *api.Scene) { s.Mats[0].Name, s.Skins[0].Name, s.Texs[1].Name = long, long, long },
		func(s *api.Scene) { s.Skins = slices.Repeat([]api.Skin{{Name: long}}, 1<<20) },
		func(s *api.Scene) { s.Cages[0].Verts = verts },
		func(s *api.Scene) { s.Cages[0].Faces = faces },
		func(s *api.Scene) { s.Cages[0].Faces = make([][]int, 1<<20) },
		func(s *api.Scene) { s.Cages[0].Faces[0] = many },
		func(s *api.Scene) { s.Cages[0].Creases = make([]api.Crease, 1<<20) },
	} {
		s := parsed(t, whole)
		change(&s)
		all = append(all, s)
	}
	for _, s := range all {
		refused(t, s)
	}
}

func TestLengths(t *testing.T) { // P7.1: texts about as long as Parse takes, and longer, of a scene that is none
	s := parsed(t, eye)
	s.Texs = []api.Tex{{Name: "t", W: 1, H: 1, Rows: []int{0}}}
	ahead := len(told(s))
	for n := api.MaxText - ahead - 3; n <= api.MaxText-ahead+3; n++ {
		s.Texs[0].Name = "t" + strings.Repeat(" ", n)
		refused(t, s)
		s.Texs[0].Name = "t 1 1 0" + strings.Repeat("#", n)
		refused(t, s)
	}
}

// spare: a list with something behind its length.
func spare[T any](list []T, more T) []T {
	return append(slices.Clone(list), more, more)[:len(list)]
}

// roomy: a scene with something behind the length of each list.
func roomy(s api.Scene) api.Scene {
	for i := range s.Texs {
		s.Texs[i].Rows = spare(s.Texs[i].Rows, 77)
	}
	for i, c := range s.Cages {
		for j, face := range c.Faces {
			c.Faces[j] = spare(face, 2)
		}
		s.Cages[i] = api.Cage{Verts: spare(c.Verts, api.V{X: 7}), Faces: spare(c.Faces, []int{0, 1, 2}), Creases: spare(c.Creases, api.Crease{A: 1, S: 7})}
	}
	s.Lights = spare(s.Lights, api.Light{Color: api.Color{R: 7}})
	s.Mats = spare(s.Mats, api.Mat{Name: "z", Sharp: 1, Ior: 64})
	s.Texs = spare(s.Texs, api.Tex{Name: "z", W: 1, H: 1, Rows: []int{0}})
	s.Skins = spare(s.Skins, api.Skin{Name: "z", Unit: 1, Tex: -1})
	s.Cages = spare(s.Cages, api.Cage{})
	return s
}

// copied: a copy of a list; whole: with what lies behind its length.
func copied[T any](list []T, whole bool) []T {
	if whole {
		list = list[:cap(list)]
	}
	return slices.Clone(list)
}

// another: a scene that shares nothing with the first; whole: with what lies behind its lists' lengths.
func another(s api.Scene, whole bool) api.Scene {
	s.Lights, s.Mats, s.Texs = copied(s.Lights, whole), copied(s.Mats, whole), copied(s.Texs, whole)
	s.Skins, s.Cages = copied(s.Skins, whole), copied(s.Cages, whole)
	for i, x := range s.Texs {
		s.Texs[i].Rows = copied(x.Rows, whole)
	}
	for i, c := range s.Cages {
		s.Cages[i] = api.Cage{Verts: copied(c.Verts, whole), Faces: copied(c.Faces, whole), Creases: copied(c.Creases, whole)}
		for j, face := range s.Cages[i].Faces {
			s.Cages[i].Faces[j] = copied(face, whole)
		}
	}
	return s
}

func TestAsItWas(t *testing.T) { // P7.2: what is handed in is as it was, behind the lists' lengths too, whether it is shown or not
	changes := []func(s *api.Scene){
		func(s *api.Scene) {},
		func(s *api.Scene) { s.Camera.W = 65 },
		func(s *api.Scene) { s.Skins[2].Tex = 2 },
		func(s *api.Scene) { s.Cages = s.Cages[:2] },
		func(s *api.Scene) { s.Mats[1].Name = "m" },
		func(s *api.Scene) { s.Cages[2].Faces[0][1] = 1 },
		func(s *api.Scene) { s.Texs[0].Rows = append(s.Texs[0].Rows, make([]int, 1<<16)...) },
	}
	for i, change := range changes {
		s := roomy(parsed(t, whole))
		change(&s)
		was := another(s, true)
		text, e := Show(s)
		if i == 0 && (text != whole || e != api.OK) || i > 0 && (text != "" || e != api.ErrRange) {
			t.Errorf("%d %.200q %d", i, text, e)
		}
		if !reflect.DeepEqual(another(s, true), was) {
			t.Error(i, "is changed")
		}
	}
}

func TestNewText(t *testing.T) { // P7.1: nothing is kept: whatever is done to a scene that was shown, its text stays, and the next one is its own
	s := parsed(t, whole)
	text, e := Show(s)
	clear(s.Lights)
	clear(s.Texs[0].Rows)
	clear(s.Cages[0].Verts)
	if text != whole || e != api.OK {
		t.Errorf("%q %d", text, e)
	}
	if again, e := Show(s); again == whole || again != told(s) || e != api.OK {
		t.Errorf("%q %d", again, e)
	}
	s.Camera.Grid = 0
	refused(t, s)
	shown(t, parsed(t, whole), whole)
}
