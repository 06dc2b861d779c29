package scene

import (
	"reflect"
	"slices"
	"strconv"
	"strings"
	"testing"

	"relievo/api"
	"relievo/lex"
)

// Lines that are right, each behind those above it.
const (
	eye      = "camera 1 2 -9 0 0 8 1 0 0 0 1 0 2 3 1 4\n"
	paint    = "material m 1 2 3 4 5 6 7 256\n"
	grain    = "texture t 2 1 7 8\n"
	cage     = "cage c m 1 2 t 3\n"
	corners  = "v 0 0 0\nv 1 0 0\nv 0 1 0\nv 1 1 0\n"
	whole    = eye + paint + grain + cage + corners
	wholeEnd = 8 // the number of the last line of whole
)

// dice: numbers that look like any, the same at each run.
type dice uint64

// below: a number from 0 on, below a bound.
func (r *dice) below(bound int) int {
	*r = *r*6364136223846793005 + 1442695040888963407
	return int(uint64(*r)>>33) % bound
}

// pick: one of some things.
func pick[T any](r *dice, list ...T) T { return list[r.below(len(list))] }

// tidy: the scene, with a nil list for each empty one.
func tidy(s api.Scene) api.Scene {
	s.Lights = append([]api.Light(nil), s.Lights...)
	s.Mats = append([]api.Mat(nil), s.Mats...)
	s.Texs = append([]api.Tex(nil), s.Texs...)
	s.Skins = append([]api.Skin(nil), s.Skins...)
	s.Cages = append([]api.Cage(nil), s.Cages...)
	for i, c := range s.Cages {
		s.Cages[i] = api.Cage{Verts: append([]api.V(nil), c.Verts...), Faces: append([][]int(nil), c.Faces...), Creases: append([]api.Crease(nil), c.Creases...)}
	}
	return s
}

// same: are two scenes one, an empty list and none too?
func same(a, b api.Scene) bool { return reflect.DeepEqual(tidy(a), tidy(b)) }

// wrong: does Parse tell this error, at this line, and nothing else?
func wrong(t *testing.T, text string, no int, errno api.Errno) {
	t.Helper()
	s, n, e := Parse(text)
	if n != no || e != errno || !reflect.DeepEqual(s, api.Scene{}) {
		t.Errorf("%.200q %d %d, not %d %d; %v", text, n, e, no, errno, s)
	}
}

// right: does Parse answer this scene?
func right(t *testing.T, text string, want api.Scene) {
	t.Helper()
	if s, n, e := Parse(text); n != 0 || e != api.OK || !same(s, want) {
		t.Errorf("%.200q %d %d %v, not %v", text, n, e, s, want)
	}
}

// fine: does Parse find nothing wrong?
func fine(t *testing.T, text string) api.Scene {
	t.Helper()
	s, n, e := Parse(text)
	if n != 0 || e != api.OK {
		t.Errorf("%.200q %d %d", text, n, e)
	}
	return s
}

func TestByHand(t *testing.T) { // P6.1: what lines tell
	camera := api.Camera{Eye: api.V{X: 1, Y: 2, Z: -9}, First: api.V{Z: 8}, Right: api.V{X: 1}, Down: api.V{Y: 1}, W: 2, H: 3, Grid: 1, Depth: 4}
	// The chapter's example.
	right(t, "camera 0 0 -9 0 0 8 1 0 0 0 1 0 2 2 1 0", api.Scene{Camera: api.Camera{Eye: api.V{Z: -9}, First: api.V{Z: 8}, Right: api.V{X: 1}, Down: api.V{Y: 1}, W: 2, H: 2, Grid: 1}})
	right(t, "camera 1 -2 3 -4 5 -6 7 -8 9 -10 11 -12 13 14 3 8", api.Scene{Camera: api.Camera{
		Eye: api.V{X: 1, Y: -2, Z: 3}, First: api.V{X: -4, Y: 5, Z: -6}, Right: api.V{X: 7, Y: -8, Z: 9}, Down: api.V{X: -10, Y: 11, Z: -12}, W: 13, H: 14, Grid: 3, Depth: 8}})
	right(t, eye, api.Scene{Camera: camera})
	right(t, "sky 1 2 3\n"+eye, api.Scene{Camera: camera, Sky: api.Color{R: 1, G: 2, B: 3}})
	right(t, eye+"sky 0 0 0", api.Scene{Camera: camera})
	right(t, eye+"light -1 2 -3 4 5 6\nlight 7 8 9 10 11 12", api.Scene{Camera: camera, Lights: []api.Light{
		{At: api.V{X: -1, Y: 2, Z: -3}, Color: api.Color{R: 4, G: 5, B: 6}}, {At: api.V{X: 7, Y: 8, Z: 9}, Color: api.Color{R: 10, G: 11, B: 12}}}})
	right(t, eye+"texture a.b_2 2 3 1 2 3 4 5 6\ntexture z 1 1 0", api.Scene{Camera: camera, Texs: []api.Tex{
		{Name: "a.b_2", W: 2, H: 3, Rows: []int{1, 2, 3, 4, 5, 6}}, {Name: "z", W: 1, H: 1, Rows: []int{0}}}})
	right(t, eye+"material m 1 2 3 4 5 6 7 256", api.Scene{Camera: camera, Mats: []api.Mat{
		{Name: "m", Color: api.Color{R: 1, G: 2, B: 3}, Shine: 4, Sharp: 5, Mirror: 6, Clear: 7, Ior: 256}}})
	full := api.Scene{Camera: camera,
		Mats:  []api.Mat{{Name: "m", Color: api.Color{R: 1, G: 2, B: 3}, Shine: 4, Sharp: 5, Mirror: 6, Clear: 7, Ior: 256}},
		Texs:  []api.Tex{{Name: "t", W: 2, H: 1, Rows: []int{7, 8}}},
		Skins: []api.Skin{{Name: "c", Mat: 0, Levels: 1, Unit: 2, Tex: 0, Height: 3}},
		Cages: []api.Cage{{Verts: []api.V{{}, {X: 1}, {Y: 1}, {X: 1, Y: 1}}}}}
	right(t, whole, full)
	// Faces and creases, of vertices told till then; a vertex may stand in a face twice.
	full.Cages[0].Verts = append(full.Cages[0].Verts, api.V{X: -5, Y: -6, Z: 7})
	full.Cages[0].Faces = [][]int{{0, 1, 2}, {2, 1, 3, 0}, {4, 4, 4}, {0, 1, 2, 3, 4, 0, 1, 2}}
	full.Cages[0].Creases = []api.Crease{{A: 3, B: 0, S: 1}, {A: 0, B: 3, S: 255}}
	right(t, whole+"f 0 1 2\nf 2 1 3 0\ncrease 3 0 1\nv -5 -6 7\nf 4 4 4\ncrease 0 3 255\nf 0 1 2 3 4 0 1 2\n", full)
	// Blanks, empty lines and remarks tell nothing.
	right(t, "# x\n\n  "+strings.ReplaceAll(strings.ReplaceAll(whole, " ", "   "), "\n", " # v 1 2\n\n")+
		"f 0 1 2\nf 2 1 3 0\ncrease 3 0 1\nv -5 -6 7\nf 4 4 4\ncrease 0 3 255\nf 0 1 2 3 4 0 1 2#0", full)
}

func TestPlaces(t *testing.T) { // P6.1: materials and textures are told by places, "-" by -1
	s := fine(t, eye+"material a 0 0 0 0 1 0 0 64\nmaterial b 0 0 0 0 1 0 0 64\nmaterial c 0 0 0 0 1 0 0 64\ntexture b 1 1 0\ntexture c 1 1 0\ntexture a 1 1 0\n"+
		"cage a a 0 1 a 0\ncage b b 0 1 b 0\ncage c c 0 1 c 0\ncage d c 0 1 - 0\ncage e a 0 1 c 0\n")
	var got [][2]int
	for _, k := range s.Skins {
		got = append(got, [2]int{k.Mat, k.Tex})
	}
	if !slices.Equal(got, [][2]int{{0, 2}, {1, 0}, {2, 1}, {2, -1}, {0, 1}}) || len(s.Cages) != 5 {
		t.Error(got, len(s.Cages))
	}
}

func TestBelonging(t *testing.T) { // P6.1: what follows a cage belongs to it, up to the next one, whatever stands between
	s := fine(t, eye+paint+"cage c m 0 1 - 0\nv 1 1 1\nlight 0 0 0 0 0 0\nv 2 2 2\nsky 0 0 0\nv 3 3 3\ntexture t 1 1 1\ncrease 0 1 2\nmaterial n 0 0 0 0 1 0 0 64\nf 0 1 2\ncage d n 0 1 t 0\nv 4 4 4\nv 5 5 5\ncrease 1 0 3\ncage e m 0 1 - 0\ncage g m 0 1 - 0\nv 6 6 6\nf 0 0 0\n")
	want := []api.Cage{
		{Verts: []api.V{{X: 1, Y: 1, Z: 1}, {X: 2, Y: 2, Z: 2}, {X: 3, Y: 3, Z: 3}}, Faces: [][]int{{0, 1, 2}}, Creases: []api.Crease{{A: 0, B: 1, S: 2}}},
		{Verts: []api.V{{X: 4, Y: 4, Z: 4}, {X: 5, Y: 5, Z: 5}}, Creases: []api.Crease{{A: 1, B: 0, S: 3}}},
		{},
		{Verts: []api.V{{X: 6, Y: 6, Z: 6}}, Faces: [][]int{{0, 0, 0}}},
	}
	if !same(api.Scene{Cages: s.Cages}, api.Scene{Cages: want}) {
		t.Error(s.Cages)
	}
}

// lines: of each kind one that is right behind whole (but for a camera, which stands alone), its numbers' bounds, and -1 where a word isn't a number.
var lines = []struct {
	ahead, text string
	bounds      [][2]int
}{
	{"", "camera 1 2 -9 0 0 8 1 0 0 0 1 0 2 3 1 4", slices.Concat(
		slices.Repeat([][2]int{{-16384, 16384}}, 6), slices.Repeat([][2]int{{-32, 32}}, 6), [][2]int{{1, 64}, {1, 64}, {1, 4}, {0, 8}})},
	{whole, "sky 1 2 3", slices.Repeat([][2]int{{0, 255}}, 3)},
	{whole, "light 1 -2 3 4 5 6", slices.Concat(slices.Repeat([][2]int{{-16384, 16384}}, 3), slices.Repeat([][2]int{{0, 255}}, 3))},
	{whole, "texture u 2 3 1 2 3 4 5 6", slices.Concat([][2]int{{0, -1}, {0, -1}, {0, -1}}, slices.Repeat([][2]int{{0, 255}}, 6))},
	{whole, "material n 1 2 3 4 5 0 0 256", [][2]int{{0, -1}, {0, 255}, {0, 255}, {0, 255}, {0, 256}, {1, 64}, {0, 256}, {0, 256}, {64, 1024}}},
	{whole, "cage d m 1 2 t 3", [][2]int{{0, -1}, {0, -1}, {0, 2}, {1, 65536}, {0, -1}, {0, 255}}},
	{whole, "cage d m 1 2 - 3", [][2]int{{0, -1}, {0, -1}, {0, 2}, {1, 65536}, {0, -1}, {0, 255}}},
	{whole, "v 1 2 3", slices.Repeat([][2]int{{-16384, 16384}}, 3)},
	{whole, "f 0 1 2", slices.Repeat([][2]int{{0, 3}}, 3)},
	{whole, "f 0 1 2 3 0 1 2 3", slices.Repeat([][2]int{{0, 3}}, 8)},
	{whole, "crease 2 1 9", [][2]int{{0, -1}, {0, -1}, {1, 255}}},
}

// lineAt: the number that a line has behind what stands ahead of it.
func lineAt(ahead string) int { return strings.Count(ahead, "\n") + 1 }

func TestBounds(t *testing.T) { // P6.1: all ends of all bounds, and beyond
	for _, l := range lines {
		words := strings.Fields(l.text)
		for i, b := range l.bounds {
			if b[1] < b[0] {
				continue
			}
			put := func(n int) string {
				changed := slices.Clone(words)
				changed[i+1] = strconv.Itoa(n)
				return l.ahead + strings.Join(changed, " ")
			}
			for _, n := range []int{b[0], b[1], (b[0] + b[1]) / 2} {
				fine(t, put(n))
			}
			for _, n := range []int{b[0] - 1, b[1] + 1, -999999, 999999} {
				wrong(t, put(n), lineAt(l.ahead), api.ErrRange)
			}
		}
	}
}

func TestWordsThatMustBe(t *testing.T) { // P6.1: ErrSyntax for a word that isn't a number or a name
	bad := map[bool][]string{
		true:  {"x", "-", "+1", "01", "-0", "1000000", "1.0", "--1", "1-", "0x1", "m", "t", "1,", "A"},
		false: {"-", "1", "M", "_", ".a", "a-", "aA", "abcdefghijklmnopq", "1a", "0"},
	}
	for _, l := range lines {
		words := strings.Fields(l.text)
		for i := range words[1:] {
			_, number := lex.Number(words[i+1])
			for _, word := range bad[number] {
				if words[0] == "cage" && i == 4 && word == "-" {
					continue
				}
				changed := slices.Clone(words)
				changed[i+1] = word
				wrong(t, l.ahead+strings.Join(changed, " "), lineAt(l.ahead), api.ErrSyntax)
			}
		}
	}
}

func TestCounts(t *testing.T) { // P6.1: ErrSyntax for too few words, and for too many
	for _, l := range lines {
		words := strings.Fields(l.text)
		fine(t, l.ahead+l.text)
		for n := 1; n < len(words); n++ {
			if words[0] == "f" && n > 3 {
				continue
			}
			wrong(t, l.ahead+strings.Join(words[:n], " ")+"\n", lineAt(l.ahead), api.ErrSyntax)
		}
		for _, more := range []string{"0", "1", "a", "-", "0 0", strings.Repeat("0 ", 30000)} {
			if words[0] == "f" && len(words) < 9 && (more == "0" || more == "1" || more == "0 0") {
				fine(t, l.ahead+l.text+" "+more)
				continue
			}
			wrong(t, l.ahead+l.text+" "+more, lineAt(l.ahead), api.ErrSyntax)
		}
	}
	for n := range 20 {
		text := whole + "f" + strings.Repeat(" 1", n)
		if 3 <= n && n <= 8 {
			fine(t, text)
		} else {
			wrong(t, text, wholeEnd+1, api.ErrSyntax)
		}
	}
}

func TestFirstWords(t *testing.T) { // P6.1: ErrSyntax for a first word that is none of these
	for _, word := range []string{"x", "Camera", "CAMERA", "camera1", "cameras", "cam", "vv", "V", "F", "vt", "vn", "face", "vertex", "creases", "Sky", "skies", "mat", "tex", "lights", "cages", "-", "0", "1", "v1", ".", "\"v\"", "v,"} {
		wrong(t, word, 1, api.ErrSyntax)
		wrong(t, whole+word, wholeEnd+1, api.ErrSyntax)
		for n := range 20 {
			wrong(t, whole+word+strings.Repeat(" 1", n), wholeEnd+1, api.ErrSyntax)
		}
	}
}

func TestTextures(t *testing.T) { // P6.1: W times H texels, all sizes; their number is a matter of the syntax, their size of the bounds
	for w := -3; w <= 20; w++ {
		for h := -3; h <= 20; h++ {
			for _, off := range []int{0, -1, 1} {
				if w*h+off < 0 {
					continue
				}
				text := eye + "texture t " + strconv.Itoa(w) + " " + strconv.Itoa(h) + strings.Repeat(" 9", w*h+off)
				if off != 0 {
					wrong(t, text, 2, api.ErrSyntax)
				} else if w < 1 || w > 16 || h < 1 || h > 16 {
					wrong(t, text, 2, api.ErrRange)
				} else if s := fine(t, text); len(s.Texs) != 1 || s.Texs[0].W != w || s.Texs[0].H != h || !slices.Equal(s.Texs[0].Rows, slices.Repeat([]int{9}, w*h)) {
					t.Error(w, h, s.Texs)
				}
			}
		}
	}
	for text, errno := range map[string]api.Errno{
		"texture": api.ErrSyntax, "texture t": api.ErrSyntax, "texture t 1": api.ErrSyntax, "texture t 1 1": api.ErrSyntax, "texture t 1 x 1": api.ErrSyntax, "texture t x 1 1": api.ErrSyntax, "texture 1 1 1 1": api.ErrSyntax,
		"texture t 999999 999999": api.ErrSyntax, "texture t 999999 999999 1": api.ErrSyntax, "texture t -999999 999999": api.ErrSyntax, "texture t 0 0": api.ErrRange, "texture t 0 999999": api.ErrRange, "texture t 0 0 0": api.ErrSyntax,
		// No number of texels is below 0.
		"texture t -1 2": api.ErrSyntax, "texture t 3 -1 0": api.ErrSyntax, "texture t -1 -1": api.ErrSyntax, "texture t -1 -2 0 0": api.ErrRange,
		"texture t 1 1 256": api.ErrRange, "texture t 1 1 -1": api.ErrRange, "texture t 2 2 0 0 0 256": api.ErrRange, "texture t 2 2 256 0 0 0": api.ErrRange, "texture t 2 2 0 0 -1 0": api.ErrRange, "texture t 2 2 0 0 0 x": api.ErrSyntax,
	} {
		wrong(t, eye+text, 2, errno)
	}
}

func TestMirrorAndClear(t *testing.T) { // P6.1: both together no more than 256
	for _, mirror := range []int{-1, 0, 1, 2, 127, 128, 129, 254, 255, 256, 257} {
		for clear := -2; clear <= 258; clear++ {
			text := eye + "material m 0 0 0 256 1 " + strconv.Itoa(mirror) + " " + strconv.Itoa(clear) + " 64"
			if mirror < 0 || clear < 0 || mirror+clear > 256 {
				wrong(t, text, 2, api.ErrRange)
			} else if s := fine(t, text); len(s.Mats) != 1 || s.Mats[0].Mirror != mirror || s.Mats[0].Clear != clear {
				t.Error(mirror, clear, s.Mats)
			}
		}
	}
}

func TestTillThen(t *testing.T) { // P6.1: faces and creases are of the vertices told till then, of the last cage
	const ahead = eye + paint + "cage c m 0 1 - 0\n"
	for n := range 65 {
		verts := ahead + strings.Repeat("v 0 0 0\n", n)
		no := lineAt(verts)
		last, next := strconv.Itoa(n-1), strconv.Itoa(n)
		wrong(t, verts+"f "+next+" 0 0\nv 0 0 0\n", no, api.ErrRange)
		wrong(t, verts+"f 0 0 "+next+"\n", no, api.ErrRange)
		wrong(t, verts+"f -1 0 0\n", no, api.ErrRange)
		wrong(t, verts+"crease "+next+" 0 1\nv 0 0 0\n", no, api.ErrRange)
		wrong(t, verts+"crease 0 "+next+" 1\n", no, api.ErrRange)
		wrong(t, verts+"crease -1 0 1\n", no, api.ErrRange)
		wrong(t, verts+"crease 0 -1 1\n", no, api.ErrRange)
		wrong(t, verts+"crease 0 0 1\n", no, api.ErrRange)
		wrong(t, verts+"crease "+last+" "+last+" 1\n", no, api.ErrRange)
		if n > 0 {
			fine(t, verts+"f "+last+" "+last+" "+last)
		}
		if n > 1 {
			fine(t, verts+"crease 0 "+last+" 1\ncrease "+last+" 0 1\n")
		}
		// Those of the cage ahead are not the next one's.
		wrong(t, verts+"cage d m 0 1 - 0\nf 0 0 0\n", no+1, api.ErrRange)
		wrong(t, verts+"cage d m 0 1 - 0\ncrease 0 1 1\n", no+1, api.ErrRange)
	}
}

// many: a line of a kind some times, with a name of its own where it has one.
func many(line string, times int) string {
	var b strings.Builder
	for i := range times {
		b.WriteString(strings.ReplaceAll(line, "@", "n"+strconv.Itoa(i)) + "\n")
	}
	return b.String()
}

func TestLimits(t *testing.T) { // P6.1: as many of each kind as the limit, and one more
	const ahead = eye + paint + "cage c m 0 1 - 0\nv 0 0 0\nv 0 0 0\n"
	for _, l := range []struct {
		ahead, line string
		most        int
	}{
		{eye, "light 0 0 0 0 0 0", 4},
		{eye, "texture @ 1 1 0", 4},
		{eye, "material @ 0 0 0 0 1 0 0 64", 8},
		{eye + paint, "cage @ m 0 1 - 0", 8},
		{eye + paint + "cage c m 0 1 - 0\n", "v 0 0 0", 64},
		{ahead, "f 0 0 0", 64},
		{ahead, "f 0 1 0 1 0 1 0 1", 64},
		{ahead, "crease 0 1 1", 128},
	} {
		fine(t, l.ahead+many(l.line, l.most))
		wrong(t, l.ahead+many(l.line, l.most+1), lineAt(l.ahead)+l.most, api.ErrLimit)
		wrong(t, l.ahead+many(l.line, l.most+9), lineAt(l.ahead)+l.most, api.ErrLimit)
	}
	// The next cage has its own.
	full := "cage @ m 0 1 - 0\n" + many("v 0 0 0", 64) + many("f 0 63 1", 64) + many("crease 0 63 1", 128)
	s := fine(t, eye+paint+many(full, 8))
	for _, c := range s.Cages {
		if len(c.Verts) != 64 || len(c.Faces) != 64 || len(c.Creases) != 128 {
			t.Error(len(c.Verts), len(c.Faces), len(c.Creases))
		}
	}
	for _, line := range []string{"v 0 0 0", "f 0 0 0", "crease 0 1 1"} {
		text := eye + paint + many(full, 8)
		wrong(t, text+line, lineAt(text), api.ErrLimit)
	}
}

func TestOrder(t *testing.T) { // P6.1: of what is wrong with one line the first tells
	lights, texs, mats, cages := many("light 0 0 0 0 0 0", 4), many("texture @ 1 1 0", 4), many("material @ 0 0 0 0 1 0 0 64", 8), many("cage @ m 0 1 - 0", 8)
	const c = "cage c m 0 1 - 0\n"
	for _, w := range []struct {
		ahead, line string
		errno       api.Errno
	}{
		// The syntax ahead of all others.
		{eye, "camera 1 2 -9 0 0 8 1 0 0 0 1 0 2 3 1", api.ErrSyntax}, {eye, "camera 99999 2 -9 0 0 8 1 0 0 0 1 0 2 3 1 x", api.ErrSyntax}, {eye + "sky 0 0 0\n", "sky 0 256 x", api.ErrSyntax}, {"", "sky 256 256 256 256", api.ErrSyntax},
		{"", "v 1 2", api.ErrSyntax}, {"", "v 1 2 x", api.ErrSyntax}, {"", "v 1 2 3 4", api.ErrSyntax}, {"", "f 0 1", api.ErrSyntax}, {"", "f 0 1 x", api.ErrSyntax}, {"", "f 0 1 2 3 4 5 6 7 8", api.ErrSyntax}, {"", "crease 0 1", api.ErrSyntax}, {"", "crease 0 1 -", api.ErrSyntax},
		{lights, "light 0 0 0 0 0", api.ErrSyntax}, {lights, "light 99999 0 0 0 0 x", api.ErrSyntax}, {texs, "texture n0 1 1", api.ErrSyntax}, {texs, "texture n0 1 99 x", api.ErrSyntax}, {mats, "material n0 0 0 0 0 1 0 0", api.ErrSyntax}, {mats, "material n0 999 0 0 0 1 0 0 x", api.ErrSyntax}, {mats, "material N 999 0 0 0 1 0 0 0", api.ErrSyntax},
		{paint + cages, "cage n0 x 9 9 -", api.ErrSyntax}, {paint + cages, "cage n0 x 9 9 y -", api.ErrSyntax}, {paint + cages, "cage n0 x 9 9 Y 0", api.ErrSyntax}, {paint + cages, "cage n0 - 9 9 y 0", api.ErrSyntax}, {paint + cages, "cage - x 9 9 y 0", api.ErrSyntax},
		{paint + c + many("v 0 0 0", 64), "v 0 99999 x", api.ErrSyntax}, {paint + c + "v 0 0 0\n" + many("f 0 0 0", 64), "f 9 9 x", api.ErrSyntax}, {paint + c + "v 0 0 0\nv 0 0 0\n" + many("crease 0 1 1", 128), "crease 9 9 x", api.ErrSyntax},
		// No cage, ahead of the bounds.
		{"", "v 99999 0 0", api.ErrLost}, {"", "f 0 0 0", api.ErrLost}, {"", "f -1 99 0 7", api.ErrLost}, {"", "crease 0 0 0", api.ErrLost}, {eye + paint + grain, "crease 0 1 1", api.ErrLost}, {eye + paint + grain, "v 0 0 0", api.ErrLost},
		// Too many, ahead of names and bounds.
		{lights, "light 99999 0 0 0 0 0", api.ErrLimit}, {texs, "texture n0 1 1 1", api.ErrLimit}, {texs, "texture n0 1 1 256", api.ErrLimit}, {texs, "texture x 17 1" + strings.Repeat(" 0", 17), api.ErrLimit}, {mats, "material n7 0 0 0 0 1 0 0 64", api.ErrLimit}, {mats, "material x 0 0 0 0 1 200 200 64", api.ErrLimit},
		{paint + cages, "cage n3 m 0 1 - 0", api.ErrLimit}, {paint + cages, "cage x y 0 1 - 0", api.ErrLimit}, {paint + cages, "cage x m 0 1 y 0", api.ErrLimit}, {paint + cages, "cage x m 3 0 - 256", api.ErrLimit},
		{paint + c + many("v 0 0 0", 64), "v 0 0 16385", api.ErrLimit}, {paint + c + "v 0 0 0\n" + many("f 0 0 0", 64), "f 0 0 1", api.ErrLimit}, {paint + c + "v 0 0 0\nv 0 0 0\n" + many("crease 0 1 1", 128), "crease 1 1 0", api.ErrLimit},
		// A second one and names, ahead of bounds.
		{eye, eye, api.ErrName}, {eye, "camera 99999 2 -9 0 0 8 1 0 0 0 1 0 2 65 5 9", api.ErrName}, {"sky 0 0 0\n", "sky 0 0 0", api.ErrName}, {"sky 1 2 3\n", "sky 0 0 256", api.ErrName}, {eye + "sky 0 0 0\n", "sky 1 2 3", api.ErrName},
		{grain, "texture t 1 1 0", api.ErrName}, {grain, "texture t 1 1 256", api.ErrName}, {grain, "texture t 0 9", api.ErrName}, {paint, paint, api.ErrName}, {paint, "material m 0 0 0 0 0 200 200 0", api.ErrName},
		{paint + c, c, api.ErrName}, {paint + c, "cage c m 9 0 - 0", api.ErrName}, {paint, "cage c x 0 1 - 0", api.ErrName}, {paint, "cage c x 3 0 - 999", api.ErrName}, {paint, "cage c m 0 1 x 0", api.ErrName}, {paint, "cage c m 3 0 x 999", api.ErrName},
		// Names of one kind are none of another one's; what is told later was not told.
		{paint, "cage c m 0 1 m 0", api.ErrName}, {grain, "cage c t 0 1 t 0", api.ErrName}, {paint + c, "cage d c 0 1 - 0", api.ErrName}, {paint + c, "cage d m 0 1 c 0", api.ErrName}, {paint, "cage m m 0 1 t 0\n" + grain, api.ErrName}, {"", c + paint, api.ErrName},
	} {
		wrong(t, w.ahead+w.line, lineAt(w.ahead), w.errno)
		// It holds whatever comes behind it.
		wrong(t, w.ahead+w.line+"\nx", lineAt(w.ahead), w.errno)
	}
}

func TestFirstLine(t *testing.T) { // P6.1: of several lines the first tells; the text's error ahead of all
	wrong(t, "x\n"+eye+"y", 1, api.ErrSyntax)
	wrong(t, eye+"sky 0 0 256\nx", 2, api.ErrRange)
	wrong(t, eye+"# \n\n\nv 0 0 0\nx", 5, api.ErrLost)
	wrong(t, "sky 256 0 0", 1, api.ErrRange)
	wrong(t, "x\n\t", 2, api.ErrSyntax)
	wrong(t, "x\ny\n"+eye+"#\x00", 4, api.ErrSyntax)
	wrong(t, eye+"v 0 0 0\n\x7f", 3, api.ErrSyntax)
	wrong(t, "x\n"+strings.Repeat("\n", api.MaxText), 0, api.ErrLimit)
	wrong(t, eye+strings.Repeat(" ", api.MaxText-len(eye)+1), 0, api.ErrLimit)
	fine(t, eye+strings.Repeat(" ", api.MaxText-len(eye)))
	wrong(t, strings.Repeat("v\n", api.MaxText/2), 1, api.ErrSyntax)
	wrong(t, eye+strings.Repeat("\n", api.MaxText-len(eye)-1)+"x", api.MaxText-len(eye)+1, api.ErrSyntax)
}

func TestNoCamera(t *testing.T) { // P6.1: ErrLost and 0, behind all
	for _, text := range []string{"", "\n", " ", "#", "# " + eye, "sky 0 0 0", paint, paint + grain + cage + corners + "f 0 1 2\n", strings.Repeat("\n", api.MaxText), "light 0 0 0 0 0 0"} {
		wrong(t, text, 0, api.ErrLost)
	}
	fine(t, paint+grain+cage+corners+eye)
	fine(t, paint+grain+cage+"v 1 2 3\n"+eye+"v 4 5 6\n")
	// A camera of noughts, as far as it may have some, was told too, and so was a sky.
	const dark = "camera 0 0 0 0 0 0 0 0 0 0 0 0 1 1 1 0\n"
	right(t, dark, api.Scene{Camera: api.Camera{W: 1, H: 1, Grid: 1}})
	wrong(t, dark+dark, 2, api.ErrName)
	wrong(t, dark+"sky 0 0 0\nsky 0 0 0", 3, api.ErrName)
}

func TestNames(t *testing.T) { // P6.1: names of any length that there is; one is another one's beginning; kinds have their own
	long := "abcdefghijklmnop"
	for n := 1; n <= 16; n++ {
		name := long[:n]
		s := fine(t, eye+"material "+name+" 0 0 0 0 1 0 0 64\ntexture "+name+" 1 1 0\ncage "+name+" "+name+" 0 1 "+name+" 0")
		if s.Mats[0].Name != name || s.Texs[0].Name != name || s.Skins[0].Name != name || s.Skins[0].Mat != 0 || s.Skins[0].Tex != 0 {
			t.Error(name, s)
		}
	}
	s := fine(t, eye+many("material @ 0 0 0 0 1 0 0 64", 2)+"material n 0 0 0 0 1 0 0 64\nmaterial n00 0 0 0 0 1 0 0 64\nmaterial n0. 0 0 0 0 1 0 0 64\ncage n00 n0. 0 1 - 0\ncage n0 n 0 1 - 0\ncage n n00 0 1 - 0\n")
	if len(s.Skins) != 3 || s.Skins[0].Mat != 4 || s.Skins[1].Mat != 2 || s.Skins[2].Mat != 3 {
		t.Error(s.Skins)
	}
}
