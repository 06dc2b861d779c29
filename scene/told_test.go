package scene

import (
	"reflect"
	"regexp"
	"slices"
	"strconv"
	"strings"
	"testing"
	"unsafe"

	"relievo/api"
	"relievo/lex"
)

var (
	// What a line must look like behind its first word: a number is 9, a name a, a "-" b.
	forms = map[string]*regexp.Regexp{
		"camera":   regexp.MustCompile("^( 9){16}$"),
		"sky":      regexp.MustCompile("^( 9){3}$"),
		"light":    regexp.MustCompile("^( 9){6}$"),
		"texture":  regexp.MustCompile("^ a( 9){2,}$"),
		"material": regexp.MustCompile("^ a( 9){8}$"),
		"cage":     regexp.MustCompile("^ a a 9 9 [ab] 9$"),
		"v":        regexp.MustCompile("^( 9){3}$"),
		"f":        regexp.MustCompile("^( 9){3,8}$"),
		"crease":   regexp.MustCompile("^( 9){3}$"),
	}
	number = regexp.MustCompile(`^(0|-?[1-9][0-9]{0,5})$`)
	name   = regexp.MustCompile(`^[a-z][a-z0-9_.]{0,15}$`)
)

// looks: a line's words but the first, as the letters of forms.
func looks(words []string) string {
	out := ""
	for _, word := range words {
		switch {
		case number.MatchString(word):
			out += " 9"
		case name.MatchString(word):
			out += " a"
		case word == "-":
			out += " b"
		default:
			out += " ?"
		}
	}
	return out
}

// account: what the lines till now told, by kinds and names, beside the scene.
type account struct {
	s     api.Scene
	count map[string]int
	names map[string]int // the place of each name, behind its kind
}

// told: what Parse has to answer: of each line all that is wrong is gathered, and the first of it told.
func told(text string) (api.Scene, int, api.Errno) {
	lines, no, errno := lex.Lines(text)
	if errno != 0 {
		return api.Scene{}, no, errno
	}
	a := &account{count: map[string]int{}, names: map[string]int{}}
	for _, l := range lines {
		kind, rest := l.Words[0], l.Words[1:]
		form := forms[kind]
		if form == nil || !form.MatchString(looks(rest)) {
			return api.Scene{}, l.No, api.ErrSyntax
		}
		var n []int
		for _, word := range rest {
			if m, err := strconv.Atoi(word); err == nil {
				n = append(n, m)
			}
		}
		if kind == "texture" && len(n) != 2+n[0]*n[1] {
			return api.Scene{}, l.No, api.ErrSyntax
		}
		if all := a.faults(kind, rest, n); len(all) > 0 {
			for _, errno := range []api.Errno{api.ErrLost, api.ErrLimit, api.ErrName, api.ErrRange} {
				if all[errno] {
					return api.Scene{}, l.No, errno
				}
			}
		}
		a.add(kind, rest, n)
	}
	if a.count["camera"] == 0 {
		return api.Scene{}, 0, api.ErrLost
	}
	return a.s, 0, 0
}

// faults: all that is wrong with a line that looks right.
func (a *account) faults(kind string, words []string, n []int) map[api.Errno]bool {
	all := map[api.Errno]bool{}
	most := map[string]int{"light": 4, "texture": 4, "material": 8, "cage": 8, "v": 64, "f": 64, "crease": 128}
	part := kind == "v" || kind == "f" || kind == "crease"
	all[api.ErrLost] = part && a.count["cage"] == 0
	if m, ok := most[kind]; ok {
		all[api.ErrLimit] = a.count[kind] >= m
	} else {
		all[api.ErrName] = a.count[kind] > 0
	}
	there := func(kind, name string) bool {
		_, ok := a.names[kind+" "+name]
		return ok
	}
	if kind == "texture" || kind == "material" || kind == "cage" {
		all[api.ErrName] = there(kind, words[0])
	}
	if kind == "cage" {
		all[api.ErrName] = all[api.ErrName] || !there("material", words[1]) || words[4] != "-" && !there("texture", words[4])
	}
	all[api.ErrRange] = a.outside(kind, n)
	for errno, is := range all {
		if !is {
			delete(all, errno)
		}
	}
	return all
}

// outside: is a number out of its bounds?
func (a *account) outside(kind string, n []int) bool {
	last := a.count["v"] - 1
	var b []int // least, most, how many times; and so on
	switch kind {
	case "camera":
		b = []int{-16384, 16384, 6, -32, 32, 6, 1, 64, 2, 1, 4, 1, 0, 8, 1}
	case "sky":
		b = []int{0, 255, 3}
	case "light":
		b = []int{-16384, 16384, 3, 0, 255, 3}
	case "texture":
		b = []int{1, 16, 2, 0, 255, 1 << 16}
	case "material":
		b = []int{0, 255, 3, 0, 256, 1, 1, 64, 1, 0, 256, 2, 64, 1024, 1}
	case "cage":
		b = []int{0, 2, 1, 1, 65536, 1, 0, 255, 1}
	case "v":
		b = []int{-16384, 16384, 3}
	case "f":
		b = []int{0, last, 8}
	case "crease":
		b = []int{0, last, 2, 1, 255, 1}
	}
	for _, m := range n {
		if m < b[0] || m > b[1] {
			return true
		}
		if b[2]--; b[2] == 0 {
			b = b[3:]
		}
	}
	return kind == "material" && n[5]+n[6] > 256 || kind == "crease" && n[0] == n[1]
}

// add: what a right line adds.
func (a *account) add(kind string, words []string, n []int) {
	a.names[kind+" "+words[0]] = a.count[kind]
	a.count[kind]++
	v := func(i int) api.V { return api.V{X: n[i], Y: n[i+1], Z: n[i+2]} }
	c := func(i int) api.Color { return api.Color{R: n[i], G: n[i+1], B: n[i+2]} }
	s := &a.s
	switch kind {
	case "camera":
		s.Camera = api.Camera{Eye: v(0), First: v(3), Right: v(6), Down: v(9), W: n[12], H: n[13], Grid: n[14], Depth: n[15]}
	case "sky":
		s.Sky = c(0)
	case "light":
		s.Lights = append(s.Lights, api.Light{At: v(0), Color: c(3)})
	case "texture":
		s.Texs = append(s.Texs, api.Tex{Name: words[0], W: n[0], H: n[1], Rows: n[2:]})
	case "material":
		s.Mats = append(s.Mats, api.Mat{Name: words[0], Color: c(0), Shine: n[3], Sharp: n[4], Mirror: n[5], Clear: n[6], Ior: n[7]})
	case "cage":
		tex, ok := a.names["texture "+words[4]]
		if !ok {
			tex = -1
		}
		s.Skins = append(s.Skins, api.Skin{Name: words[0], Mat: a.names["material "+words[1]], Levels: n[0], Unit: n[1], Tex: tex, Height: n[2]})
		s.Cages = append(s.Cages, api.Cage{})
		a.count["v"], a.count["f"], a.count["crease"] = 0, 0, 0
	default:
		last := &s.Cages[len(s.Cages)-1]
		switch kind {
		case "v":
			last.Verts = append(last.Verts, v(0))
		case "f":
			last.Faces = append(last.Faces, n)
		case "crease":
			last.Creases = append(last.Creases, api.Crease{A: n[0], B: n[1], S: n[2]})
		}
	}
}

// hold: does Parse answer what it has to?
func hold(t *testing.T, text string) {
	t.Helper()
	want, wantNo, wantE := told(text)
	if s, n, e := Parse(text); n != wantNo || e != wantE || !same(s, want) {
		t.Fatalf("%q\n%d %d %v\n%d %d %v", text, n, e, s, wantNo, wantE, want)
	}
}

// maker makes lines that are mostly right: it keeps the names that were told, by kinds.
type maker struct {
	dice
	names map[string][]string
}

// between: a word of a number.
func (r *maker) between(least, most int) string {
	return " " + strconv.Itoa(least+r.below(max(most-least+1, 1)))
}

// some: some words of numbers.
func (r *maker) some(times, least, most int) string {
	out := ""
	for range times {
		out += r.between(least, most)
	}
	return out
}

// name: a new name of a kind; seldom an old one.
func (r *maker) name(kind string) string {
	name := " " + pick(&r.dice, "a", "b_", "c.", "d") + strconv.Itoa(r.below(50))
	r.names[kind] = append(r.names[kind], name)
	return name
}

// told: a name of a kind that was told; seldom another one.
func (r *maker) told(kind string) string {
	if r.below(60) == 0 || len(r.names[kind]) == 0 {
		return " a"
	}
	return pick(&r.dice, r.names[kind]...)
}

// line: a line of a kind.
func (r *maker) line(kind string, verts int) string {
	switch kind {
	case "camera":
		return kind + r.some(6, -16384, 16384) + r.some(6, -32, 32) + r.some(2, 1, 64) + r.between(1, 4) + r.between(0, 8)
	case "sky":
		return kind + r.some(3, 0, 255)
	case "light":
		return kind + r.some(3, -16384, 16384) + r.some(3, 0, 255)
	case "texture":
		w, h := 1+r.below(3), 1+r.below(3)
		return kind + r.name(kind) + r.between(w, w) + r.between(h, h) + r.some(w*h, 0, 255)
	case "material":
		return kind + r.name(kind) + r.some(3, 0, 255) + r.between(0, 256) + r.between(1, 64) + r.some(2, 0, 128) + r.between(64, 1024)
	case "cage":
		return kind + r.name(kind) + r.told("material") + r.between(0, 2) + r.between(1, 65536) + pick(&r.dice, " -", r.told("texture")) + r.between(0, 255)
	case "v":
		return kind + r.some(3, -16384, 16384)
	case "f":
		return kind + r.some(3+r.below(6), 0, verts-1)
	default:
		a := r.below(max(verts, 1))
		return "crease" + r.between(a, a) + " " + strconv.Itoa((a+1)%max(verts, 1)) + r.between(1, 255)
	}
}

// spoil: a line, with something changed.
func (r *maker) spoil(line string) string {
	words := strings.Split(line, " ")
	at := r.below(len(words))
	switch r.below(5) {
	case 0:
		return strings.Join(slices.Delete(words, at, at+1), " ")
	case 1:
		return strings.Join(slices.Insert(words, at, pick(&r.dice, "0", "x", "-", "9")), " ")
	default:
		words[at] = pick(&r.dice, "-1", "0", "1", "3", "17", "33", "65", "256", "257", "1025", "16385", "-16385", "65537", "999999", "1000000", "x", "-", "v", "a", "#", "00", "sky", "A", "\t")
		return strings.Join(words, " ")
	}
}

// text: a scene's text, of lines of all kinds; some of a hundred of them are spoiled.
func (r *maker) text(count, spoiled int) string {
	r.names = map[string][]string{}
	text := []string{r.line("camera", 0), r.line("sky", 0)}
	for range 2 {
		text = append(text, r.line("material", 0), r.line("texture", 0), r.line("light", 0))
	}
	verts := 0
	for i := range count {
		kind := pick(&r.dice, "cage", "v", "v", "v", "v", "v", "f", "f", "crease", "crease")
		switch {
		case i == 0 && r.below(20) > 0:
			kind = "cage"
		case r.below(60) == 0:
			kind = pick(&r.dice, "light", "texture", "material", "sky", "camera")
		case verts < 2 && kind != "cage":
			kind = "v"
		}
		if kind == "cage" {
			verts = 0
		}
		text = append(text, r.line(kind, verts))
		verts += strings.Count(kind, "v")
	}
	for i, line := range text {
		if r.below(100) < spoiled {
			text[i] = r.spoil(line)
		}
	}
	return strings.Join(text, "\n")
}

func TestAll(t *testing.T) { // P6.1
	var r maker
	met := map[api.Errno]int{}
	for range 6000 {
		text := r.text(r.below(40), pick(&r.dice, 0, 0, 1, 3))
		hold(t, text)
		_, _, e := told(text)
		met[e]++
	}
	for _, e := range []api.Errno{api.OK, api.ErrSyntax, api.ErrLost, api.ErrName, api.ErrRange} {
		if met[e] < 100 {
			t.Error("too few of an error, of all", e, met)
		}
	}
}

func TestSpoiled(t *testing.T) { // P6.1: a line with something wrong in a scene that is right, and at its limits
	full := eye + "sky 1 2 3\n" + many("light 0 0 0 0 0 0", 4) + many("texture @ 1 1 0", 4) + many("material @ 0 0 0 0 1 0 0 64", 8) + many("cage @ n1 0 1 n2 0", 8) + many("v 0 0 0", 64) + many("f 0 1 2", 64) + many("crease 0 1 1", 128)
	var r maker
	parts := []string{"", whole, whole + "sky 0 0 0\n", whole + "f 0 1 2\ncrease 0 1 2\n", full}
	for _, ahead := range parts {
		for range 60000 / (10 + len(ahead)/4) {
			r.names = map[string][]string{"material": {" m", " n1"}, "texture": {" t", " n2"}}
			line := r.line(pick(&r.dice, "camera", "sky", "light", "texture", "material", "cage", "v", "f", "crease"), 4)
			if r.below(5) > 0 {
				line = r.spoil(line)
			}
			if r.below(5) == 0 {
				line = r.spoil(line)
			}
			hold(t, ahead+line+"\n"+pick(&r.dice, "", eye))
		}
	}
}

// span: the memory of a list or of a text.
type span struct{ from, to uintptr }

func (a span) meets(b span) bool { return a.from < b.to && b.from < a.to }

// room: the memory of a list, with what lies behind its length.
func room[T any](list []T) span {
	from := uintptr(unsafe.Pointer(unsafe.SliceData(list)))
	var one T
	return span{from, from + uintptr(cap(list))*unsafe.Sizeof(one)}
}

func letters(s string) span {
	from := uintptr(unsafe.Pointer(unsafe.StringData(s)))
	return span{from, from + uintptr(len(s))}
}

// rooms: the memory of all lists and texts of a scene.
func rooms(s api.Scene) []span {
	all := []span{room(s.Lights), room(s.Mats), room(s.Texs), room(s.Skins), room(s.Cages)}
	for _, m := range s.Mats {
		all = append(all, letters(m.Name))
	}
	for _, t := range s.Texs {
		all = append(all, room(t.Rows), letters(t.Name))
	}
	for _, k := range s.Skins {
		all = append(all, letters(k.Name))
	}
	for _, c := range s.Cages {
		all = append(all, room(c.Verts), room(c.Faces), room(c.Creases))
		for _, f := range c.Faces {
			all = append(all, room(f))
		}
	}
	return all
}

func TestNewMemory(t *testing.T) { // P6.2: no list shares memory with another one, with the text, or with an earlier answer
	full := eye + many("light 0 0 0 0 0 0", 4) + many("texture @ 2 2 0 1 2 3", 4) + many("material @ 0 0 0 0 1 0 0 64", 8) + many("cage @ n1 0 1 n2 0\n"+many("v 1 2 3", 20)+many("f 0 1 2 3", 20)+many("crease 0 1 1", 20), 8)
	for _, text := range []string{eye, whole, whole + many("f 0 1 2\nf 0 1 2 3", 9), full} {
		want, _, _ := told(text)
		first, second := fine(t, text), fine(t, text)
		met := []span{letters(text)}
		for _, s := range []api.Scene{first, second} {
			for _, m := range rooms(s) {
				if m.from < m.to && slices.ContainsFunc(met, m.meets) {
					t.Errorf("%.40q shares memory", text)
				}
				met = append(met, m)
			}
		}
		// Whatever is done to one answer, the next one is what it was.
		for i := range first.Cages {
			clear(first.Cages[i].Faces)
			clear(first.Cages[i].Verts)
		}
		clear(first.Texs)
		clear(first.Skins)
		if !same(second, want) || !same(fine(t, text), want) {
			t.Errorf("%.40q is changed", text)
		}
	}
}

func FuzzAnyText(f *testing.F) { // P1, P6.1: it answers at all texts
	for _, s := range []string{"", eye, whole, whole + "f 0 1 2\ncrease 0 1 2\nsky 1 2 3\nlight 1 2 3 4 5 6", "v 1 2", "texture t -1 -1 0", "\xff", "camera\n\n", "cage c m 0 1 - 0"} {
		f.Add(s)
	}
	f.Fuzz(func(t *testing.T, s string) {
		hold(t, s)
		if scene, n, e := Parse(s); e != api.OK && !reflect.DeepEqual(scene, api.Scene{}) || e == api.OK && n != 0 {
			t.Errorf("%q %d %d %v", s, n, e, scene)
		}
	})
}
