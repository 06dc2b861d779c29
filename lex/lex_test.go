package lex

import (
	"reflect"
	"regexp"
	"slices"
	"strconv"
	"strings"
	"testing"
	"unsafe"

	"relievo/api"
)

// dice: numbers that look like any, the same at each run.
type dice uint64

// below: a number from 0 on, below a bound.
func (r *dice) below(bound int) int {
	*r = *r*6364136223846793005 + 1442695040888963407
	return int(uint64(*r)>>33) % bound
}

// text: some bytes, each one of an alphabet.
func (r *dice) text(alphabet string, most int) string {
	var b []byte
	for range r.below(most + 1) {
		b = append(b, alphabet[r.below(len(alphabet))])
	}
	return string(b)
}

// same: are two lists of lines one, an empty one and none too?
func same(a, b []api.Line) bool {
	return slices.EqualFunc(a, b, func(p, q api.Line) bool {
		return p.No == q.No && slices.Equal(p.Words, q.Words)
	})
}

func line(no int, words ...string) api.Line { return api.Line{No: no, Words: words} }

func TestLinesByHand(t *testing.T) { // P5.1
	for s, want := range map[string][]api.Line{
		"":           nil,
		" ":          nil,
		"\n":         nil,
		"\n\n \n":    nil,
		"#":          nil,
		"# a b":      nil,
		"  # a\n#b":  nil,
		"##\n#\n # ": nil,
		// The chapter's example.
		"a  b#c": {line(1, "a", "b")},
		// A line ends with a byte 10, or with the text.
		"a":        {line(1, "a")},
		"a\n":      {line(1, "a")},
		"\na":      {line(2, "a")},
		"a\nb":     {line(1, "a"), line(2, "b")},
		"a\n\n\nb": {line(1, "a"), line(4, "b")},
		"a\nb\n\n": {line(1, "a"), line(2, "b")},
		// Blanks are no words, wherever they stand.
		" a":          {line(1, "a")},
		"a ":          {line(1, "a")},
		"   a   b   ": {line(1, "a", "b")},
		"a a a":       {line(1, "a", "a", "a")},
		// A remark ends a word and the line's words, but not the text.
		"a#":         {line(1, "a")},
		"a #b":       {line(1, "a")},
		"a#b c":      {line(1, "a")},
		"a # b # c":  {line(1, "a")},
		"a#\nb":      {line(1, "a"), line(2, "b")},
		"#a\n\nb #c": {line(3, "b")},
		// Words are all other bytes.
		"v -1 +2 \"x\" a,b": {line(1, "v", "-1", "+2", `"x"`, "a,b")},
		"!$ ~ {|} \\n ' %":  {line(1, "!$", "~", "{|}", `\n`, "'", "%")},
		"A/Z;@ [=] <^>`&*?": {line(1, "A/Z;@", "[=]", "<^>`&*?")},
	} {
		if list, n, e := Lines(s); !same(list, want) || n != 0 || e != api.OK {
			t.Errorf("%q %v %d %d", s, list, n, e)
		}
	}
}

// TestLinesBytes: each byte, in a word, alone, at both ends, in a remark.
func TestLinesBytes(t *testing.T) { // P5.1
	for n := range 256 {
		c := string([]byte{byte(n)})
		good := n == 10 || 32 <= n && n <= 126
		for _, around := range []struct {
			ahead, behind string
			no            int
		}{
			{"", "", 1}, {"a", "b", 1}, {"a ", " b", 1}, {"", "b", 1}, {"a", "", 1}, {"#", "", 1}, {"a # ", " b", 1},
			{"\n", "\n", 2}, {"a\nb\n", "c\nd", 3}, {"a\n\n\n# ", "\nb", 4}, {"#\n#\n\n\n#\n#", "#\n\n", 6},
		} {
			list, no, e := Lines(around.ahead + c + around.behind)
			if good && (no != 0 || e != api.OK) {
				t.Errorf("%q %q %q %d %d", around.ahead, c, around.behind, no, e)
			}
			if !good && (len(list) != 0 || no != around.no || e != api.ErrSyntax) {
				t.Errorf("%q %q %q %v %d %d", around.ahead, c, around.behind, list, no, e)
			}
		}
	}
}

func TestLinesSyntax(t *testing.T) { // P5.1: the first line tells
	for s, want := range map[string]int{
		"a\t\n\r":                1,
		"a\nb\x00\nc\x00":        2,
		"a\n#\xff\n\xff":         2,
		"a\r\nb\r\n":             1,
		"a\nb\n\n\n\n\n\n\n\x7f": 9,
		"é":                      1,
		"a\n# é":                 2,
		"\n\u2028":               2,
		"\v":                     1,
		"\n\f":                   2,
		"\n\u00a0":               2,
		"\ufeffcamera":           1,
		strings.Repeat("a\n", api.MaxText/2-1) + "b\t":          api.MaxText / 2,
		strings.Repeat("\n", api.MaxText-1) + "\x1f":            api.MaxText,
		strings.Repeat(" ", api.MaxText-1) + "\x80":             1,
		strings.Repeat("a #\n", 9) + "# " + "\xc3" + "\n\n\xc3": 10,
	} {
		if list, n, e := Lines(s); len(list) != 0 || n != want || e != api.ErrSyntax {
			t.Errorf("%.20q %d %d %d", s, len(list), n, e)
		}
	}
}

func TestLinesLimit(t *testing.T) { // P5.1: the limit is told ahead of the syntax
	const most = api.MaxText
	for _, s := range []string{
		strings.Repeat("a", most+1),
		strings.Repeat(" ", most+1),
		strings.Repeat("\n", most+1),
		strings.Repeat("\t", most+1),
		"\t" + strings.Repeat("a", most),
		strings.Repeat("#", most) + "\xff",
		strings.Repeat("a ", most),
		strings.Repeat("\x00", 1<<24),
	} {
		if list, n, e := Lines(s); len(list) != 0 || n != 0 || e != api.ErrLimit {
			t.Errorf("%.9q %d %d %d", s, len(list), n, e)
		}
	}
	if list, n, e := Lines(strings.Repeat("a", most)); len(list) != 1 || len(list[0].Words) != 1 || len(list[0].Words[0]) != most || n != 0 || e != api.OK {
		t.Error(len(list), n, e)
	}
	if list, n, e := Lines(strings.Repeat("a ", most/2)); len(list) != 1 || len(list[0].Words) != most/2 || n != 0 || e != api.OK {
		t.Error(len(list), n, e)
	}
	if list, n, e := Lines(strings.Repeat("a\n", most/2)); len(list) != most/2 || list[most/2-1].No != most/2 || n != 0 || e != api.OK {
		t.Error(len(list), n, e)
	}
	if list, n, e := Lines(strings.Repeat("\n", most)); len(list) != 0 || n != 0 || e != api.OK {
		t.Error(len(list), n, e)
	}
}

// told: what Lines has to answer, gone through byte by byte.
func told(s string) ([]api.Line, int, api.Errno) {
	if len(s) > api.MaxText {
		return nil, 0, api.ErrLimit
	}
	var list []api.Line
	no, word, remark := 1, "", false
	end := func() {
		if word == "" {
			return
		}
		if len(list) == 0 || list[len(list)-1].No != no {
			list = append(list, api.Line{No: no})
		}
		last := &list[len(list)-1]
		last.Words = append(last.Words, word)
		word = ""
	}
	for _, c := range []byte(s) {
		switch {
		case c == 10:
			end()
			no, remark = no+1, false
		case c < 32 || c > 126:
			return nil, no, api.ErrSyntax
		case c == '#':
			remark = true
		case c == 32:
			end()
		case !remark:
			word += string(rune(c))
		}
	}
	end()
	return list, 0, api.OK
}

func TestLinesAll(t *testing.T) { // P5.1
	var r dice
	for _, alphabet := range []string{"ab \n#", "a \n", "v1 #\n\n\n", "a#\n~!\"", "aaaa bbbb cccc dddd # \n\t", "a \n\x1f\x7f#", "a\n\n\n\n\n# \xc3\xa9"} {
		for range 4000 {
			s := r.text(alphabet, 24)
			want, wantNo, wantE := told(s)
			if list, n, e := Lines(s); !same(list, want) || n != wantNo || e != wantE {
				t.Fatalf("%q %v %d %d %v %d %d", s, list, n, e, want, wantNo, wantE)
			}
		}
	}
}

// span: the memory of a text.
type span struct{ from, to uintptr }

func memory(s string) span {
	from := uintptr(unsafe.Pointer(unsafe.StringData(s)))
	return span{from, from + uintptr(len(s))}
}

func (a span) meets(b span) bool { return a.from < b.to && b.from < a.to }

func TestWordsAreNew(t *testing.T) { // P5.3: no word is a piece of the text, or of another one
	for _, s := range []string{"a", "camera 1 2 3\nsky 0 0 0 # x\n\n  a a", strings.Repeat("word a\n", 40), strings.Repeat("w", api.MaxText)} {
		list, _, _ := Lines(s)
		met := []span{memory(s)}
		for _, l := range list {
			for _, word := range l.Words {
				m := memory(word)
				if slices.ContainsFunc(met, m.meets) {
					t.Errorf("%.20q: %.20q shares memory", s, word)
				}
				met = append(met, m)
			}
		}
	}
}

func TestListsAreNew(t *testing.T) { // P5.3: nothing that is done to one list is seen in another one
	const s = "a b c\nd e\nf\n\ng h i j k"
	want, _, _ := told(s)
	for i := range want {
		list, _, _ := Lines(s)
		// What lies behind a list's length is its own, too.
		room := list[i].Words[:cap(list[i].Words)]
		for j := range room {
			room[j] = "!"
		}
		for j := range list {
			if j != i && !slices.Equal(list[j].Words, want[j].Words) {
				t.Error(i, j, list[j].Words)
			}
		}
		clear(list[:cap(list)])
		if again, n, e := Lines(s); !reflect.DeepEqual(again, want) || n != 0 || e != api.OK {
			t.Error(i, again, n, e)
		}
	}
}

func TestNumberByHand(t *testing.T) { // P5.2
	for word, want := range map[string]int{
		"0": 0, "1": 1, "9": 9, "10": 10, "100000": 100000, "999999": 999999, "65536": 65536,
		"-1": -1, "-9": -9, "-10": -10, "-100000": -100000, "-999999": -999999, "-16384": -16384,
	} {
		if n, ok := Number(word); n != want || !ok {
			t.Errorf("%q %d %t", word, n, ok)
		}
	}
	for _, word := range []string{
		"", "-", "--", "+", "+0", "+1", "-0", "00", "01", "-01", "-00", "000000", "000001", "0000001", "--1", "-+1", "1-", "1-1", "0-", "-1-",
		"1000000", "-1000000", "9999999", "0999999", "1234567", "99999999999999999999", "-99999999999999999999", "18446744073709551617",
		" 1", "1 ", " ", "1 1", "1\n", "\n1", "1\x00", "\x001", "- 1", "1_0", "1,000", "1.", "1.0", ".1", "1e3", "0x1", "0b1", "0o7", "1a", "a1", "a", "/", ":", "1/", "1:", "/1", ":1",
		"\u0661", "\u0967", "1\u0662", "\uff11", "\u00b2", "1\u00b2", "\u2212" + "1", "\u2013" + "1", "\xff", "1\xff", "\xff1", "-\xff", "\ufffd", "\u0131",
		strings.Repeat("1", 1<<20), "-" + strings.Repeat("1", 1<<20), strings.Repeat("-", 1<<20),
	} {
		if n, ok := Number(word); n != 0 || ok {
			t.Errorf("%.20q %d %t", word, n, ok)
		}
	}
}

func TestNumberAll(t *testing.T) { // P5.2: all numbers that there are, and the ones beyond
	for n := -1000100; n <= 1000100; n++ {
		word, want, there := strconv.Itoa(n), n, true
		if n < -999999 || n > 999999 {
			want, there = 0, false
		}
		if m, ok := Number(word); m != want || ok != there {
			t.Fatal(word, m, ok)
		}
	}
}

// words: all of an alphabet's words up to a length.
func words(alphabet []string, most int) []string {
	all, last := []string{""}, []string{""}
	for range most {
		var next []string
		for _, word := range last {
			for _, c := range alphabet {
				next = append(next, word+c)
			}
		}
		all, last = append(all, next...), next
	}
	return all
}

// bytes: all there are, each as a text.
func bytes() []string {
	var all []string
	for n := range 256 {
		all = append(all, string([]byte{byte(n)}))
	}
	return all
}

func TestNumberShort(t *testing.T) { // P5.2
	number := regexp.MustCompile(`\A(0|-?[1-9][0-9]{0,5})\z`)
	check := func(word string) {
		want, there := 0, number.MatchString(word)
		if there {
			want, _ = strconv.Atoi(word)
		}
		if n, ok := Number(word); n != want || ok != there {
			t.Errorf("%q %d %t", word, n, ok)
		}
	}
	for _, word := range words([]string{"0", "1", "9", "-", "+", "a"}, 5) {
		check(word)
	}
	for _, word := range words(bytes(), 2) {
		check(word)
		check("-" + word)
		check("1" + word)
	}
}

func TestNameByHand(t *testing.T) { // P5.2
	for word, want := range map[string]bool{
		"a": true, "z": true, "az": true, "a0": true, "z9": true, "a_": true, "a.": true, "a._.": true, "a1_.b": true, "cage.2": true, "a..": true, "a__b": true,
		"abcdefghijklmnop": true, "a0123456789_.xyz": true, "a...............": true,
		"abcdefghijklmnopq": false, "a0123456789_.xyz0": false, "a................": false,
		"": false, "1": false, "1a": false, "_": false, "_a": false, ".": false, ".a": false, "-": false, "-a": false, "a-": false, "a-b": false,
		"A": false, "aB": false, "Ab": false, "Z": false, " ": false, "a ": false, " a": false, "a b": false, "a\n": false, "a\x00": false, "\x00": false,
		"a#": false, "`": false, "{": false, "a`": false, "a{": false, "a/": false, "a:": false, "a^": false, "a,": false,
		"é": false, "aé": false, "a\u0661": false, "\uff41": false, "a\uff41": false, "\u0131": false, "ß": false, "\xff": false, "a\xff": false, "\ufffd": false, "a\xc3": false,
	} {
		if Name(word) != want {
			t.Errorf("%q %t", word, !want)
		}
	}
}

func TestNameLengths(t *testing.T) { // P5.2
	for n := range 40 {
		for _, c := range []string{"a", "z", "0", "_", "."} {
			if want := n < api.MaxName; Name("a"+strings.Repeat(c, n)) != want {
				t.Error(n+1, c, !want)
			}
		}
	}
	if Name(strings.Repeat("a", 1<<20)) || Name(strings.Repeat("\xff", 1<<20)) {
		t.Error("a long one")
	}
}

func TestNameShort(t *testing.T) { // P5.2
	name := regexp.MustCompile(`\A[a-z][a-z0-9_.]{0,15}\z`)
	check := func(word string) {
		if want := name.MatchString(word); Name(word) != want {
			t.Errorf("%q %t", word, !want)
		}
	}
	for _, word := range words([]string{"a", "z", "0", "9", "_", ".", "-", "A", "é"}, 4) {
		check(word)
	}
	for _, word := range words(bytes(), 2) {
		check(word)
		check("a" + word)
		check("abcdefghijklmn" + word)
		check("abcdefghijklmno" + word)
	}
}

func FuzzAnyText(f *testing.F) { // P1, P5.1, P5.2: it answers at all texts
	for _, s := range []string{"", "a  b#c", "v -1 2\n\n# x", "\xff", "a\r\n", "-0", "999999", "a.b_c"} {
		f.Add(s)
	}
	f.Fuzz(func(t *testing.T, s string) {
		want, wantNo, wantE := told(s)
		if list, n, e := Lines(s); !same(list, want) || n != wantNo || e != wantE {
			t.Errorf("%q %v %d %d", s, list, n, e)
		}
		if n, ok := Number(s); ok && strconv.Itoa(n) != s || !ok && n != 0 {
			t.Errorf("%q %d %t", s, n, ok)
		}
		if Name(s) && (len(s) > api.MaxName || strings.Trim(s, "abcdefghijklmnopqrstuvwxyz0123456789_.") != "") {
			t.Errorf("%q", s)
		}
	})
}
