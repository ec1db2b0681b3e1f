package path

import (
	"slices"
	"strings"
	"testing"
)

// letters is a part of so many bytes.
func letters(n int) string {
	return strings.Repeat("x", n)
}

// short are all texts of up to so many bytes, of those that a path's rules speak of and of one letter.
func short(most int) []string {
	list := []string{""}
	from := 0
	for range most {
		to := len(list)
		for _, text := range list[from:to] {
			for _, letter := range []string{"a", ".", "/", "\x00"} {
				list = append(list, text+letter)
			}
		}
		from = to
	}
	return list
}

// lengthy are paths, and what may not be, about all the edges of lengths: one slash or two, everywhere.
func lengthy() []string {
	var list []string
	for _, size := range []int{1, 2, 3, 99, 100, 101, 102, 155, 156, 157, 200, 254, 255, 256, 257, 258, 299, 300, 301, 302, 1000} {
		whole := letters(size)
		list = append(list, whole)
		for at := range size {
			one := whole[:at] + "/" + whole[at+1:]
			list = append(list, one)
			for _, step := range []int{1, 2, 3, 50, 100, 101, 102, 155, 156} {
				if at+step < size {
					list = append(list, one[:at+step]+"/"+one[at+step+1:])
				}
			}
		}
	}
	return list
}

// wantParts says, byte by byte, what Parts has to answer.
func wantParts(p string) []string {
	if len(p) == 0 || len(p) > 300 {
		return nil
	}
	list := []string{""}
	for i := range len(p) {
		switch p[i] {
		case 0:
			return nil
		case '/':
			list = append(list, "")
		default:
			list[len(list)-1] += p[i : i+1]
		}
	}
	for _, part := range list {
		if part == "" || part == "." || part == ".." {
			return nil
		}
	}
	return list
}

// wantSplit tries all slashes, from the first one on.
func wantSplit(p string) (string, string, bool) {
	if wantParts(p) == nil {
		return "", "", false
	}
	if len(p) <= 100 {
		return "", p, true
	}
	for i := range len(p) {
		if p[i] == '/' && len(p[i+1:]) <= 100 {
			if len(p[:i]) > 155 {
				return "", "", false
			}
			return p[:i], p[i+1:], true
		}
	}
	return "", "", false
}

// P2.1

func TestMayOfPaths(t *testing.T) {
	for _, p := range []string{
		"a", "a/b", "a/b/c", "ab/cd", "a b", "\xff", "\x01", "ä/ö", "a\\b", "a\nb", " ", "~",
		"...", "....", "a/...", ".../a", ".a", "a.", "..a", "a..", "a/.b/..c/d..", ". ", " ..", "-",
		letters(300),
		letters(149) + "/" + letters(150),
		strings.Repeat("a/", 149) + "ab",
	} {
		if !May(p) {
			t.Errorf("May(%q) = false", p)
		}
	}
}

func TestMayNotBe(t *testing.T) {
	for _, p := range []string{
		"",
		letters(301), letters(1 << 20), letters(150) + "/" + letters(150), strings.Repeat("a/", 150) + "a",
		"\x00", "a\x00", "\x00a", "a\x00b", "a/\x00", "a/b\x00/c", letters(299) + "\x00",
		"/", "//", "/a", "a/", "a//b", "//a", "a//", "/a/b", "a/b/", "a///b",
		".", "./a", "a/.", "a/./b", "a/b/.", "./.",
		"..", "../a", "a/..", "a/../b", "a/b/..", "../..", "a/../../b",
		"./..", letters(297) + "/..", letters(298) + "/.", letters(299) + "/",
	} {
		if May(p) {
			t.Errorf("May(%q) = true", p)
		}
	}
}

func TestPartsInOrder(t *testing.T) {
	for _, x := range []struct {
		p    string
		want []string
	}{
		{"a", []string{"a"}},
		{"a/b/c", []string{"a", "b", "c"}},
		{"c/b/a/b", []string{"c", "b", "a", "b"}},
		{"a/.../b", []string{"a", "...", "b"}},
		{letters(150) + "/" + letters(149), []string{letters(150), letters(149)}},
		{letters(300), []string{letters(300)}},
	} {
		if got := Parts(x.p); !slices.Equal(got, x.want) {
			t.Errorf("Parts(%q) = %q; want %q", x.p, got, x.want)
		}
	}
}

func TestPartsOfWhatMayNotBe(t *testing.T) {
	for _, p := range []string{"", "/", "/a", "a/", "a//b", "a/../b", "a/b/.", "a/b/..", "a/b\x00", letters(301), letters(300) + "/a"} {
		if got := Parts(p); len(got) != 0 {
			t.Errorf("Parts(%q) = %q; want nothing", p, got)
		}
	}
}

func TestParentOfPaths(t *testing.T) {
	for _, x := range []struct {
		p, want string
		ok      bool
	}{
		{"a/b/c", "a/b", true},
		{"a/b", "a", true},
		{"ab/cd", "ab", true},
		{".../a", "...", true},
		{letters(298) + "/x", letters(298), true},
		{"a", "", false},
		{"...", "", false},
		{letters(300), "", false},
		{"", "", false},
		{"/", "", false},
		{"/a", "", false},
		{"a/", "", false},
		{"a//b", "", false},
		{"a/..", "", false},
		{"a/../b", "", false},
		{"./a", "", false},
		{"a/\x00", "", false},
		{letters(299) + "/x", "", false},
	} {
		if got, ok := Parent(x.p); got != x.want || ok != x.ok {
			t.Errorf("Parent(%q) = %q, %t; want %q, %t", x.p, got, ok, x.want, x.ok)
		}
	}
}

func TestBelowOfPaths(t *testing.T) {
	for _, x := range []struct {
		p, of string
		want  bool
	}{
		{"a/b", "a", true},
		{"a/b/c", "a", true},
		{"a/b/c", "a/b", true},
		{letters(298) + "/x", letters(298), true},
		{"a", "a", false},
		{"a/b", "a/b", false},
		{"a", "a/b", false},
		{"ab", "a", false},
		{"ab/c", "a", false},
		{"a.b", "a", false},
		{"a/bc", "a/b", false},
		{"a/b", "b", false},
		{"b/a/c", "a", false},
		{"b/a/c", "a/c", false},
		{"", "", false},
		{"a", "", false},
		{"", "a", false},
		{"/a", "", false},
		{"a/", "a", false},
		{"a//b", "a", false},
		{"a/b", "a/", false},
		{"a//b", "a/", false},
		{"a/../b", "a", false},
		{"a/..", "a", false},
		{"../a", "..", false},
		{"./a", ".", false},
		{"a/b\x00", "a", false},
		{"a\x00/b", "a\x00", false},
		{letters(299) + "/x", letters(299), false},
		{letters(301) + "/x", letters(301), false},
	} {
		if got := Below(x.p, x.of); got != x.want {
			t.Errorf("Below(%q, %q) = %t; want %t", x.p, x.of, got, x.want)
		}
	}
}

func TestMayPartsAndParentOfAllTexts(t *testing.T) {
	for _, p := range append(short(7), lengthy()...) {
		want := wantParts(p)
		if got := May(p); got != (want != nil) {
			t.Errorf("May(%q) = %t", p, got)
		}
		if got := Parts(p); !slices.Equal(got, want) {
			t.Errorf("Parts(%q) = %q; want %q", p, got, want)
		}
		ahead := ""
		if len(want) > 1 {
			ahead = strings.Join(want[:len(want)-1], "/")
		}
		if got, ok := Parent(p); got != ahead || ok != (len(want) > 1) {
			t.Errorf("Parent(%q) = %q, %t; want %q", p, got, ok, ahead)
		}
	}
}

func TestBelowOfAllShortTexts(t *testing.T) {
	list := short(4)
	for _, p := range list {
		mine := wantParts(p)
		for _, of := range list {
			other := wantParts(of)
			want := mine != nil && other != nil && len(mine) > len(other) && slices.Equal(mine[:len(other)], other)
			if got := Below(p, of); got != want {
				t.Fatalf("Below(%q, %q) = %t; want %t", p, of, got, want)
			}
		}
	}
}

// P2.2

func TestSplitOfPaths(t *testing.T) {
	for _, x := range []struct{ p, prefix, name string }{
		{"a", "", "a"},
		{"a/b/c", "", "a/b/c"},
		{letters(100), "", letters(100)},
		{letters(50) + "/" + letters(49), "", letters(50) + "/" + letters(49)},
		{"a/" + letters(99), "a", letters(99)},
		{"a/" + letters(100), "a", letters(100)},
		{letters(100) + "/a", letters(100), "a"},
		{letters(155) + "/a", letters(155), "a"},
		{letters(155) + "/" + letters(100), letters(155), letters(100)},
		{"a/b/" + letters(98), "a", "b/" + letters(98)},
		{"a/b/" + letters(99), "a/b", letters(99)},
		{"a/b/" + letters(100), "a/b", letters(100)},
		{letters(120) + "/b/c/d", letters(120), "b/c/d"},
		{letters(100) + "/" + letters(54) + "/" + letters(40) + "/" + letters(59), letters(100) + "/" + letters(54), letters(40) + "/" + letters(59)},
		{"ab/" + letters(101) + "/c/d", "ab/" + letters(101), "c/d"},
	} {
		prefix, name, ok := Split(x.p)
		if !ok || prefix != x.prefix || name != x.name {
			t.Errorf("Split(%q) = %q, %q, %t; want %q, %q", x.p, prefix, name, ok, x.prefix, x.name)
		}
	}
}

func TestSplitThatCannotBe(t *testing.T) {
	for _, p := range []string{
		"", "/", "/a", "a/", "a//b", "a/../b", ".", "..", "a\x00", "a/\x00b", // may not be
		"/" + letters(100), letters(99) + "/", letters(155) + "//" + letters(100), letters(150) + "/../a", // likewise
		letters(301), letters(200) + "/" + letters(100), // too long
		letters(101), letters(300), // no slash
		"a/" + letters(101), letters(155) + "/" + letters(101), letters(100) + "/" + letters(199), // too much behind each slash
		letters(156) + "/a", letters(156) + "/" + letters(100), letters(298) + "/a", // too much ahead of it
		letters(156) + "/a/b", // likewise: the second one is no way out
		"a/" + letters(154) + "/" + letters(100),
	} {
		if prefix, name, ok := Split(p); ok || prefix != "" || name != "" {
			t.Errorf("Split(%q) = %q, %q, %t; want none", p, prefix, name, ok)
		}
	}
}

func TestSplitOfAllTexts(t *testing.T) {
	for _, p := range append(short(6), lengthy()...) {
		wantPrefix, wantName, wantOk := wantSplit(p)
		prefix, name, ok := Split(p)
		if prefix != wantPrefix || name != wantName || ok != wantOk {
			t.Errorf("Split(%q) = %q, %q, %t; want %q, %q, %t", p, prefix, name, ok, wantPrefix, wantName, wantOk)
		}
	}
}

// Join asks of neither whether it may be.
func TestJoin(t *testing.T) {
	for _, x := range []struct{ prefix, name, want string }{
		{"a", "b", "a/b"},
		{"a/b", "c/d", "a/b/c/d"},
		{"", "a", "a"},
		{"", "a/b", "a/b"},
		{"", "", ""},
		{"a", "", "a/"},
		{"", "/", "/"},
		{"/", "", "//"},
		{"/", "/", "///"},
		{"a/", "b", "a//b"},
		{"a", "/b", "a//b"},
		{"..", ".", "../."},
		{"\x00", "\x00", "\x00/\x00"},
		{letters(300), letters(300), letters(300) + "/" + letters(300)},
	} {
		if got := Join(x.prefix, x.name); got != x.want {
			t.Errorf("Join(%q, %q) = %q; want %q", x.prefix, x.name, got, x.want)
		}
	}
}

// P2.3

func TestWhatIsSplitIsJoinedAsItWas(t *testing.T) {
	for _, p := range append(short(6), lengthy()...) {
		prefix, name, ok := Split(p)
		if !ok {
			continue
		}
		if got := Join(prefix, name); got != p {
			t.Errorf("Join(Split(%q)) = %q", p, got)
		}
		if len(prefix) > 155 || len(name) > 100 || !May(name) || prefix != "" && !May(prefix) {
			t.Errorf("Split(%q) = %q, %q: no header could have them", p, prefix, name)
		}
	}
}

func TestAParentMayBeAndItsPathIsBelowIt(t *testing.T) {
	for _, p := range append(short(7), lengthy()...) {
		ahead, ok := Parent(p)
		if !ok {
			continue
		}
		if !May(ahead) {
			t.Errorf("Parent(%q) = %q, which may not be", p, ahead)
		}
		if !Below(p, ahead) || Below(ahead, p) || Below(p, p) {
			t.Errorf("Parent(%q) = %q: the path has to be below it, and nothing else", p, ahead)
		}
		parts := Parts(p)
		if Join(ahead, parts[len(parts)-1]) != p {
			t.Errorf("Parent(%q) = %q, which does not join with the last part", p, ahead)
		}
	}
}

// R3

func TestPartsAnswersNewMemory(t *testing.T) {
	want := []string{"a", "b", "c"}
	first := Parts("a/b/c")
	second := Parts("a/b/c")
	clear(first)
	_ = append(first[:0], "x", "y", "z")
	if third := Parts("a/b/c"); !slices.Equal(second, want) || !slices.Equal(third, want) {
		t.Errorf("Parts = %q and %q; want %q", second, third, want)
	}
}
