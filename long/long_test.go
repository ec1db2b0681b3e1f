package long

import (
	"bytes"
	"fmt"
	"math"
	"math/rand"
	"strings"
	"testing"

	"reelkeeper/api"
	"reelkeeper/head"
)

// letters is a text of so many bytes, without a slash. Those beside each other differ, so that one left out or told twice is seen.
func letters(n int) string {
	return strings.Repeat("abcdefghijklmnopqrstuvwxyz", n/26+1)[:n]
}

// with is a text with another byte at a place.
func with(s string, at int, x byte) string {
	return s[:at] + string([]byte{x}) + s[at+1:]
}

// edgeTexts are texts about all edges of a long one's length, without a byte 0, and with one at the beginning, in the midst and at the end.
func edgeTexts() []string {
	var list []string
	for _, size := range []int{0, 1, 2, 3, 99, 100, 101, 298, 299, 300, 301, 302, 511, 512, 513, 5000} {
		whole := letters(size)
		list = append(list, whole)
		for _, at := range []int{0, 1, size / 2, 100, size - 2, size - 1} {
			if at >= 0 && at < size {
				list = append(list, with(whole, at, 0))
			}
		}
	}
	return list
}

// slashed are paths about all edges of length: without a slash, with one everywhere, and with a second one behind that.
func slashed() []string {
	var list []string
	for _, size := range []int{0, 1, 2, 3, 99, 100, 101, 102, 155, 156, 157, 200, 255, 256, 257, 258, 299, 300, 301, 302} {
		whole := letters(size)
		list = append(list, whole)
		for at := range size {
			one := with(whole, at, '/')
			list = append(list, one)
			for _, step := range []int{1, 2, 50, 100, 101, 102, 155, 156} {
				if at+step < size {
					list = append(list, with(one, at+step, '/'))
				}
			}
		}
	}
	return list
}

// unsafePaths may not be, each for another reason, and as they are or with as many bytes as need a long name.
func unsafePaths() []string {
	list := []string{"", letters(301), letters(302), letters(200) + "/" + letters(100), letters(5000)}
	for _, far := range []string{"", letters(120), letters(100) + "/" + letters(150)} {
		for _, bad := range []string{"/", "//", ".", "..", "\x00"} {
			list = append(list, bad, far+"/"+bad, far+"/"+bad+"/b", bad+"/"+far)
		}
	}
	return append(list, letters(120)+"\x00", "\x00"+letters(120), "a\x00", letters(299)+"\x00", letters(120)+"/")
}

// edgeLinks are links about all edges of what a header, and a long text, has room for, with and without a byte 0.
func edgeLinks() []string {
	return append(edgeTexts(), "../a", "/", "a/../b", strings.Repeat("../", 34), strings.Repeat("\xff", 300), strings.Repeat("é", 60))
}

// wantText says what Text has to answer.
func wantText(s string) bool {
	return s != "" && len(s) < 301 && !strings.Contains(s, "\x00")
}

// wantHeader is the block of the header that stands ahead of a long text with so many bytes, the byte 0 among them.
func wantHeader(kind byte, size int) []byte {
	b := make([]byte, 512)
	copy(b, "././@LongLink")
	for _, at := range []int{100, 108, 116} {
		copy(b[at:], "0000000")
	}
	copy(b[124:], fmt.Sprintf("%011o", size))
	copy(b[136:], "00000000000")
	copy(b[148:], "        ")
	b[156] = kind
	copy(b[257:], []byte{'u', 's', 't', 'a', 'r', 0, 48, 48})
	sum := 0
	for _, x := range b {
		sum += int(x)
	}
	copy(b[148:], fmt.Sprintf("%06o\x00 ", sum))
	return b
}

// wantPut are the two blocks of a long text.
func wantPut(kind byte, s string) [][]byte {
	b := make([]byte, 512)
	copy(b, s)
	return [][]byte{wantHeader(kind, len(s)+1), b}
}

// wantSafe says whether a path may be.
func wantSafe(p string) bool {
	if len(p) > 300 || strings.Contains(p, "\x00") {
		return false
	}
	for _, part := range strings.Split(p, "/") {
		if part == "" || part == "." || part == ".." {
			return false
		}
	}
	return true
}

// wantSplit tries all slashes of a path that may be, from the first one on.
func wantSplit(p string) (string, string, bool) {
	if len(p) <= 100 {
		return "", p, true
	}
	for at := range len(p) {
		if p[at] == '/' && len(p)-at-1 <= 100 {
			return p[:at], p[at+1:], at <= 155
		}
	}
	return "", "", false
}

// first100 are the first 100 bytes, byte by byte.
func first100(s string) string {
	var list []byte
	for at := 0; at < len(s) && at < 100; at++ {
		list = append(list, s[at])
	}
	return string(list)
}

// answer is all that is asked of a node.
type answer struct {
	needsName, needsLink bool
	name, prefix, link   string
	ahead                [][]byte
}

// wantAnswer says what has to be answered of a node of that path and that link.
func wantAnswer(p, link string) answer {
	var a answer
	a.link = first100(link)
	if a.needsLink = len(link) > 100; a.needsLink && wantText(link) {
		a.ahead = append(a.ahead, wantPut('K', link)...)
	}
	if !wantSafe(p) {
		return a
	}
	prefix, name, ok := wantSplit(p)
	if ok {
		a.prefix, a.name = prefix, name
		return a
	}
	a.needsName, a.name = true, first100(p)
	a.ahead = append(a.ahead, wantPut('L', p)...)
	return a
}

func sameBlocks(a, b [][]byte) bool {
	if len(a) != len(b) {
		return false
	}
	for i := range a {
		if !bytes.Equal(a[i], b[i]) {
			return false
		}
	}
	return true
}

// checkPut holds Text and Put against what they have to answer.
func checkPut(t *testing.T, kind byte, s string) {
	t.Helper()
	is := wantText(s)
	if got := Text(s); got != is {
		t.Errorf("Text(%q) = %t; want %t", s, got, is)
	}
	var want [][]byte
	if is = is && (kind == 'K' || kind == 'L'); is {
		want = wantPut(kind, s)
	}
	if got, ok := Put(kind, s); ok != is || !sameBlocks(got, want) {
		t.Errorf("Put(%d, %q) = %q, %t; want %q, %t", kind, s, got, ok, want, is)
	}
}

// checkNode holds Needs, Names and Ahead of a node against what they have to answer.
func checkNode(t *testing.T, n api.Node) {
	t.Helper()
	want := wantAnswer(n.Path, n.Link)
	if name, link := Needs(n); name != want.needsName || link != want.needsLink {
		t.Errorf("Needs of path %q, link %q = %t, %t; want %t, %t", n.Path, n.Link, name, link, want.needsName, want.needsLink)
	}
	if name, prefix, link := Names(n); name != want.name || prefix != want.prefix || link != want.link {
		t.Errorf("Names of path %q, link %q = %q, %q, %q; want %q, %q, %q", n.Path, n.Link, name, prefix, link, want.name, want.prefix, want.link)
	}
	if got := Ahead(n); !sameBlocks(got, want.ahead) {
		t.Errorf("Ahead of path %q, link %q = %q; want %q", n.Path, n.Link, got, want.ahead)
	}
}

// P5.1

func TestTextAtItsEdges(t *testing.T) {
	for _, x := range []struct {
		s    string
		want bool
	}{
		{"", false}, {"a", true}, {"ab", true}, {letters(299), true}, {letters(300), true}, {letters(301), false}, {letters(5000), false},
		{"\x00", false}, {"\x00a", false}, {"a\x00", false}, {"\x00\x00", false}, {"a\x00b", false},
		{"\x00" + letters(298), false}, {letters(150) + "\x00" + letters(148), false}, {letters(298) + "\x00", false},
		{"\x00" + letters(299), false}, {letters(150) + "\x00" + letters(149), false}, {letters(299) + "\x00", false},
		{"\x00" + letters(300), false}, {letters(150) + "\x00" + letters(150), false}, {letters(300) + "\x00", false},
		// A long text is no path: a link may lead wherever it likes.
		{"/", true}, {"..", true}, {"a//b", true}, {"a/../b", true}, {" ", true}, {strings.Repeat("/", 300), true},
		// Bytes count, not letters.
		{strings.Repeat("é", 150), true}, {strings.Repeat("é", 151), false}, {strings.Repeat("\xff", 300), true}, {strings.Repeat("\xff", 301), false},
	} {
		if got := Text(x.s); got != x.want {
			t.Errorf("Text(%q) = %t; want %t", x.s, got, x.want)
		}
		for _, kind := range []byte{'K', 'L'} {
			if got, ok := Put(kind, x.s); ok != x.want || !x.want && len(got) != 0 {
				t.Errorf("Put(%c, %q) = %d blocks, %t; want %t", kind, x.s, len(got), ok, x.want)
			}
			checkPut(t, kind, x.s)
		}
	}
}

func TestTextWithEachByteAnywhere(t *testing.T) {
	for _, size := range []int{1, 2, 299, 300, 301} {
		for at := range size {
			if Text(with(letters(size), at, 0)) {
				t.Errorf("Text of %d bytes, the one at %d a byte 0, = true", size, at)
			}
		}
		for x := range 256 {
			for _, at := range []int{0, size / 2, size - 1} {
				checkPut(t, 'K', with(letters(size), at, byte(x)))
			}
		}
	}
}

// The bytes are written out here, one by one, with the sum that they have.
func TestPutOfALongName(t *testing.T) {
	for _, x := range []struct {
		kind      byte
		s         string
		size, sum string
	}{
		{'L', letters(120), "00000000171", "010014"},
		{'K', letters(300), "00000000455", "010020"},
		{'K', "a", "00000000002", "010004"},
	} {
		header := "././@LongLink" + strings.Repeat("\x00", 87) +
			"0000000\x00" + "0000000\x00" + "0000000\x00" + x.size + "\x00" + "00000000000\x00" +
			x.sum + "\x00 " + string([]byte{x.kind}) + strings.Repeat("\x00", 100) +
			"ustar\x00" + "00" + strings.Repeat("\x00", 247)
		text := x.s + strings.Repeat("\x00", 512-len(x.s))
		got, ok := Put(x.kind, x.s)
		if !ok || len(got) != 2 || string(got[0]) != header || string(got[1]) != text {
			t.Errorf("Put(%c, %q) = %q, %t; want %q and %q", x.kind, x.s, got, ok, header, text)
		}
	}
}

func TestPutOfAllEdges(t *testing.T) {
	for _, s := range edgeTexts() {
		for _, kind := range []byte{'K', 'L', 0, '0', '1', '2', '5', 'M', 'V', 'J', 'k', 'l', 255} {
			checkPut(t, kind, s)
		}
	}
}

func TestPutOfAllKinds(t *testing.T) {
	for kind := range 256 {
		want := kind == 'K' || kind == 'L'
		for _, s := range []string{"a", letters(120), letters(300)} {
			got, ok := Put(byte(kind), s)
			if ok != want || !want && len(got) != 0 {
				t.Errorf("Put(%d, %q) = %d blocks, %t; want %t", kind, s, len(got), ok, want)
			}
			checkPut(t, byte(kind), s)
		}
		for _, s := range []string{"", "\x00", letters(301)} {
			if got, ok := Put(byte(kind), s); ok || len(got) != 0 {
				t.Errorf("Put(%d, %q) = %d blocks, %t; want nothing, false", kind, s, len(got), ok)
			}
		}
	}
}

func TestTheHeaderAheadOfALongText(t *testing.T) {
	for _, kind := range []byte{'K', 'L'} {
		for size := 1; size <= 300; size++ {
			l, ok := Put(kind, letters(size))
			if !ok || len(l) != 2 || len(l[1]) != 512 {
				t.Fatalf("Put(%c, %d bytes) = %d blocks, %t", kind, size, len(l), ok)
			}
			want := api.Head{Name: "././@LongLink", Size: size + 1, Type: kind}
			if got, e := head.Get(l[0]); e != api.OK || got != want {
				t.Errorf("the header ahead of %d bytes = %#v, %d; want %#v", size, got, e, want)
			}
			if got := string(l[1][:size+1]); got != letters(size)+"\x00" {
				t.Errorf("the text of %d bytes stands there as %q", size, got)
			}
			if len(bytes.Trim(l[1][size:], "\x00")) != 0 {
				t.Errorf("behind %d bytes stands %q", size, l[1][size:])
			}
		}
	}
}

// P5.2

func TestNamesThatFit(t *testing.T) {
	for _, x := range []struct{ p, name, prefix string }{
		{"a", "a", ""},
		{"a/b", "a/b", ""},
		{letters(99), letters(99), ""},
		{letters(100), letters(100), ""},
		{letters(50) + "/" + letters(48), letters(50) + "/" + letters(48), ""},
		{letters(50) + "/" + letters(49), letters(50) + "/" + letters(49), ""},
		{"a/" + letters(99), letters(99), "a"},
		{"a/" + letters(100), letters(100), "a"},
		{letters(100) + "/a", "a", letters(100)},
		{letters(101) + "/a", "a", letters(101)},
		{"a/b/" + letters(98), "b/" + letters(98), "a"},
		{"a/b/" + letters(100), letters(100), "a/b"},
		{letters(155) + "/a", "a", letters(155)},
		{letters(155) + "/" + letters(99), letters(99), letters(155)},
		{letters(155) + "/" + letters(100), letters(100), letters(155)},
		{letters(100) + "/" + letters(54) + "/" + letters(50) + "/" + letters(49), letters(50) + "/" + letters(49), letters(100) + "/" + letters(54)},
	} {
		n := api.Node{Path: x.p}
		if name, link := Needs(n); name || link {
			t.Errorf("Needs of path %q = %t, %t; want neither", x.p, name, link)
		}
		if name, prefix, link := Names(n); name != x.name || prefix != x.prefix || link != "" {
			t.Errorf("Names of path %q = %q, %q, %q; want %q, %q", x.p, name, prefix, link, x.name, x.prefix)
		}
		if got := Ahead(n); len(got) != 0 {
			t.Errorf("Ahead of path %q = %q; want nothing", x.p, got)
		}
		checkNode(t, n)
	}
}

func TestNamesThatDoNotFit(t *testing.T) {
	for _, x := range []struct{ p, name string }{
		{letters(101), letters(100)},
		{letters(120), letters(100)},
		{letters(255), letters(100)},
		{letters(256), letters(100)},
		{letters(257), letters(100)},
		{letters(300), letters(100)},
		{"a/" + letters(101), "a/" + letters(98)},
		{letters(60) + "/" + letters(101), letters(60) + "/" + letters(39)},
		{letters(155) + "/" + letters(101), letters(100)},
		{letters(156) + "/a", letters(100)},
		{letters(156) + "/" + letters(98), letters(100)},
		{letters(156) + "/" + letters(99), letters(100)},
		{letters(156) + "/" + letters(100), letters(100)},
		{letters(156) + "/a/b", letters(100)},
		{letters(199) + "/" + letters(100), letters(100)},
		{letters(298) + "/a", letters(100)},
		{"a/" + letters(298), "a/" + letters(98)},
		{strings.Repeat("é", 75) + "a", strings.Repeat("é", 50)},
		{"a" + strings.Repeat("é", 75), "a" + strings.Repeat("é", 49) + "\xc3"},
		{strings.Repeat("\xff", 101), strings.Repeat("\xff", 100)},
	} {
		n := api.Node{Path: x.p}
		if name, link := Needs(n); !name || link {
			t.Errorf("Needs of path %q = %t, %t; want a name alone", x.p, name, link)
		}
		if name, prefix, link := Names(n); name != x.name || prefix != "" || link != "" {
			t.Errorf("Names of path %q = %q, %q, %q; want %q", x.p, name, prefix, link, x.name)
		}
		if got := Ahead(n); !sameBlocks(got, wantPut('L', x.p)) {
			t.Errorf("Ahead of path %q = %q; want a long name", x.p, got)
		}
		checkNode(t, n)
	}
}

func TestLinksAtTheirEdges(t *testing.T) {
	for _, x := range []struct {
		link      string
		need, put bool
	}{
		{"", false, false}, {"a", false, false}, {letters(99), false, false}, {letters(100), false, false},
		{letters(101), true, true}, {letters(300), true, true}, {letters(301), true, false}, {letters(5000), true, false},
		{"\x00", false, false}, {letters(99) + "\x00", false, false},
		{letters(100) + "\x00", true, false}, {"\x00" + letters(100), true, false}, {letters(50) + "\x00" + letters(50), true, false},
		{letters(299) + "\x00", true, false}, {letters(150) + "\x00" + letters(150), true, false},
		// No slash helps a link: it has no prefix.
		{letters(50) + "/" + letters(50), true, true}, {"a/" + letters(99), true, true}, {"/" + letters(100), true, true},
	} {
		for _, p := range []string{"a", letters(100) + "/a", letters(101), "", "..", letters(301)} {
			n := api.Node{Path: p, Link: x.link}
			if _, link := Needs(n); link != x.need {
				t.Errorf("Needs of path %q, link %q = a link %t; want %t", p, x.link, link, x.need)
			}
			if _, _, link := Names(n); link != first100(x.link) {
				t.Errorf("Names of path %q, link %q = the link %q", p, x.link, link)
			}
			if got := Ahead(n); len(got) >= 2 && got[0][156] == 'K' != x.put {
				t.Errorf("Ahead of path %q, link %q begins by %q", p, x.link, got[0])
			}
			checkNode(t, n)
		}
	}
}

func TestTheLinkStandsAheadOfTheName(t *testing.T) {
	p, link := letters(150), letters(200)
	name, to := wantPut('L', p), wantPut('K', link)
	for _, x := range []struct {
		n    api.Node
		want [][]byte
	}{
		{api.Node{Path: "a", Link: "b"}, nil},
		{api.Node{Path: p, Link: "b"}, name},
		{api.Node{Path: p}, name},
		{api.Node{Path: "a", Link: link}, to},
		{api.Node{Path: p, Link: link}, [][]byte{to[0], to[1], name[0], name[1]}},
		{api.Node{Path: p, Link: p}, append(wantPut('K', p), name...)},
		{api.Node{Path: p, Link: link + "\x00"}, name},
		{api.Node{Path: p, Link: letters(301)}, name},
		{api.Node{Path: "a", Link: letters(301)}, nil},
		{api.Node{Path: letters(301), Link: link}, to},
		{api.Node{Path: "", Link: link}, to},
		{api.Node{Path: p + "/..", Link: link}, to},
		{api.Node{Path: p + "\x00", Link: link}, to},
		{api.Node{Path: letters(301), Link: letters(301)}, nil},
		{api.Node{}, nil},
	} {
		if got := Ahead(x.n); !sameBlocks(got, x.want) {
			t.Errorf("Ahead of path %q, link %q = %q; want %q", x.n.Path, x.n.Link, got, x.want)
		}
		checkNode(t, x.n)
	}
}

func TestPathsThatMayNotBe(t *testing.T) {
	for _, p := range unsafePaths() {
		if name, _ := Needs(api.Node{Path: p}); name {
			t.Errorf("Needs of path %q = a name", p)
		}
		if name, prefix, _ := Names(api.Node{Path: p}); name != "" || prefix != "" {
			t.Errorf("Names of path %q = %q, %q; want none", p, name, prefix)
		}
		if got := Ahead(api.Node{Path: p}); len(got) != 0 {
			t.Errorf("Ahead of path %q = %q; want nothing", p, got)
		}
		for _, link := range []string{"", "a", letters(100), letters(101), letters(300), letters(301), letters(120) + "\x00"} {
			checkNode(t, api.Node{Path: p, Link: link})
		}
	}
}

func TestAllPathsWithSlashes(t *testing.T) {
	for _, p := range slashed() {
		checkNode(t, api.Node{Path: p})
	}
}

func TestAllLinks(t *testing.T) {
	for _, link := range edgeLinks() {
		for _, p := range []string{"a", letters(100), letters(101), letters(155) + "/" + letters(100), letters(156) + "/" + letters(100), letters(300), letters(301), "/"} {
			checkNode(t, api.Node{Path: p, Link: link})
		}
	}
}

// Whether a node may be alone is not asked here: what it needs hangs on its path and its link.
func TestNothingElseOfANodeMatters(t *testing.T) {
	for kind := range 256 {
		for _, some := range []int{math.MinInt, -1, 0, 420, math.MaxInt} {
			for _, p := range []string{"a", letters(101), letters(120) + "/a", ""} {
				for _, link := range []string{"", "b", letters(101), letters(101) + "\x00"} {
					checkNode(t, api.Node{Path: p, Link: link, Kind: byte(kind), Mode: some, Uid: some, Gid: some, Mtime: some, Data: letters(max(0, some%5000))})
				}
			}
		}
	}
}

// P5.3

func TestAShortPathNeedsNoLongName(t *testing.T) {
	for _, p := range append(slashed(), unsafePaths()...) {
		if len(p) > 100 || !wantSafe(p) {
			continue
		}
		if name, _ := Needs(api.Node{Path: p}); name {
			t.Errorf("Needs of path %q = a name", p)
		}
		if name, prefix, _ := Names(api.Node{Path: p}); name != p || prefix != "" {
			t.Errorf("Names of path %q = %q, %q", p, name, prefix)
		}
	}
}

func TestAHeaderAndOneBlockOfEachLongText(t *testing.T) {
	for size := 101; size <= 300; size++ {
		s := letters(size)
		for _, n := range []api.Node{{Path: s}, {Path: "a", Link: s}, {Path: s, Link: s}} {
			got := Ahead(n)
			name, link := Needs(n)
			want := 0
			for _, need := range []bool{name, link} {
				if need {
					want += 2
				}
			}
			if want == 0 || len(got) != want {
				t.Fatalf("Ahead of path %q, link %q = %d blocks; want %d", n.Path, n.Link, len(got), want)
			}
			for at := 0; at < len(got); at += 2 {
				h, e := head.Get(got[at])
				if e != api.OK || h.Name != "././@LongLink" || h.Size != size+1 || h.Size > len(got[at+1]) {
					t.Errorf("ahead of path %q, link %q stands %#v, %d", n.Path, n.Link, h, e)
				}
				if string(got[at+1][:size+1]) != s+"\x00" {
					t.Errorf("ahead of path %q, link %q stands the text %q", n.Path, n.Link, got[at+1])
				}
			}
		}
	}
}

// What Names answers goes into a header, if the path may be and the link has no byte 0 in its first bytes.
func TestAHeaderMayHaveTheNames(t *testing.T) {
	for _, p := range slashed() {
		if !wantSafe(p) {
			continue
		}
		for _, link := range []string{"", "a", letters(100), letters(101), letters(5000)} {
			name, prefix, to := Names(api.Node{Path: p, Link: link})
			if !head.May(api.Head{Name: name, Prefix: prefix, Link: to, Type: '2'}) {
				t.Errorf("Names of path %q, link %q = %q, %q, %q: no header could have them", p, link, name, prefix, to)
			}
		}
	}
}

// R1

func TestAllSortsOfNodes(t *testing.T) {
	r := rand.New(rand.NewSource(5))
	some := func() string {
		text := make([]byte, r.Intn(320))
		for at := range text {
			text[at] = "abcdefghij\xff/./"[r.Intn(14)]
		}
		if len(text) > 0 && r.Intn(8) == 0 {
			text[r.Intn(len(text))] = 0
		}
		return string(text)
	}
	safe := func() string {
		parts := strings.FieldsFunc(some(), func(x rune) bool { return x == '.' || x == '/' || x == 0 })
		return strings.Join(parts, []string{"", "/", "__________", "/________________/"}[r.Intn(4)])
	}
	for range 5000 {
		checkNode(t, api.Node{Path: some(), Link: some()})
		checkNode(t, api.Node{Path: safe(), Link: some(), Kind: byte(r.Intn(256))})
		checkPut(t, byte(r.Intn(256)), some())
		checkPut(t, "KL"[r.Intn(2)], safe())
	}
}

// R3

func TestAnswersAreNewMemory(t *testing.T) {
	n := api.Node{Path: letters(150), Link: letters(200)}
	want := wantAnswer(n.Path, n.Link)
	for range 2 {
		ahead := Ahead(n)
		put, _ := Put('L', n.Path)
		for _, l := range [][][]byte{ahead, put} {
			for i, b := range l {
				rest := l[i+1:]
				was := make([][]byte, len(rest))
				for k := range rest {
					was[k] = bytes.Clone(rest[k])
				}
				_ = append(b, "behind"...)
				for at := range b {
					b[at] = 'x'
				}
				if !sameBlocks(rest, was) {
					t.Errorf("what was written into block %d stands in one behind it", i)
				}
			}
			clear(l)
		}
		if again := Ahead(n); !sameBlocks(again, want.ahead) {
			t.Errorf("what was written into an answer stands in the next one: %q", again)
		}
		checkPut(t, 'L', n.Path)
		checkPut(t, 'K', n.Link)
	}
	if n.Path != letters(150) || n.Link != letters(200) {
		t.Error("a node has changed")
	}
}

// R5

func TestTheSameAgainWhateverWasAsked(t *testing.T) {
	n := api.Node{Path: letters(101), Link: letters(101)}
	checkNode(t, n)
	for _, p := range []string{"a", "", letters(300), letters(301)} {
		checkNode(t, api.Node{Path: p})
		checkNode(t, n)
	}
}
