package tree

import (
	"fmt"
	"math"
	"math/rand"
	"slices"
	"strings"
	"testing"

	"reelkeeper/api"
)

const mostId = 1099511627776 // 2^40

// letters is a text of so many bytes, without a slash.
func letters(n int) string {
	return strings.Repeat("abcdefghijklmnopqrstuvwxyz", n/26+1)[:n]
}

func file(p string) api.Node { return api.Node{Path: p, Kind: '0'} }

func hard(p, link string) api.Node { return api.Node{Path: p, Link: link, Kind: '1'} }

func sym(p, link string) api.Node { return api.Node{Path: p, Link: link, Kind: '2'} }

func dir(p string) api.Node { return api.Node{Path: p, Kind: '5'} }

// eachKind are nodes that may be alone, one of each kind.
func eachKind() []api.Node {
	return []api.Node{file("a"), hard("a", "b"), sym("a", "b"), dir("a")}
}

// four are a node's numbers.
func four(n *api.Node) []*int {
	return []*int{&n.Mode, &n.Uid, &n.Gid, &n.Mtime}
}

// files are so many files, by rising paths.
func files(n int) []api.Node {
	var list []api.Node
	for i := range n {
		list = append(list, file(fmt.Sprintf("f%03d", i)))
	}
	return list
}

// show tells a node in a line, long texts by their beginning.
func show(list ...api.Node) string {
	var all []string
	for _, n := range list {
		all = append(all, fmt.Sprintf("{%.60q (%d) kind %q link %.60q (%d) %d %d %d %d data (%d)}", n.Path, len(n.Path), n.Kind, n.Link, len(n.Link), n.Mode, n.Uid, n.Gid, n.Mtime, len(n.Data)))
	}
	return fmt.Sprint(len(list), " nodes ", strings.Join(all, " "))
}

// wantSafe says whether a path may be.
func wantSafe(p string) bool {
	if len(p) > 300 || strings.Contains(p, "\x00") {
		return false
	}
	for _, part := range strings.Split(p, "/") {
		if part == "" || part == "." || part == ".." {
			return false
		}
	}
	return true
}

// wantOne says whether a node may be alone.
func wantOne(n api.Node) bool {
	if !wantSafe(n.Path) || n.Mode < 0 || n.Uid < 0 || n.Gid < 0 || n.Mtime < 0 {
		return false
	}
	if n.Mode >= 4096 || n.Uid > mostId || n.Gid > mostId || n.Mtime > mostId {
		return false
	}
	switch n.Kind {
	case '0':
		return len(n.Link) == 0 && len(n.Data) < 4001
	case '1':
		return wantSafe(n.Link) && len(n.Data) == 0 && n.Mode == 0 && n.Uid == 0 && n.Gid == 0 && n.Mtime == 0
	case '2':
		return len(n.Link) > 0 && len(n.Link) < 301 && !strings.Contains(n.Link, "\x00") && len(n.Data) == 0
	case '5':
		return len(n.Link) == 0 && len(n.Data) == 0
	}
	return false
}

// wantMay holds each node against all those ahead of it.
func wantMay(t []api.Node) bool {
	if len(t) >= 21 {
		return false
	}
	for i, n := range t {
		slash := strings.LastIndex(n.Path, "/")
		parent, target := slash < 0, n.Kind != '1'
		for _, m := range t[:i] {
			if m.Path >= n.Path {
				return false
			}
			parent = parent || m.Kind == '5' && m.Path == n.Path[:slash]
			target = target || m.Kind == '0' && m.Path == n.Link
		}
		if !wantOne(n) || !parent || !target {
			return false
		}
	}
	return true
}

// wantSame holds two lists against each other, field by field.
func wantSame(a, b []api.Node) bool {
	if len(a) != len(b) {
		return false
	}
	for i, x := range a {
		y := b[i]
		if x.Path != y.Path || x.Link != y.Link || x.Kind != y.Kind || x.Data != y.Data {
			return false
		}
		if x.Mode != y.Mode || x.Uid != y.Uid || x.Gid != y.Gid || x.Mtime != y.Mtime {
			return false
		}
	}
	return true
}

// wantFind goes through a list from its end, so that the first one counts.
func wantFind(t []api.Node, p string) int {
	place := -1
	for i := len(t) - 1; i >= 0; i-- {
		if t[i].Path == p {
			place = i
		}
	}
	return place
}

// wantUnder says which nodes are below a path.
func wantUnder(t []api.Node, p string) []api.Node {
	var list []api.Node
	for _, n := range t {
		size := len(p)
		if wantSafe(p) && wantSafe(n.Path) && len(n.Path) > size && n.Path[:size] == p && n.Path[size] == '/' {
			list = append(list, n)
		}
	}
	return list
}

// checkOne holds One of a node against what it has to answer, and May of a tree of that node alone.
func checkOne(t *testing.T, n api.Node) {
	t.Helper()
	if got, want := One(n), wantOne(n); got != want {
		t.Errorf("One of %s = %t; want %t", show(n), got, want)
	}
	if got, want := May([]api.Node{n}), wantMay([]api.Node{n}); got != want {
		t.Errorf("May of %s = %t; want %t", show(n), got, want)
	}
}

// isOne holds One of a node against an answer that is written out.
func isOne(t *testing.T, n api.Node, want bool) {
	t.Helper()
	if got := One(n); got != want {
		t.Errorf("One of %s = %t; want %t", show(n), got, want)
	}
	checkOne(t, n)
}

// isTree holds May of a list against an answer that is written out.
func isTree(t *testing.T, list []api.Node, want bool) {
	t.Helper()
	if got := May(list); got != want {
		t.Errorf("May of %s = %t; want %t", show(list...), got, want)
	}
	checkList(t, list)
}

// checkList holds May of a list, and Find and Under of each of its paths and some others, against what they have to answer, and the list itself against what it was.
func checkList(t *testing.T, list []api.Node) {
	t.Helper()
	was := append([]api.Node(nil), list...)
	if got, want := May(list), wantMay(list); got != want {
		t.Errorf("May of %s = %t; want %t", show(list...), got, want)
	}
	for _, p := range asked(list) {
		checkAsked(t, list, p)
	}
	if !Same(list, was) || !wantSame(list, was) {
		t.Errorf("what was handed in has changed: %s; was %s", show(list...), show(was...))
	}
}

// asked are the paths of a list, their beginnings, and texts beside them.
func asked(list []api.Node) []string {
	all := []string{"", "/", "a", "a/", ".", "\x00", letters(301)}
	for _, n := range list {
		all = append(all, n.Path, n.Link, n.Path+"/b", n.Path+"/", n.Path+"b")
		for at := range len(n.Path) {
			if n.Path[at] == '/' || at == len(n.Path)-1 {
				all = append(all, n.Path[:at])
			}
		}
	}
	return all
}

// checkAsked holds Find and Under of a path against what they have to answer.
func checkAsked(t *testing.T, list []api.Node, p string) {
	t.Helper()
	if got, want := Find(list, p), wantFind(list, p); got != want {
		t.Errorf("Find(%s, %.60q) = %d; want %d", show(list...), p, got, want)
	}
	if got, want := Under(list, p), wantUnder(list, p); !wantSame(got, want) {
		t.Errorf("Under(%s, %.60q) = %s; want %s", show(list...), p, show(got...), show(want...))
	}
}

// P6.1: One

func TestOneOfAllKinds(t *testing.T) {
	for kind := range 256 {
		n := api.Node{Path: "a", Kind: byte(kind)}
		isOne(t, n, kind == '0' || kind == '5')
		n.Link = "b"
		isOne(t, n, kind == '1' || kind == '2')
		n.Data = "c"
		isOne(t, n, false)
		n.Link = ""
		isOne(t, n, kind == '0')
	}
	for _, n := range eachKind() {
		isOne(t, n, true)
	}
}

func TestOneOfAFileAtTheEdgesOfItsData(t *testing.T) {
	for _, x := range []struct {
		size int
		want bool
	}{{0, true}, {1, true}, {511, true}, {512, true}, {513, true}, {3999, true}, {4000, true}, {4001, false}, {4002, false}, {8000, false}, {1 << 20, false}} {
		n := file("a")
		n.Data = letters(x.size)
		isOne(t, n, x.want)
		n.Data = strings.Repeat("\x00", x.size)
		isOne(t, n, x.want)
	}
}

func TestOneOfWhatHasNoData(t *testing.T) {
	for _, n := range []api.Node{hard("a", "b"), sym("a", "b"), dir("a")} {
		for _, data := range []string{"x", "\x00", letters(3999), letters(4000), letters(4001)} {
			n.Data = data
			isOne(t, n, false)
		}
		n.Data = ""
		isOne(t, n, true)
	}
}

func TestOneOfWhatHasNoLink(t *testing.T) {
	for _, n := range []api.Node{file("a"), dir("a")} {
		for _, link := range []string{"a", "b", "b/c", "\x00", "..", letters(100), letters(300), letters(301)} {
			n.Link = link
			isOne(t, n, false)
		}
		n.Link = ""
		isOne(t, n, true)
	}
}

func TestOneAtTheEdgesOfItsNumbers(t *testing.T) {
	for _, n := range []api.Node{file("a"), sym("a", "b"), dir("a")} {
		for which, most := range []int{4095, mostId, mostId, mostId} {
			for _, x := range []struct {
				number int
				want   bool
			}{{math.MinInt, false}, {-2, false}, {-1, false}, {0, true}, {1, true}, {most - 1, true}, {most, true}, {most + 1, false}, {most + 2, false}, {math.MaxInt, false}} {
				m := n
				*four(&m)[which] = x.number
				isOne(t, m, x.want)
			}
		}
		m := n
		m.Mode, m.Uid, m.Gid, m.Mtime = 4095, mostId, mostId, mostId
		isOne(t, m, true)
		m.Mode = 4096
		isOne(t, m, false)
	}
}

func TestOneOfAHardLinkWithANumber(t *testing.T) {
	for which := range 4 {
		for _, number := range []int{math.MinInt, -1, 1, 420, 4095, 4096, mostId, mostId + 1, math.MaxInt} {
			n := hard("a", "b")
			*four(&n)[which] = number
			isOne(t, n, false)
		}
	}
	n := hard("a", "b")
	n.Mode, n.Uid = 1, -1
	isOne(t, n, false)
}

func TestOneOfAHardLinksLink(t *testing.T) {
	for _, x := range []struct {
		link string
		want bool
	}{
		{"b", true}, {"a", true}, {"b/c", true}, {"...", true}, {letters(300), true}, {letters(100) + "/" + letters(199), true},
		{"", false}, {"/", false}, {"/b", false}, {"b/", false}, {"b//c", false}, {".", false}, {"..", false}, {"../b", false}, {"b/..", false}, {"b/./c", false},
		{"\x00", false}, {"b\x00", false}, {letters(299) + "\x00", false}, {letters(301), false},
	} {
		isOne(t, hard("a", x.link), x.want)
	}
}

func TestOneOfASymbolicLinksLink(t *testing.T) {
	for _, x := range []struct {
		link string
		want bool
	}{
		{"", false}, {"b", true}, {letters(99), true}, {letters(100), true}, {letters(101), true}, {letters(299), true}, {letters(300), true}, {letters(301), false}, {letters(5000), false},
		{"\x00", false}, {"b\x00", false}, {"\x00b", false}, {"b\x00c", false}, {letters(299) + "\x00", false}, {"\x00" + letters(299), false},
		// It is no path: it may lead wherever it likes, as nothing goes through it.
		{"/", true}, {"/b", true}, {"..", true}, {"../../b", true}, {"b//c", true}, {".", true}, {"a", true},
		{strings.Repeat("é", 150), true}, {strings.Repeat("é", 151), false},
	} {
		isOne(t, sym("a", x.link), x.want)
	}
}

func TestOneOfPaths(t *testing.T) {
	for _, x := range []struct {
		p    string
		want bool
	}{
		{"a", true}, {"a/b", true}, {"...", true}, {"a/.b", true}, {" ", true}, {"\xff", true}, {letters(299), true}, {letters(300), true}, {letters(150) + "/" + letters(149), true},
		{"", false}, {letters(301), false}, {letters(150) + "/" + letters(150), false}, {"/", false}, {"/a", false}, {"a/", false}, {"a//b", false}, {".", false}, {"..", false},
		{"./a", false}, {"../a", false}, {"a/.", false}, {"a/..", false}, {"a/../b", false}, {"a/./b", false}, {"\x00", false}, {"a\x00", false}, {"a/\x00b", false},
	} {
		for _, n := range eachKind() {
			n.Path = x.p
			if got := One(n); got != x.want {
				t.Errorf("One of %s = %t; want %t", show(n), got, x.want)
			}
			checkOne(t, n)
		}
	}
}

// One asks nothing of other nodes: not that there is a parent, nor what a link names.
func TestOneAsksOfNoOtherNode(t *testing.T) {
	for _, n := range []api.Node{file("a/b"), hard("a/b", "a/b"), hard("a/b", "a"), hard("a", "a/b"), hard("b", "c/d"), sym("a/b", "a/b"), dir("a/b/c")} {
		isOne(t, n, true)
	}
}

// P6.1: May

func TestMayOfTheExample(t *testing.T) {
	isTree(t, []api.Node{dir("a"), file("a/b")}, true)
}

func TestMayOfHowMany(t *testing.T) {
	isTree(t, nil, true)
	isTree(t, []api.Node{}, true)
	for _, n := range []int{1, 2, 19, 20, 21, 22, 40, 200} {
		isTree(t, files(n), n <= 20)
	}
	deep := []api.Node{dir("a")}
	for len(deep) < 20 {
		deep = append(deep, dir(deep[len(deep)-1].Path+"/a"))
	}
	isTree(t, deep, true)
	isTree(t, append(deep, file(deep[19].Path+"/a")), false)
}

func TestMayWithANodeThatMayNotBe(t *testing.T) {
	for _, bad := range []api.Node{{}, {Path: "f005x"}, {Path: "f005x", Kind: '7'}, {Path: "f005x", Kind: '0', Link: "a"}, {Path: "f005x", Kind: '0', Mode: -1}, {Path: "f005x", Kind: '0', Uid: mostId + 1}, {Path: "f005x", Kind: '0', Data: letters(4001)}, sym("f005x", ""), dir("f005x\x00"), dir(""), dir("."), hard("f005x", "f001\x00")} {
		isOne(t, bad, false)
		for at := range 11 {
			isTree(t, slices.Insert(files(10), at, bad), false)
		}
	}
	isTree(t, slices.Insert(files(10), 6, file("f005x")), true)
}

func TestMayOfPathsThatRiseOrNot(t *testing.T) {
	for _, x := range []struct {
		p, q string
		want bool
	}{
		{"a", "b", true}, {"b", "a", false}, {"a", "a", false},
		{"a", "aa", true}, {"aa", "a", false}, {"aa", "ab", true}, {"ab", "aa", false}, {"ab", "b", true}, {"b", "ab", false},
		{"Z", "a", true}, {"a", "Z", false}, {"a", "a!", true}, {"a!", "a", false},
		{"10", "9", true}, {"9", "10", false},
		// Bytes count, and a byte is never below 0.
		{"z", "\x80", true}, {"\x80", "z", false}, {"\x7f", "\xff", true}, {"\xff", "\x7f", false}, {"z", "é", true}, {"é", "z", false}, {"\x01", "\x02", true},
		{letters(299), letters(300), true}, {letters(300), letters(299), false}, {letters(300), letters(300), false},
		{letters(299) + "a", letters(299) + "b", true}, {letters(299) + "b", letters(299) + "a", false},
	} {
		for _, kind := range "05" {
			isTree(t, []api.Node{{Path: x.p, Kind: byte(kind)}, {Path: x.q, Kind: '0'}}, x.want)
			isTree(t, []api.Node{file("\x01!"), {Path: x.p, Kind: byte(kind)}, {Path: x.q, Kind: '0'}}, x.want && x.p != "\x01")
		}
	}
	isTree(t, []api.Node{file("a"), file("c"), file("b")}, false)
	isTree(t, []api.Node{file("b"), file("a"), file("c")}, false)
	isTree(t, []api.Node{file("a"), file("b"), file("a")}, false)
	isTree(t, []api.Node{file("a"), file("b"), file("b")}, false)
	// A slash is greater than a dot: what is below a directory need not stand right behind it.
	isTree(t, []api.Node{dir("a"), file("a.b"), file("a/b"), file("a0")}, true)
	isTree(t, []api.Node{dir("a"), file("a/b"), file("a.b")}, false)
	isTree(t, []api.Node{dir("a"), file("a0"), file("a/b")}, false)
}

func TestMayOfParents(t *testing.T) {
	for i, x := range []struct {
		list []api.Node
		want bool
	}{
		{[]api.Node{dir("a"), file("a/b")}, true},
		{[]api.Node{dir("a"), dir("a/b"), dir("a/b/c"), file("a/b/c/d")}, true},
		{[]api.Node{dir("a"), file("a/b"), file("a/c"), file("a/d")}, true},
		{[]api.Node{dir("a"), hard("a/b", "0")}, false},
		{[]api.Node{file("0"), dir("a"), hard("a/b", "0")}, true},
		{[]api.Node{dir("a"), sym("a/b", "..")}, true},
		// It is missing.
		{[]api.Node{file("a/b")}, false},
		{[]api.Node{dir("a/b")}, false},
		{[]api.Node{sym("a/b", "c")}, false},
		{[]api.Node{file("0"), hard("a/b", "0")}, false},
		{[]api.Node{dir("a"), file("a/b/c")}, false},
		{[]api.Node{dir("a"), dir("a/bb"), file("a/bb/c"), file("a/c/d")}, false},
		{[]api.Node{dir("a"), file("b/c")}, false},
		{[]api.Node{dir("a"), file("aa/c")}, false},
		{[]api.Node{dir("aa"), file("ab/c")}, false},
		{[]api.Node{dir("A"), file("a/b")}, false},
		// It stands behind.
		{[]api.Node{file("a/b"), dir("a")}, false},
		{[]api.Node{dir("a"), file("a/b/c"), dir("a/b")}, false},
		// It is no directory.
		{[]api.Node{file("a"), file("a/b")}, false},
		{[]api.Node{file("0"), hard("a", "0"), file("a/b")}, false},
		{[]api.Node{sym("a", "b"), file("a/b")}, false},
		{[]api.Node{sym("a", "."), dir("a/b")}, false},
		{[]api.Node{dir("0"), sym("a", "0"), sym("a/b", "c")}, false},
		{[]api.Node{dir("a"), file("a/b"), file("a/b/c")}, false},
		{[]api.Node{dir("a"), sym("a/b", "c"), dir("a/b/c")}, false},
	} {
		if got := May(x.list); got != x.want {
			t.Errorf("%d: May of %s = %t; want %t", i, show(x.list...), got, x.want)
		}
		checkList(t, x.list)
	}
}

func TestMayOfHardLinks(t *testing.T) {
	for i, x := range []struct {
		list []api.Node
		want bool
	}{
		{[]api.Node{file("a"), hard("b", "a")}, true},
		{[]api.Node{file("a"), hard("b", "a"), hard("c", "a")}, true},
		{[]api.Node{file("a"), file("b"), hard("c", "a"), hard("d", "b")}, true},
		{[]api.Node{dir("a"), file("a/b"), hard("a/c", "a/b"), hard("b", "a/b")}, true},
		{[]api.Node{dir("a"), file("a.b"), hard("a/c", "a.b")}, true},
		// To a file behind.
		{[]api.Node{hard("a", "b"), file("b")}, false},
		{[]api.Node{file("0"), hard("a", "b"), file("b")}, false},
		// To itself.
		{[]api.Node{hard("a", "a")}, false},
		{[]api.Node{file("0"), hard("a", "a")}, false},
		{[]api.Node{file("a"), hard("a", "a")}, false},
		// To what is no file.
		{[]api.Node{dir("a"), hard("b", "a")}, false},
		{[]api.Node{dir("a"), hard("a/b", "a")}, false},
		{[]api.Node{sym("a", "b"), hard("b", "a")}, false},
		{[]api.Node{file("a"), hard("b", "a"), hard("c", "b")}, false},
		{[]api.Node{file("0"), sym("a", "0"), hard("b", "a")}, false},
		// To nothing.
		{[]api.Node{hard("b", "a")}, false},
		{[]api.Node{hard("b", "c")}, false},
		{[]api.Node{file("a"), hard("b", "aa")}, false},
		{[]api.Node{file("aa"), hard("b", "a")}, false},
		{[]api.Node{dir("a"), file("a/b"), hard("a/c", "b")}, false},
		{[]api.Node{dir("a"), file("a/b"), hard("b", "a/c")}, false},
		// A symbolic link may name what it likes.
		{[]api.Node{sym("a", "a")}, true},
		{[]api.Node{sym("a", "b")}, true},
		{[]api.Node{sym("a", "b"), dir("b")}, true},
		{[]api.Node{sym("a", "../b/")}, true},
	} {
		if got := May(x.list); got != x.want {
			t.Errorf("%d: May of %s = %t; want %t", i, show(x.list...), got, x.want)
		}
		checkList(t, x.list)
	}
}

// universe are nodes of which all short lists are tried.
func universe() []api.Node {
	return []api.Node{
		dir("a"), file("a"), sym("a", "b"), hard("a", "b"),
		dir("a/b"), file("a/b"), hard("a/b", "a"), hard("a/b", "b"),
		file("a/b/c"), hard("a/b/c", "a/b"), file("a.b"),
		dir("b"), file("b"), hard("b", "a"), hard("b", "a/b"), sym("b", "a"),
		file("b/c"), hard("c", "b"), hard("c", "c"), file(""), {Path: "c"},
	}
}

func TestAllShortListsOfSomeNodes(t *testing.T) {
	all := universe()
	maybe, long := 0, 0
	var try func(list []api.Node, more int)
	try = func(list []api.Node, more int) {
		got, want := May(list), wantMay(list)
		if got != want {
			t.Errorf("May of %s = %t; want %t", show(list...), got, want)
		}
		if want {
			maybe++
			if len(list) > 3 {
				long++
			}
		}
		if more == 0 {
			return
		}
		for _, n := range all {
			try(append(slices.Clip(list), n), more-1)
		}
	}
	try(nil, 4)
	if maybe < 70 || long < 20 {
		t.Errorf("only %d of the lists may be, %d of them with four nodes", maybe, long)
	}
}

// P6.1: Same

func TestSame(t *testing.T) {
	whole := api.Node{Path: "a", Link: "b", Kind: '0', Mode: 1, Uid: 2, Gid: 3, Mtime: 4, Data: "c"}
	if !Same([]api.Node{whole}, []api.Node{whole}) {
		t.Error("a node is not the same as itself")
	}
	for i, change := range []func(n *api.Node){
		func(n *api.Node) { n.Path = "A" },
		func(n *api.Node) { n.Path = "" },
		func(n *api.Node) { n.Link = "B" },
		func(n *api.Node) { n.Link = "" },
		func(n *api.Node) { n.Kind = '1' },
		func(n *api.Node) { n.Kind = 0 },
		func(n *api.Node) { n.Mode = 0 },
		func(n *api.Node) { n.Uid = 3 },
		func(n *api.Node) { n.Gid = -3 },
		func(n *api.Node) { n.Mtime = 5 },
		func(n *api.Node) { n.Data = "cc" },
		func(n *api.Node) { n.Data = "" },
		func(n *api.Node) { *n = api.Node{} },
	} {
		other := whole
		change(&other)
		for at := range 4 {
			a, b := files(4), files(4)
			a[at], b[at] = whole, other
			if Same(a, b) || Same(b, a) || !Same(a, slices.Clone(a)) {
				t.Errorf("change %d at %d is not seen", i, at)
			}
		}
	}
}

func TestSameOfLists(t *testing.T) {
	two := []api.Node{file("a"), dir("b")}
	for i, x := range []struct {
		a, b []api.Node
		want bool
	}{
		{nil, nil, true}, {nil, []api.Node{}, true}, {[]api.Node{}, []api.Node{}, true}, {make([]api.Node, 0, 5), nil, true},
		{nil, two, false}, {nil, []api.Node{{}}, false}, {[]api.Node{{}}, []api.Node{{}}, true}, {[]api.Node{{}}, []api.Node{{}, {}}, false},
		{two, two, true}, {two, []api.Node{dir("b"), file("a")}, false}, {two, two[:1], false}, {two, two[1:], false},
		{two, append(slices.Clone(two), file("c")), false}, {two, append([]api.Node{file("")}, two...), false},
		{files(20), files(20), true}, {files(21), files(21), true}, {files(21), files(20), false}, {files(200), files(200), true}, {files(200), files(201), false},
		// Whether they may be is not asked.
		{[]api.Node{file("b"), file("a")}, []api.Node{file("b"), file("a")}, true},
		{[]api.Node{file("a"), file("a")}, []api.Node{file("a")}, false},
		{[]api.Node{{Path: "\x00", Kind: 9, Mode: -1}}, []api.Node{{Path: "\x00", Kind: 9, Mode: -1}}, true},
	} {
		if got, back := Same(x.a, x.b), Same(x.b, x.a); got != x.want || back != x.want {
			t.Errorf("%d: Same of %s and %s = %t, and %t back; want %t", i, show(x.a...), show(x.b...), got, back, x.want)
		}
	}
}

// P6.1: Find

func TestFind(t *testing.T) {
	twice := []api.Node{file("a"), file("b"), dir("a"), sym("c", "b"), file("a")}
	for i, x := range []struct {
		list []api.Node
		p    string
		want int
	}{
		{nil, "a", -1}, {nil, "", -1}, {[]api.Node{}, "a", -1},
		{[]api.Node{dir("a"), file("a/b")}, "a", 0}, {[]api.Node{dir("a"), file("a/b")}, "a/b", 1},
		{[]api.Node{dir("a"), file("a/b")}, "b", -1}, {[]api.Node{dir("a"), file("a/b")}, "a/", -1}, {[]api.Node{dir("a"), file("a/b")}, "a/bc", -1}, {[]api.Node{dir("a"), file("a/b")}, "", -1}, {[]api.Node{dir("a"), file("a/b")}, "A", -1},
		{twice, "a", 0}, {twice[1:], "a", 1}, {twice[3:], "a", 1}, {twice, "b", 1}, {twice, "c", 3}, {twice, "d", -1},
		// A link is no path.
		{[]api.Node{sym("a", "b"), hard("b", "c")}, "c", -1}, {[]api.Node{sym("a", "b"), hard("b", "c")}, "b", 1},
		// What may not be is found, too.
		{[]api.Node{{}}, "", 0}, {[]api.Node{file("a"), {}}, "", 1}, {[]api.Node{file("\x00")}, "\x00", 0}, {[]api.Node{file("/a"), file("a/../b")}, "a/../b", 1}, {[]api.Node{file(letters(301))}, letters(301), 0}, {[]api.Node{file(letters(301))}, letters(300), -1},
		{files(20), "f019", 19}, {files(21), "f020", 20}, {files(200), "f199", 199}, {files(200), "f200", -1},
	} {
		if got := Find(x.list, x.p); got != x.want {
			t.Errorf("%d: Find(%s, %.60q) = %d; want %d", i, show(x.list...), x.p, got, x.want)
		}
		checkAsked(t, x.list, x.p)
	}
}

// P6.2

func TestUnder(t *testing.T) {
	list := []api.Node{dir("a"), file("a.b"), dir("a/b"), file("a/b/c"), hard("a/c", "a/b/c"), sym("a/d", "a/b"), file("a0"), dir("aa"), file("aa/a"), dir("b")}
	isTree(t, list, true)
	for i, x := range []struct {
		p    string
		want []api.Node
	}{
		{"a", []api.Node{dir("a/b"), file("a/b/c"), hard("a/c", "a/b/c"), sym("a/d", "a/b")}},
		{"a/b", []api.Node{file("a/b/c")}},
		{"aa", []api.Node{file("aa/a")}},
		// It is there, and nothing below it.
		{"b", nil}, {"a/b/c", nil}, {"a/c", nil}, {"a/d", nil}, {"a.b", nil},
		// It is not there.
		{"c", nil}, {"a/e", nil}, {"A", nil}, {"a/b/c/d", nil},
		// It is the beginning of others, but none has a slash behind it.
		{"a/b/", nil}, {"a/", nil}, {"aa/", nil}, {"a.", nil}, {"", nil},
		// It may not be.
		{"/", nil}, {"/a", nil}, {".", nil}, {"..", nil}, {"a/.", nil}, {"a/..", nil}, {"a//b", nil}, {"a\x00", nil}, {"\x00", nil}, {letters(300), nil}, {letters(301), nil},
	} {
		if got := Under(list, x.p); !wantSame(got, x.want) {
			t.Errorf("%d: Under(%.60q) = %s; want %s", i, x.p, show(got...), show(x.want...))
		}
		checkAsked(t, list, x.p)
	}
}

func TestUnderOfAPathThatIsNotThere(t *testing.T) {
	list := []api.Node{file("a/b"), file("b/c/d"), dir("b/c")}
	for i, x := range []struct {
		p    string
		want []api.Node
	}{{"a", list[:1]}, {"b", list[1:]}, {"b/c", list[1:2]}, {"c", nil}} {
		if got := Under(list, x.p); !wantSame(got, x.want) {
			t.Errorf("%d: Under(%q) = %s; want %s", i, x.p, show(got...), show(x.want...))
		}
	}
}

// The order is that of the list, and what stands there twice is told twice, whether a tree may be or not.
func TestUnderOfListsThatMayNotBe(t *testing.T) {
	list := []api.Node{file("a/z"), file("b"), file("a/b"), dir("a"), file("a/z"), {Path: "a/c", Mode: -1}, file("a/../c"), file("a//c"), file("a/"), file("a/b\x00"), {}, file("a/" + letters(298)), file("a/" + letters(299))}
	want := []api.Node{file("a/z"), file("a/b"), file("a/z"), {Path: "a/c", Mode: -1}, file("a/" + letters(298))}
	if got := Under(list, "a"); !wantSame(got, want) {
		t.Errorf("Under = %s; want %s", show(got...), show(want...))
	}
	checkList(t, list)
	var many []api.Node
	for range 30 {
		many = append(many, file("a/b"), file("b"))
	}
	if got := Under(many, "a"); len(got) != 30 {
		t.Errorf("Under = %s; want 30 nodes", show(got...))
	}
	checkList(t, many)
	for _, none := range [][]api.Node{nil, {}} {
		checkList(t, none)
	}
}

// P6.3

// grown is a tree that may be, of nodes put where they may stand.
func grown(r *rand.Rand) []api.Node {
	places, named := []string{""}, []string(nil)
	byPath := map[string]api.Node{}
	for range r.Intn(30) {
		p := places[r.Intn(len(places))] + []string{"a", "b", "c", "a.", "a0", "\xff", letters(90)}[r.Intn(7)]
		if _, there := byPath[p]; there || len(p) > 290 || len(byPath) == 20 {
			continue
		}
		n := api.Node{Path: p, Kind: "0255"[r.Intn(4)], Mode: r.Intn(4096), Uid: r.Intn(mostId + 1), Gid: r.Intn(3), Mtime: r.Intn(mostId + 1)}
		switch n.Kind {
		case '0':
			n.Data = letters(r.Intn(4001))
			named = append(named, p)
		case '2':
			n.Link = "../" + letters(r.Intn(290))
		case '5':
			places = append(places, p+"/")
		}
		byPath[p] = n
	}
	for _, p := range named {
		if len(byPath) < 20 && r.Intn(2) == 0 {
			byPath[p+"\xfe"] = hard(p+"\xfe", p)
		}
	}
	var list []api.Node
	for _, n := range byPath {
		list = append(list, n)
	}
	slices.SortFunc(list, func(a, b api.Node) int { return strings.Compare(a.Path, b.Path) })
	return list
}

func TestTheFirstNodesOfATreeMayBe(t *testing.T) {
	r := rand.New(rand.NewSource(6))
	deep := 0
	for range 600 {
		list := grown(r)
		for many := range len(list) + 1 {
			if !May(list[:many]) {
				t.Fatalf("May of the first %d of %s = false", many, show(list...))
			}
		}
		for i, n := range list {
			under := Under(list, n.Path)
			for _, m := range under {
				if Find(list, m.Path) <= i {
					t.Errorf("%.60q stands behind %.60q, which is under it", n.Path, m.Path)
				}
			}
			if n.Kind != '5' && len(under) > 0 {
				t.Errorf("%s are under %s", show(under...), show(n))
			}
			deep += len(under)
		}
		checkList(t, list)
	}
	if deep < 1000 {
		t.Errorf("only %d nodes stand under others", deep)
	}
}

// A tree that may be, with one thing changed, may be or not as its promise says.
func TestTreesWithOneThingChanged(t *testing.T) {
	r := rand.New(rand.NewSource(66))
	yes, no := 0, 0
	for range 3000 {
		list := grown(r)
		if len(list) == 0 {
			continue
		}
		i, k := r.Intn(len(list)), r.Intn(len(list))
		switch n := &list[i]; r.Intn(8) {
		case 0:
			list[i], list[k] = list[k], list[i]
		case 1:
			list = slices.Delete(list, i, i+1)
		case 2:
			list = slices.Insert(list, k, *n)
		case 3:
			n.Path = list[k].Path
		case 4:
			n.Kind = "01257"[r.Intn(5)]
		case 5:
			n.Link = list[k].Path
		case 6:
			*four(n)[r.Intn(4)] = []int{-1, 0, 4095, 4096, mostId, mostId + 1}[r.Intn(6)]
		case 7:
			n.Data = letters(3999 + r.Intn(3))
		}
		checkList(t, list)
		if wantMay(list) {
			yes++
		} else {
			no++
		}
	}
	if yes < 300 || no < 300 {
		t.Errorf("%d lists may be, and %d may not", yes, no)
	}
}

// R1

func TestAllSortsOfNodes(t *testing.T) {
	r := rand.New(rand.NewSource(67))
	some := func() string {
		text := make([]byte, []int{0, 1, 2, 3, 5, 8, 298, 301}[r.Intn(8)]+r.Intn(4))
		for at := range text {
			text[at] = "abc\xff/."[r.Intn(6)]
		}
		if len(text) > 0 && r.Intn(8) == 0 {
			text[r.Intn(len(text))] = 0
		}
		return string(text)
	}
	number := func() int {
		return []int{math.MinInt, -1, 0, 0, 0, 0, 0, 420, 4096, mostId + 1, math.MaxInt}[r.Intn(11)]
	}
	for range 1000 {
		list := make([]api.Node, r.Intn(6)*r.Intn(6))
		for i := range list {
			list[i] = api.Node{Path: some(), Link: some(), Kind: "012512570K"[r.Intn(10)], Mode: number(), Uid: number(), Gid: number(), Mtime: number()}
			if r.Intn(4) == 0 {
				list[i].Data = letters(r.Intn(2) * 4001)
			}
			checkOne(t, list[i])
		}
		checkList(t, list)
	}
}

// R3

func TestWhatIsHandedInStays(t *testing.T) {
	room := make([]api.Node, 3, 8)
	copy(room, []api.Node{dir("a"), file("a/b"), file("a/c")})
	was := append([]api.Node(nil), room[:8]...)
	if !May(room) || Find(room, "a/b") != 1 || !Same(room, room) || len(Under(room, "a")) != 2 {
		t.Error("wrong answers")
	}
	if !wantSame(room[:8], was) {
		t.Errorf("what was handed in has changed: %s", show(room[:8]...))
	}
}

func TestAnswersAreNewMemory(t *testing.T) {
	list := []api.Node{dir("a"), file("a/b"), file("a/c"), file("b")}
	was := append([]api.Node(nil), list...)
	want := was[1:3]
	got := Under(list, "a")
	list[1], list[2] = file("x"), file("y")
	if !wantSame(got, want) {
		t.Errorf("what was handed in is seen in the answer: %s", show(got...))
	}
	copy(list, was)
	got[0] = file("z")
	_ = append(got, file("z"))
	_ = append(got[:1], file("z"))
	if !wantSame(list, was) {
		t.Errorf("what was written into the answer is seen in what was handed in: %s", show(list...))
	}
	if again := Under(list, "a"); !wantSame(again, want) {
		t.Errorf("what was written into an answer stands in the next one: %s", show(again...))
	}
}

// R5

func TestTheSameAgainWhateverWasAsked(t *testing.T) {
	list := []api.Node{dir("a"), file("a/b"), hard("b", "a/b")}
	for _, other := range [][]api.Node{nil, files(21), {hard("b", "a/b")}, {{}}, {file("a"), file("a/b")}, list[:2]} {
		isTree(t, list, true)
		checkList(t, other)
	}
	isTree(t, list, true)
}
