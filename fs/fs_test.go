package fs

import (
	"fmt"
	"math"
	"math/rand"
	"slices"
	"strings"
	"testing"

	"reelkeeper/api"
	"reelkeeper/tree"
)

const mostId = 1099511627776 // 2^40

// letters is a text of so many bytes, without a slash.
func letters(n int) string {
	return strings.Repeat("abcdefghijklmnopqrstuvwxyz", n/26+1)[:n]
}

func file(p, data string) api.Node { return api.Node{Path: p, Kind: '0', Data: data} }

func hard(p, link string) api.Node { return api.Node{Path: p, Link: link, Kind: '1'} }

func sym(p, link string) api.Node { return api.Node{Path: p, Link: link, Kind: '2'} }

func dir(p string) api.Node { return api.Node{Path: p, Kind: '5'} }

func of(list ...api.Node) api.Fs { return api.Fs{N: list} }

// files are so many files, by rising paths.
func files(n int) api.Fs {
	var f api.Fs
	for i := range n {
		f.N = append(f.N, file(fmt.Sprintf("f%03d", i), "x"))
	}
	return f
}

// deep are so many directories, each in the one ahead.
func deep(n int) api.Fs {
	var f api.Fs
	for i := range n {
		f.N = append(f.N, dir(strings.Repeat("a/", i)+"a"))
	}
	return f
}

// mixed has nodes of each kind, in directories and beside them.
func mixed() api.Fs {
	return of(
		hard("0", "a/f"),
		api.Node{Path: "a", Kind: '5', Mode: 0755, Uid: 1, Gid: 2, Mtime: 3},
		file("a.b", ""),
		dir("a/d"),
		file("a/d/f", "inner"),
		sym("a/d/l", "../f"),
		api.Node{Path: "a/f", Kind: '0', Mode: 4095, Uid: mostId, Gid: mostId, Mtime: mostId, Data: "bytes"},
		hard("a/h", "a/f"),
		sym("a/l", "d"),
		dir("b"),
		sym("c", "a"),
		sym("d", "a/f"),
	)
}

// full has as many nodes as there may be, of each kind.
func full() api.Fs {
	f := mixed()
	for len(f.N) < 20 {
		f.N = append(f.N, file(fmt.Sprintf("f%03d", len(f.N)), "x"))
	}
	return f
}

// goodOnes are file systems that may be.
func goodOnes() []api.Fs {
	return []api.Fs{
		{}, {N: []api.Node{}},
		of(file("a", "")), of(file("a", letters(3999))), of(file("a", letters(4000))), of(sym("a", "b")), of(dir("a")),
		of(file("a", "b"), hard("b", "a")), of(hard("a", "b"), file("b", "c")), of(dir("a"), file("a/b", "c")),
		of(file(letters(300), "x")), of(sym("a", letters(300))), of(dir(letters(149)), file(letters(149)+"/"+letters(150), "x")),
		mixed(), full(), files(1), files(2), files(19), files(20), deep(19), deep(20),
	}
}

// badNodes are nodes that may not be alone, all of one path.
func badNodes(p string) []api.Node {
	return []api.Node{
		{Path: p}, {Path: p, Kind: '7'}, {Path: p, Kind: 'L'}, {Path: p, Kind: 255},
		{Path: p, Kind: '0', Link: "a"}, file(p, letters(4001)), file(p, letters(1<<14)),
		{Path: p, Kind: '0', Mode: -1}, {Path: p, Kind: '0', Mode: 4096}, {Path: p, Kind: '0', Uid: mostId + 1}, {Path: p, Kind: '5', Gid: -1}, {Path: p, Kind: '2', Link: "a", Mtime: mostId + 1}, {Path: p, Kind: '0', Mtime: math.MinInt},
		hard(p, ""), hard(p, ".."), hard(p, "f000/"), hard(p, "f000\x00"), hard(p, letters(301)), {Path: p, Kind: '1', Link: "f000", Mode: 1}, {Path: p, Kind: '1', Link: "f000", Data: "x"},
		sym(p, ""), sym(p, "a\x00"), sym(p, letters(301)), {Path: p, Kind: '2', Link: "a", Data: "x"},
		{Path: p, Kind: '5', Link: "a"}, {Path: p, Kind: '5', Data: "x"},
	}
}

// badPaths are paths that may not be.
func badPaths() []string {
	return []string{"", "/", "/a", "a/", "a//b", ".", "..", "./a", "../a", "a/.", "a/..", "a/../b", "\x00", "a\x00", "a/\x00b", letters(301), letters(150) + "/" + letters(150), letters(1 << 16)}
}

// badOnes are file systems that may not be.
func badOnes() []api.Fs {
	list := []api.Fs{
		files(21), files(22), files(200), deep(21),
		of(file("b", ""), file("a", "")), of(file("a", ""), file("a", "")), of(dir("a"), file("b", ""), file("a/b", "")),
		of(api.Node{}), of(file("a/b", "")), of(dir("a/b")), of(file("a", ""), file("a/b", "")), of(sym("a", "b"), file("a/b", ""), dir("b")),
		of(hard("a", "a")), of(hard("a", "b")), of(hard("a", "b"), dir("b")), of(dir("a"), sym("b", "a"), hard("c", "b")), of(file("a", ""), hard("b", "a"), hard("c", "b")),
	}
	for _, n := range badNodes("f005x") {
		for _, at := range []int{0, 3, 6} {
			f := files(10)
			f.N[at] = n
			f.N[at].Path = fmt.Sprintf("f%03d", at)
			list = append(list, f)
		}
	}
	for _, p := range badPaths() {
		list = append(list, of(file(p, "x")))
	}
	return list
}

// pool are nodes of which all short lists are tried, and which are put into each of these.
func pool() []api.Node {
	return []api.Node{
		dir("a"), file("a", "x"), sym("a", "b"), hard("a", "b"), hard("a", "a"),
		dir("a/b"), file("a/b", letters(4000)), hard("a/b", "b"), sym("a/b", "c"),
		file("a/b/c", "y"),
		file("b", letters(3999)), hard("b", "a"), hard("b", "a/b"), dir("b"),
		hard("c", "b"), file("c/d", ""), file("", ""), {Path: "c"},
	}
}

// shown tells a node in a few words, long texts by their beginning.
func shown(n api.Node) string {
	return fmt.Sprintf("{%.40q (%d) kind %q link %.40q (%d) %d %d %d %d data %.20q (%d)}", n.Path, len(n.Path), n.Kind, n.Link, len(n.Link), n.Mode, n.Uid, n.Gid, n.Mtime, n.Data, len(n.Data))
}

func show(f api.Fs) string {
	var all []string
	for _, n := range f.N {
		all = append(all, shown(n))
	}
	return fmt.Sprint(len(f.N), " nodes ", strings.Join(all, " "))
}

func cloned(f api.Fs) api.Fs {
	return api.Fs{N: append([]api.Node(nil), f.N...)}
}

// isSame holds two file systems against each other, field by field.
func isSame(f, g api.Fs) bool {
	if len(f.N) != len(g.N) {
		return false
	}
	for i, x := range f.N {
		y := g.N[i]
		if x.Path != y.Path || x.Link != y.Link || x.Kind != y.Kind || x.Data != y.Data {
			return false
		}
		if x.Mode != y.Mode || x.Uid != y.Uid || x.Gid != y.Gid || x.Mtime != y.Mtime {
			return false
		}
	}
	return true
}

// wantAt goes through all nodes for one of a path.
func wantAt(f api.Fs, p string) (int, bool) {
	for i, n := range f.N {
		if n.Path == p {
			return i, true
		}
	}
	return 0, false
}

// wantKind says whether there is a node of a path and a kind.
func wantKind(f api.Fs, p string, kind byte) bool {
	i, ok := wantAt(f, p)
	return ok && f.N[i].Kind == kind
}

// wantRoom says whether there is a directory for a node, and a file for its link.
func wantRoom(f api.Fs, n api.Node) bool {
	if slash := strings.LastIndex(n.Path, "/"); slash >= 0 && !wantKind(f, n.Path[:slash], '5') {
		return false
	}
	return n.Kind != '1' || wantKind(f, n.Link, '0')
}

// wantMay holds each node against all others.
func wantMay(f api.Fs) bool {
	if len(f.N) >= 21 {
		return false
	}
	for i, n := range f.N {
		for _, m := range f.N[:i] {
			if m.Path >= n.Path {
				return false
			}
		}
		if !tree.One(n) || !wantRoom(f, n) {
			return false
		}
	}
	return true
}

func wantGet(f api.Fs, p string) (api.Node, api.Errno) {
	if !wantMay(f) {
		return api.Node{}, api.ErrArg
	}
	if i, ok := wantAt(f, p); ok {
		return f.N[i], api.OK
	}
	return api.Node{}, api.ErrNone
}

// wantPut puts the node behind all others and sorts them.
func wantPut(f api.Fs, n api.Node) (api.Fs, api.Errno) {
	next := cloned(f)
	if !wantMay(f) || !tree.One(n) {
		return next, api.ErrArg
	}
	if _, there := wantAt(f, n.Path); there {
		return next, api.ErrThere
	}
	if !wantRoom(f, n) {
		return next, api.ErrNone
	}
	if len(f.N) >= 20 {
		return next, api.ErrEnd
	}
	next.N = append(next.N, n)
	slices.SortFunc(next.N, func(a, b api.Node) int { return strings.Compare(a.Path, b.Path) })
	return next, api.OK
}

func wantGrow(f api.Fs, p, data string) (api.Fs, api.Errno) {
	next := cloned(f)
	if !wantMay(f) {
		return next, api.ErrArg
	}
	if !wantKind(f, p, '0') {
		return next, api.ErrNone
	}
	i, _ := wantAt(f, p)
	whole := f.N[i].Data + data
	if len(whole) >= 4001 {
		return next, api.ErrEnd
	}
	next.N[i].Data = whole
	return next, api.OK
}

func wantText(f api.Fs, p string) (string, api.Errno) {
	if !wantMay(f) {
		return "", api.ErrArg
	}
	for _, n := range f.N {
		for _, m := range f.N {
			if n.Path == p && m.Kind == '0' && (n.Path == m.Path || n.Kind == '1' && n.Link == m.Path) {
				return m.Data, api.OK
			}
		}
	}
	return "", api.ErrNone
}

// checkMay holds May against an answer that is written out, and against the model's.
func checkMay(t *testing.T, f api.Fs, want bool) {
	t.Helper()
	if got := May(f); got != want {
		t.Errorf("May of %s = %t; want %t", show(f), got, want)
	}
	checkAll(t, f)
}

// checkGet holds Get against the model, and answers its error.
func checkGet(t *testing.T, f api.Fs, p string) api.Errno {
	t.Helper()
	was := cloned(f)
	got, e := Get(f, p)
	if want, err := wantGet(was, p); got != want || e != err {
		t.Errorf("Get(%s, %.40q) = %s, %d; want %s, %d", show(f), p, shown(got), e, shown(want), err)
	}
	checkStays(t, f, was)
	return e
}

// checkPut holds Put against the model, and answers what it answers.
func checkPut(t *testing.T, f api.Fs, n api.Node) (api.Fs, api.Errno) {
	t.Helper()
	was := cloned(f)
	got, e := Put(f, n)
	if want, err := wantPut(was, n); !isSame(got, want) || e != err {
		t.Errorf("Put(%s, %s) = %s, %d; want %s, %d", show(f), shown(n), show(got), e, show(want), err)
	}
	checkStays(t, f, was)
	return got, e
}

// checkGrow holds Grow against the model, and answers what it answers.
func checkGrow(t *testing.T, f api.Fs, p, data string) (api.Fs, api.Errno) {
	t.Helper()
	was := cloned(f)
	got, e := Grow(f, p, data)
	if want, err := wantGrow(was, p, data); !isSame(got, want) || e != err {
		t.Errorf("Grow(%s, %.40q, %d bytes) = %s, %d; want %s, %d", show(f), p, len(data), show(got), e, show(want), err)
	}
	checkStays(t, f, was)
	return got, e
}

// checkText holds Text against the model, and answers its error.
func checkText(t *testing.T, f api.Fs, p string) api.Errno {
	t.Helper()
	was := cloned(f)
	got, e := Text(f, p)
	if want, err := wantText(was, p); got != want || e != err {
		t.Errorf("Text(%s, %.40q) = %d bytes, %d; want %d bytes, %d", show(f), p, len(got), e, len(want), err)
	}
	checkStays(t, f, was)
	return e
}

func checkStays(t *testing.T, f, was api.Fs) {
	t.Helper()
	if !isSame(f, was) {
		t.Errorf("what was handed in has changed: %s; was %s", show(f), show(was))
	}
}

// isPut holds Put against an error that is written out.
func isPut(t *testing.T, f api.Fs, n api.Node, want api.Errno) {
	t.Helper()
	if _, e := checkPut(t, f, n); e != want {
		t.Errorf("Put(%s, %s): %d; want %d", show(f), shown(n), e, want)
	}
}

// isGrown holds Grow against an error that is written out.
func isGrown(t *testing.T, f api.Fs, p, data string, want api.Errno) {
	t.Helper()
	if _, e := checkGrow(t, f, p, data); e != want {
		t.Errorf("Grow(%s, %.40q, %d bytes): %d; want %d", show(f), p, len(data), e, want)
	}
}

// isText holds Text against bytes and an error that are written out.
func isText(t *testing.T, f api.Fs, p, want string, err api.Errno) {
	t.Helper()
	if got, e := Text(f, p); got != want || e != err {
		t.Errorf("Text(%s, %.40q) = %.20q (%d), %d; want %.20q (%d), %d", show(f), p, got, len(got), e, want, len(want), err)
	}
	checkText(t, f, p)
}

// asked are the paths of a file system, their beginnings, and texts beside them.
func asked(f api.Fs) []string {
	all := append(badPaths(), "a", "a/b", "b", "zz", letters(300))
	for _, n := range f.N {
		all = append(all, n.Path, n.Link, n.Path+"/b", n.Path+"/", n.Path+"b", n.Path+"\x00")
		if len(n.Path) > 0 {
			all = append(all, n.Path[:len(n.Path)-1])
		}
	}
	return all
}

// checkAll holds all calls of a file system against the model.
func checkAll(t *testing.T, f api.Fs) {
	t.Helper()
	was := cloned(f)
	if got, want := May(f), wantMay(f); got != want {
		t.Errorf("May of %s = %t; want %t", show(f), got, want)
	}
	if !Same(f, was) || !Same(was, f) {
		t.Errorf("%s is not the same as itself", show(f))
	}
	for _, p := range asked(f) {
		checkGet(t, f, p)
		checkText(t, f, p)
		checkGrow(t, f, p, "")
		checkGrow(t, f, p, "more")
	}
	for _, n := range append(pool(), f.N...) {
		checkPut(t, f, n)
	}
	checkStays(t, f, was)
}

// The example.
func TestTheExample(t *testing.T) {
	none := api.Fs{}
	isPut(t, none, file("a/b", "x"), api.ErrNone)
	one, e := Put(none, dir("a"))
	if e != api.OK || !isSame(one, of(dir("a"))) {
		t.Fatalf("Put of a = %s, %d", show(one), e)
	}
	two, e := Put(one, file("a/b", "x"))
	if e != api.OK || !isSame(two, of(dir("a"), file("a/b", "x"))) {
		t.Fatalf("Put of a/b = %s, %d", show(two), e)
	}
}

// P19.1: May

func TestMayOfGoodAndBadOnes(t *testing.T) {
	for _, f := range goodOnes() {
		checkMay(t, f, true)
	}
	for _, f := range badOnes() {
		checkMay(t, f, false)
	}
}

func TestMayOfHowMany(t *testing.T) {
	for _, n := range []int{0, 1, 2, 18, 19, 20, 21, 22, 40} {
		checkMay(t, files(n), n <= 20)
		checkMay(t, deep(n), n <= 20)
	}
	if May(files(100000)) {
		t.Error("100000 nodes may be")
	}
}

func TestMayWithANodeThatMayNotBeAlone(t *testing.T) {
	for _, bad := range badNodes("f005x") {
		for at := range 11 {
			// At its place the path rises, so that nothing but the node itself is wrong.
			f := files(10)
			bad.Path = fmt.Sprintf("f%03dx", at-1)
			if at == 0 {
				bad.Path = "a"
			}
			f.N = slices.Insert(f.N, at, bad)
			if May(f) || wantMay(f) {
				t.Errorf("%s may be at %d", shown(bad), at)
			}
			f.N[at] = file(bad.Path, "x")
			if !May(f) {
				t.Errorf("May of %s = false", show(f))
			}
		}
	}
}

func TestMayOfPathsThatRiseOrNot(t *testing.T) {
	for _, x := range []struct {
		p, q string
		want bool
	}{
		{"a", "b", true}, {"b", "a", false}, {"a", "a", false}, {"a", "aa", true}, {"aa", "a", false}, {"ab", "b", true}, {"b", "ab", false},
		{"Z", "a", true}, {"a", "Z", false}, {"10", "9", true}, {"9", "10", false},
		{"z", "\x80", true}, {"\x80", "z", false}, {"\x7f", "\xff", true}, {"\xff", "\x7f", false}, {"z", "é", true}, {"é", "z", false}, {"\x01", "\x02", true},
		{letters(299), letters(300), true}, {letters(300), letters(299), false}, {letters(300), letters(300), false},
	} {
		for _, kind := range "05" {
			a, b := api.Node{Path: x.p, Kind: byte(kind)}, file(x.q, "x")
			checkMay(t, of(a, b), x.want)
			checkMay(t, of(a, b, file("\xff\xff", "")), x.want)
			checkMay(t, of(file("\x01\x01", ""), a, b), x.want && x.p != "\x01")
		}
	}
	for at := range 20 {
		for to := range 20 {
			f := files(20)
			f.N[at], f.N[to] = f.N[to], f.N[at]
			checkOnly(t, f, at == to)
			f = files(20)
			f.N[at] = f.N[to]
			checkOnly(t, f, at == to)
		}
	}
	// A slash is greater than a dot: what is below a directory need not stand right behind it.
	checkMay(t, of(dir("a"), file("a.b", ""), file("a/b", ""), file("a0", "")), true)
	checkMay(t, of(dir("a"), file("a/b", ""), file("a.b", "")), false)
	checkMay(t, of(dir("a"), file("a0", ""), file("a/b", "")), false)
}

// checkOnly holds May alone against an answer that is written out, and against the model's.
func checkOnly(t *testing.T, f api.Fs, want bool) {
	t.Helper()
	if got := May(f); got != want || wantMay(f) != want {
		t.Errorf("May of %s = %t; want %t", show(f), got, want)
	}
}

func TestMayOfParents(t *testing.T) {
	for _, x := range []struct {
		f    api.Fs
		want bool
	}{
		{of(dir("a"), file("a/b", "")), true},
		{of(dir("a"), dir("a/b"), dir("a/b/c"), file("a/b/c/d", "")), true},
		{of(dir("a"), sym("a/b", "..")), true},
		{of(file("0", ""), dir("a"), hard("a/b", "0")), true},
		// It is missing.
		{of(file("a/b", "")), false}, {of(dir("a/b")), false}, {of(sym("a/b", "c")), false}, {of(file("0", ""), hard("a/b", "0")), false},
		{of(dir("a"), file("a/b/c", "")), false}, {of(dir("a"), dir("a/bb"), file("a/bb/c", ""), file("a/c/d", "")), false},
		{of(dir("a"), file("b/c", "")), false}, {of(dir("a"), file("aa/c", "")), false}, {of(dir("A"), file("a/b", "")), false},
		// It stands behind.
		{of(file("a/b", ""), dir("a")), false}, {of(dir("a"), file("a/b/c", ""), dir("a/b")), false},
		// It is no directory.
		{of(file("a", ""), file("a/b", "")), false}, {of(file("0", ""), hard("a", "0"), file("a/b", "")), false},
		{of(sym("a", "b"), file("a/b", "")), false}, {of(sym("a", "."), dir("a/b")), false},
		{of(dir("0"), sym("a", "0"), sym("a/b", "c")), false}, {of(dir("a"), sym("a/b", "c"), dir("a/b/c")), false},
	} {
		checkMay(t, x.f, x.want)
	}
}

func TestMayOfHardLinks(t *testing.T) {
	for _, x := range []struct {
		f    api.Fs
		want bool
	}{
		{of(file("a", ""), hard("b", "a")), true},
		{of(file("a", ""), hard("b", "a"), hard("c", "a")), true},
		{of(dir("a"), file("a/b", ""), hard("a/c", "a/b"), hard("b", "a/b")), true},
		// To a file behind: here it need not stand ahead.
		{of(hard("a", "b"), file("b", "")), true},
		{of(hard("a", "c"), hard("b", "c"), file("c", "")), true},
		{of(hard("0", "a/b"), dir("a"), hard("a/a", "a/b"), file("a/b", "")), true},
		// To itself.
		{of(hard("a", "a")), false}, {of(file("0", ""), hard("a", "a")), false}, {of(hard("a", "a"), file("b", "")), false},
		{of(file("a", ""), hard("a", "a")), false}, {of(hard("a", "a"), file("a", "")), false},
		// To what is no file.
		{of(dir("a"), hard("b", "a")), false}, {of(dir("a"), hard("a/b", "a")), false}, {of(hard("a", "b"), dir("b")), false},
		{of(sym("a", "b"), hard("b", "a")), false}, {of(hard("a", "b"), sym("b", "a")), false}, {of(file("0", ""), sym("a", "0"), hard("b", "a")), false},
		{of(file("a", ""), hard("b", "a"), hard("c", "b")), false}, {of(hard("a", "b"), hard("b", "c"), file("c", "")), false}, {of(hard("a", "b"), hard("b", "a")), false},
		// To nothing.
		{of(hard("b", "a")), false}, {of(hard("b", "c")), false}, {of(file("a", ""), hard("b", "aa")), false}, {of(file("aa", ""), hard("b", "a")), false},
		{of(dir("a"), file("a/b", ""), hard("a/c", "b")), false}, {of(dir("a"), file("a/b", ""), hard("b", "a/c")), false},
		// A symbolic link may name what it likes.
		{of(sym("a", "a")), true}, {of(sym("a", "b")), true}, {of(sym("a", "../b/")), true},
	} {
		checkMay(t, x.f, x.want)
	}
}

// Each node of a file system that may be is missed, if something needs it.
func TestMayWithOneNodeLess(t *testing.T) {
	for _, f := range []api.Fs{mixed(), full()} {
		for at, n := range f.N {
			less := api.Fs{N: slices.Delete(slices.Clone(f.N), at, at+1)}
			needed := n.Path == "a" || n.Path == "a/d" || n.Path == "a/f"
			checkMay(t, less, !needed)
		}
	}
}

func TestAllShortListsOfSomeNodes(t *testing.T) {
	all := pool()
	some := 0
	var try func(list []api.Node, more int)
	try = func(list []api.Node, more int) {
		f := api.Fs{N: list}
		if got, want := May(f), wantMay(f); got != want {
			t.Errorf("May of %s = %t; want %t", show(f), got, want)
		} else if got {
			some++
		}
		for _, n := range all {
			checkPut(t, f, n)
			checkGet(t, f, n.Path)
			checkText(t, f, n.Path)
			checkGrow(t, f, n.Path, "z")
			if more > 0 {
				try(append(slices.Clip(list), n), more-1)
			}
		}
	}
	try(nil, 3)
	if some < 30 {
		t.Errorf("only %d of the lists may be", some)
	}
}

// P19.1: Same

func TestSameSeesEachField(t *testing.T) {
	whole := api.Node{Path: "a", Link: "b", Kind: '0', Mode: 1, Uid: 2, Gid: 3, Mtime: 4, Data: "c"}
	for i, change := range []func(n *api.Node){
		func(n *api.Node) { n.Path = "A" },
		func(n *api.Node) { n.Path = "" },
		func(n *api.Node) { n.Link = "B" },
		func(n *api.Node) { n.Kind = '1' },
		func(n *api.Node) { n.Mode = 0 },
		func(n *api.Node) { n.Uid = 3 },
		func(n *api.Node) { n.Gid = -3 },
		func(n *api.Node) { n.Mtime = 5 },
		func(n *api.Node) { n.Data = "cc" },
		func(n *api.Node) { n.Data = "" },
	} {
		other := whole
		change(&other)
		for at := range 4 {
			a, b := files(4), files(4)
			a.N[at], b.N[at] = whole, other
			if Same(a, b) || Same(b, a) || !Same(a, cloned(a)) {
				t.Errorf("change %d at %d is not seen", i, at)
			}
		}
	}
}

func TestSameOfTwo(t *testing.T) {
	for i, x := range []struct {
		a, b api.Fs
		want bool
	}{
		{api.Fs{}, api.Fs{}, true}, {api.Fs{}, api.Fs{N: []api.Node{}}, true}, {api.Fs{N: make([]api.Node, 0, 5)}, api.Fs{}, true},
		{api.Fs{}, of(api.Node{}), false}, {of(api.Node{}), of(api.Node{}), true}, {of(api.Node{}), of(api.Node{}, api.Node{}), false},
		{files(20), files(20), true}, {files(20), files(19), false}, {files(2), of(files(2).N[1], files(2).N[0]), false}, {files(2), api.Fs{N: files(2).N[1:]}, false},
		// Whether they may be is not asked.
		{files(21), files(21), true}, {files(200), files(201), false}, {of(file("b", ""), file("a", "")), of(file("b", ""), file("a", "")), true},
		{of(file("a", ""), file("a", "")), of(file("a", "")), false}, {of(api.Node{Path: "\x00", Mode: -1}), of(api.Node{Path: "\x00", Mode: -1}), true},
		// A hard link is not the file that it names.
		{of(file("a", ""), hard("b", "a")), of(file("a", ""), file("b", "")), false},
	} {
		if got, back := Same(x.a, x.b), Same(x.b, x.a); got != x.want || back != x.want {
			t.Errorf("%d: Same of %s and %s = %t, and %t back; want %t", i, show(x.a), show(x.b), got, back, x.want)
		}
	}
	for i, f := range goodOnes() {
		for j, g := range goodOnes() {
			want := i == j || i+j == 1
			if got := Same(f, g); got != want {
				t.Errorf("Same of %s and %s = %t; want %t", show(f), show(g), got, want)
			}
		}
	}
}

// P19.1: Get

func TestGetOfEachNode(t *testing.T) {
	for n := range 21 {
		for _, f := range []api.Fs{files(n), deep(n)} {
			for _, x := range f.N {
				if got, e := Get(f, x.Path); got != x || e != api.OK {
					t.Errorf("Get(%s, %q) = %s, %d", show(f), x.Path, shown(got), e)
				}
			}
			for _, p := range []string{"", "a0", "f", "f00", "f0000", "f019x", "f020", "zz", "\xff"} {
				if got, e := Get(f, p); got != (api.Node{}) || e != api.ErrNone {
					t.Errorf("Get(%s, %q) = %s, %d", show(f), p, shown(got), e)
				}
			}
		}
	}
	for _, f := range []api.Fs{mixed(), full()} {
		for _, x := range f.N {
			if got, e := Get(f, x.Path); got != x || e != api.OK {
				t.Errorf("Get(%s, %q) = %s, %d", show(f), x.Path, shown(got), e)
			}
		}
	}
}

func TestGetOfNoNode(t *testing.T) {
	for _, f := range goodOnes() {
		for _, p := range append(badPaths(), "a/b/c/d", "a/l/f", "c/f", "c/d/f", "d/x", "A", "bytes", "../f", letters(298), letters(149)+"/"+letters(149)) {
			if e := checkGet(t, f, p); e != api.ErrNone {
				t.Errorf("Get(%s, %.40q): %d; want %d", show(f), p, e, api.ErrNone)
			}
		}
	}
}

func TestNothingIsGotOfWhatMayNotBe(t *testing.T) {
	for _, f := range badOnes() {
		for _, p := range asked(f) {
			if got, e := Get(f, p); got != (api.Node{}) || e != api.ErrArg {
				t.Errorf("Get(%s, %.40q) = %s, %d; want %d", show(f), p, shown(got), e, api.ErrArg)
			}
			if got, e := Text(f, p); got != "" || e != api.ErrArg {
				t.Errorf("Text(%s, %.40q) = %d bytes, %d; want %d", show(f), p, len(got), e, api.ErrArg)
			}
		}
	}
}

// P19.2: Put

func TestPutAtEachPlace(t *testing.T) {
	for n := range 20 {
		whole := files(n + 1)
		for at, x := range whole.N {
			f := api.Fs{N: slices.Delete(cloned(whole).N, at, at+1)}
			for _, x := range []api.Node{x, {Path: x.Path, Kind: '5', Mode: 1, Uid: 2, Gid: 3, Mtime: 4}, sym(x.Path, "nowhere")} {
				whole.N[at] = x
				if got, e := checkPut(t, f, x); e != api.OK || !isSame(got, whole) {
					t.Errorf("Put(%s, %s) = %s, %d", show(f), shown(x), show(got), e)
				}
			}
			if n > 0 {
				link := f.N[n/2].Path
				whole.N[at] = hard(x.Path, link)
				if got, e := checkPut(t, f, hard(x.Path, link)); e != api.OK || !isSame(got, whole) {
					t.Errorf("Put(%s) of a hard link to %s = %s, %d", show(f), link, show(got), e)
				}
			}
			whole.N[at] = x
		}
	}
}

func TestPutOfHowMany(t *testing.T) {
	for n := range 25 {
		want := api.OK
		switch {
		case n == 20:
			want = api.ErrEnd
		case n > 20:
			want = api.ErrArg
		}
		for _, x := range []api.Node{file("a", "x"), file("f009x", "x"), dir("z"), sym("f", "x")} {
			isPut(t, files(n), x, want)
		}
		if n > 0 {
			isPut(t, files(n), hard("z", "f000"), want)
			isPut(t, files(n), hard("a", files(n).N[n-1].Path), want)
			isPut(t, deep(n), file("a/b", ""), want)
		}
	}
}

func TestPutOfParents(t *testing.T) {
	f := mixed()
	for _, x := range []struct {
		p    string
		want api.Errno
	}{
		{"e", api.OK}, {"a/e", api.OK}, {"a/d/e", api.OK}, {"b/e", api.OK}, {"a/e.", api.OK}, {"a/" + letters(298), api.OK},
		// It is not there.
		{"e/e", api.ErrNone}, {"a/e/e", api.ErrNone}, {"a/d/e/e", api.ErrNone}, {"A/e", api.ErrNone}, {"a./e", api.ErrNone}, {"aa/e", api.ErrNone}, {".../e", api.ErrNone}, {letters(298) + "/e", api.ErrNone},
		// It is a file.
		{"a.b/e", api.ErrNone}, {"a/f/e", api.ErrNone}, {"a/d/f/e", api.ErrNone},
		// It is a symbolic link, to a directory or to a file.
		{"c/e", api.ErrNone}, {"c/f", api.ErrNone}, {"c/d/e", api.ErrNone}, {"a/l/e", api.ErrNone}, {"a/l/f", api.ErrNone}, {"a/d/l/e", api.ErrNone}, {"d/e", api.ErrNone},
		// It is a hard link.
		{"0/e", api.ErrNone}, {"a/h/e", api.ErrNone},
	} {
		for _, n := range []api.Node{file(x.p, "x"), file(x.p, ""), hard(x.p, "a/f"), sym(x.p, "a"), dir(x.p)} {
			isPut(t, f, n, x.want)
		}
		if strings.Contains(x.p, "/") {
			isPut(t, api.Fs{}, dir(x.p), api.ErrNone)
		}
	}
}

func TestPutOfHardLinks(t *testing.T) {
	f := mixed()
	for _, x := range []struct {
		link string
		want api.Errno
	}{
		// To a file, which stands ahead or behind.
		{"a.b", api.OK}, {"a/f", api.OK}, {"a/d/f", api.OK},
		// To a directory, a symbolic link, a hard link.
		{"a", api.ErrNone}, {"b", api.ErrNone}, {"a/d", api.ErrNone}, {"c", api.ErrNone}, {"d", api.ErrNone}, {"a/l", api.ErrNone}, {"a/d/l", api.ErrNone}, {"0", api.ErrNone}, {"a/h", api.ErrNone},
		// Through a symbolic link.
		{"c/f", api.ErrNone}, {"a/l/f", api.ErrNone}, {"c/d/f", api.ErrNone},
		// To nothing.
		{"e", api.ErrNone}, {"a/e", api.ErrNone}, {"a/ff", api.ErrNone}, {"a.", api.ErrNone}, {"f", api.ErrNone}, {letters(300), api.ErrNone},
		// It is no path that may be.
		{"", api.ErrArg}, {"/a.b", api.ErrArg}, {"./a.b", api.ErrArg}, {"a/../a.b", api.ErrArg}, {"a/f/", api.ErrArg}, {"a//f", api.ErrArg}, {letters(301), api.ErrArg}, {"a.b\x00", api.ErrArg},
	} {
		for _, p := range []string{"#", "a/#", "a/d/#", "a/e", "b/e", "e", "zz"} {
			isPut(t, f, hard(p, x.link), x.want)
		}
	}
	for _, p := range []string{"#", "a/#", "e"} {
		isPut(t, f, hard(p, p), api.ErrNone)
		isPut(t, api.Fs{}, hard(p, p), api.ErrNone)
	}
	isPut(t, of(file("b", "x")), hard("a", "b"), api.OK)
	isPut(t, of(file("b", "x")), hard("c", "b"), api.OK)
	isPut(t, of(hard("a", "b"), file("b", "x")), hard("c", "a"), api.ErrNone)
	isPut(t, of(dir("b"), file("b/c", "x")), hard("a", "b/c"), api.OK)
}

func TestPutOfWhatMayNotBeAlone(t *testing.T) {
	for _, f := range []api.Fs{{}, files(1), files(10), mixed(), files(20), full()} {
		for _, p := range []string{"a", "f000", "f005x", "a/x", "e/x", "zz"} {
			for _, n := range badNodes(p) {
				isPut(t, f, n, api.ErrArg)
			}
		}
		for _, p := range badPaths() {
			for _, n := range []api.Node{file(p, "x"), hard(p, "f000"), sym(p, "x"), dir(p), {Path: p}} {
				isPut(t, f, n, api.ErrArg)
			}
		}
	}
}

func TestPutOfWhatIsThere(t *testing.T) {
	for _, f := range []api.Fs{files(1), files(19), files(20), mixed(), full(), deep(20)} {
		for _, x := range f.N {
			isPut(t, f, x, api.ErrThere)
			for _, n := range []api.Node{file(x.Path, ""), file(x.Path, "other"), hard(x.Path, f.N[0].Path), hard(x.Path, x.Path), hard(x.Path, "nowhere"), sym(x.Path, "other"), dir(x.Path)} {
				isPut(t, f, n, api.ErrThere)
			}
			for _, n := range badNodes(x.Path) {
				isPut(t, f, n, api.ErrArg)
			}
		}
	}
}

// Where several errors fit, the one that the document names first is told.
func TestTheOrderOfErrorsOfPut(t *testing.T) {
	for _, f := range badOnes() {
		for _, n := range slices.Concat(pool(), badNodes("a"), badNodes("f000")) {
			isPut(t, f, n, api.ErrArg)
		}
		for _, n := range f.N {
			isPut(t, f, n, api.ErrArg)
		}
	}
	for _, f := range []api.Fs{full(), mixed()} {
		want := api.OK
		if len(f.N) == 20 {
			want = api.ErrEnd
		}
		isPut(t, f, file("e", ""), want)
		isPut(t, f, file("a/e", ""), want)
		isPut(t, f, hard("a/e", "a/f"), want)
		isPut(t, f, file("e", letters(4001)), api.ErrArg)
		isPut(t, f, file("a/f", letters(4001)), api.ErrArg)
		isPut(t, f, file("e/e", letters(4001)), api.ErrArg)
		isPut(t, f, hard("a", "nowhere"), api.ErrThere)
		isPut(t, f, hard("a/f", "nowhere"), api.ErrThere)
		isPut(t, f, hard("a/f", "a"), api.ErrThere)
		isPut(t, f, dir("a/d/l"), api.ErrThere)
		isPut(t, f, file("e/e", ""), api.ErrNone)
		isPut(t, f, file("c/e", ""), api.ErrNone)
		isPut(t, f, hard("e", "nowhere"), api.ErrNone)
		isPut(t, f, hard("e/e", "nowhere"), api.ErrNone)
		isPut(t, f, hard("e/e", "a/f"), api.ErrNone)
		isPut(t, f, hard("a/e", "c/f"), api.ErrNone)
	}
	// Its path is there already, and its parent is not: then the file system may not be.
	isPut(t, of(file("a/b", "")), file("a/b", ""), api.ErrArg)
	isPut(t, of(file("a", ""), file("a/b", "")), file("a/b", ""), api.ErrArg)
}

// P19.2: Grow

func TestGrowAtTheEdges(t *testing.T) {
	for _, has := range []int{0, 1, 2000, 3998, 3999, 4000} {
		for _, more := range []int{0, 1, 2, 1999, 2000, 2001, 3998, 3999, 4000, 4001, 4002, 8000, 1 << 20} {
			f := of(dir("a"), api.Node{Path: "a/b", Kind: '0', Mode: 1, Uid: 2, Gid: 3, Mtime: 4, Data: letters(has)}, file("a/c", letters(4000)))
			want := api.OK
			if has+more > 4000 {
				want = api.ErrEnd
			}
			isGrown(t, f, "a/b", strings.Repeat("\x00", more), want)
			got, e := Grow(f, "a/b", strings.Repeat("*", more))
			data := letters(has)
			if e == api.OK {
				data += strings.Repeat("*", more)
			}
			if n := got.N[1]; n.Data != data || n.Mode != 1 || n.Uid != 2 || n.Gid != 3 || n.Mtime != 4 {
				t.Errorf("%d bytes and %d more: %s, %d", has, more, shown(n), e)
			}
		}
	}
	for _, more := range []string{"", "x"} {
		isGrown(t, of(file("a", letters(4001))), "a", more, api.ErrArg)
		isGrown(t, of(file("a", "x"), file("b", letters(4001))), "a", more, api.ErrArg)
	}
}

func TestGrowInSeveralSteps(t *testing.T) {
	for _, step := range []int{1, 7, 400, 512, 1000, 1333, 3999, 4000} {
		f := of(dir("a"), file("a/b", ""), file("b", "other"))
		data := ""
		for i := 0; ; i++ {
			more := strings.Repeat(string(rune('a'+i%26)), step)
			next, e := Grow(f, "a/b", more)
			want := api.OK
			if len(data)+step > 4000 {
				want = api.ErrEnd
			} else {
				data += more
			}
			if e != want || !isSame(next, of(dir("a"), file("a/b", data), file("b", "other"))) {
				t.Fatalf("step %d of %d bytes: %s, %d; want %d", i, step, show(next), e, want)
			}
			isText(t, next, "a/b", data, api.OK)
			if f = next; e != api.OK {
				break
			}
		}
		isGrown(t, f, "a/b", letters(4000-len(data)), api.OK)
		isGrown(t, f, "a/b", letters(4001-len(data)), api.ErrEnd)
	}
}

func TestGrowOfEachPlace(t *testing.T) {
	for n := range 21 {
		f := files(n)
		for at, x := range f.N {
			want := cloned(f)
			want.N[at].Data = "xyz"
			if got, e := Grow(f, x.Path, "yz"); e != api.OK || !isSame(got, want) {
				t.Errorf("Grow(%s, %s) = %s, %d", show(f), x.Path, show(got), e)
			}
		}
	}
}

func TestGrowOfWhatIsNoFile(t *testing.T) {
	for _, f := range []api.Fs{mixed(), full(), {}, files(20), of(hard("a", "zz"), file("zz", letters(4000)))} {
		for _, n := range mixed().N {
			if n.Kind == '0' {
				continue
			}
			for _, more := range []string{"", "x", letters(4000), letters(4001)} {
				isGrown(t, f, n.Path, more, api.ErrNone)
			}
		}
		for _, p := range append(badPaths(), "e", "a/e", "c/f", "a/l/f", "a/ff", letters(300)) {
			for _, more := range []string{"", "x", letters(4000), letters(4001)} {
				isGrown(t, f, p, more, api.ErrNone)
			}
		}
	}
}

func TestTheOrderOfErrorsOfGrow(t *testing.T) {
	for _, f := range badOnes() {
		for _, p := range asked(f) {
			for _, more := range []string{"", "x", letters(4001)} {
				isGrown(t, f, p, more, api.ErrArg)
			}
		}
	}
}

// P19.3

func TestTextOfEachKind(t *testing.T) {
	for _, f := range []api.Fs{mixed(), full()} {
		isText(t, f, "a/f", "bytes", api.OK)
		isText(t, f, "a/h", "bytes", api.OK)
		isText(t, f, "0", "bytes", api.OK)
		isText(t, f, "a/d/f", "inner", api.OK)
		isText(t, f, "a.b", "", api.OK)
		for _, p := range append(badPaths(), "a", "a/d", "b", "c", "d", "a/l", "a/d/l", "e", "a/e", "c/f", "a/l/f", "a/f/", "a/f\x00", "A/f", letters(300)) {
			isText(t, f, p, "", api.ErrNone)
		}
	}
	for _, size := range []int{0, 1, 3999, 4000} {
		f := of(hard("a", "b"), file("b", letters(size)), hard("c", "b"), file(letters(300), "x"))
		f.N[3].Path = "d" + letters(299)
		for _, p := range []string{"a", "b", "c"} {
			isText(t, f, p, letters(size), api.OK)
		}
		isText(t, f, f.N[3].Path, "x", api.OK)
		isText(t, f, f.N[3].Path+"x", "", api.ErrNone)
	}
	isText(t, api.Fs{}, "a", "", api.ErrNone)
	isText(t, api.Fs{}, "", "", api.ErrNone)
	isText(t, of(file("a", letters(4001))), "a", "", api.ErrArg)
	isText(t, of(file("a", "x"), hard("b", "a"), hard("c", "b")), "c", "", api.ErrArg)
	isText(t, of(hard("a", "b"), hard("b", "a")), "a", "", api.ErrArg)
	isText(t, of(hard("a", "a")), "a", "", api.ErrArg)
}

// A hard link has its file's bytes, also those that come later.
func TestTextOfAHardLinkGrowsWithItsFile(t *testing.T) {
	f := of(hard("a", "b"), file("b", "x"), hard("c", "b"), file("d", "x"), hard("e", "d"))
	next, e := checkGrow(t, f, "b", "yz")
	if e != api.OK {
		t.Fatal(e)
	}
	for p, want := range map[string]string{"a": "xyz", "b": "xyz", "c": "xyz", "d": "x", "e": "x"} {
		isText(t, next, p, want, api.OK)
		isText(t, f, p, "x", api.OK)
	}
}

// P19.4

// orders are all the orders of so many things, each by their places.
func orders(n int) [][]int {
	if n == 0 {
		return [][]int{nil}
	}
	var all [][]int
	for _, o := range orders(n - 1) {
		for at := range n {
			all = append(all, slices.Insert(slices.Clone(o), at, n-1))
		}
	}
	return all
}

// A tree's nodes make the same file system in each order: those that have no place yet are put later.
func TestATreeInEachOrder(t *testing.T) {
	nodes := []api.Node{dir("a"), dir("a/b"), file("a/b/c", "x"), hard("a/d", "a/b/c"), sym("b", "a"), file("c", "y")}
	whole := api.Fs{N: nodes}
	for _, order := range orders(len(nodes)) {
		f, left, later := api.Fs{}, order, []int(nil)
		for len(left) > 0 {
			for _, i := range left {
				next, e := checkPut(t, f, nodes[i])
				if e == api.ErrNone {
					later = append(later, i)
				} else if e != api.OK {
					t.Fatalf("order %d: Put(%s, %s): %d", order, show(f), shown(nodes[i]), e)
				}
				if f = next; !May(f) {
					t.Fatalf("order %d: %s may not be", order, show(f))
				}
			}
			if len(later) == len(left) {
				t.Fatalf("order %d: nothing more is put into %s", order, show(f))
			}
			left, later = later, nil
		}
		if !isSame(f, whole) || !Same(f, whole) {
			t.Errorf("order %d: %s", order, show(f))
		}
	}
}

// someNode is a node by chance: most may be alone.
func someNode(r *rand.Rand) api.Node {
	p := somePath(r)
	n := api.Node{Path: p, Kind: '0', Mode: r.Intn(4096), Uid: r.Intn(mostId + 1), Gid: r.Intn(3), Mtime: r.Intn(mostId + 1)}
	switch r.Intn(12) {
	case 0:
		return badNodes(p)[r.Intn(len(badNodes(p)))]
	case 1, 2, 3, 4:
		n.Kind = '5'
	case 5, 6, 7:
		return hard(p, somePath(r))
	case 8:
		n.Kind, n.Link = '2', []string{"a", "..", "/", letters(300)}[r.Intn(4)]
	default:
		n.Data = letters([]int{0, 1, 512, 2000, 3999, 4000}[r.Intn(6)])
	}
	return n
}

// somePath is a path by chance: most may be.
func somePath(r *rand.Rand) string {
	var parts []string
	for len(parts) == 0 || r.Intn(2) == 0 {
		parts = append(parts, []string{"a", "b", "c", "d", "e", "a.", "\xff"}[r.Intn(7)])
	}
	if r.Intn(40) == 0 {
		parts = append(parts, []string{"..", ".", "", letters(300)}[r.Intn(4)])
	}
	return strings.Join(parts, "/")
}

// grown is a tree that may be, of nodes by chance: no hard link stands ahead of its file.
func grown(r *rand.Rand) []api.Node {
	var f api.Fs
	for range r.Intn(150) {
		next, e := wantPut(f, someNode(r))
		if e == api.OK && tree.May(next.N) {
			f = next
		}
	}
	return f.N
}

func TestTreesNodeByNode(t *testing.T) {
	r := rand.New(rand.NewSource(19))
	sizes := map[int]bool{}
	for range 300 {
		nodes := grown(r)
		sizes[len(nodes)] = true
		var f api.Fs
		for i, n := range nodes {
			// As a restorer does it: the node without its bytes, and these in pieces.
			bare, rest := n, n.Data
			bare.Data = ""
			next, e := checkPut(t, f, bare)
			for e == api.OK && rest != "" {
				piece := rest[:min(len(rest), 512)]
				next, e = checkGrow(t, next, n.Path, piece)
				rest = rest[len(piece):]
			}
			if e != api.OK || !isSame(next, api.Fs{N: nodes[:i+1]}) {
				t.Fatalf("node %d of %s: %s, %d", i, show(of(nodes...)), show(next), e)
			}
			f = next
		}
		checkInAnyOrder(t, r, nodes)
	}
	if !sizes[0] || !sizes[1] || !sizes[19] || !sizes[20] {
		t.Errorf("trees of %v nodes alone", sizes)
	}
}

// checkInAnyOrder puts a tree's nodes by chance, as long as some are left.
func checkInAnyOrder(t *testing.T, r *rand.Rand, nodes []api.Node) {
	t.Helper()
	var f api.Fs
	for left := slices.Clone(nodes); len(left) > 0; {
		i := r.Intn(len(left))
		next, e := checkPut(t, f, left[i])
		switch e {
		case api.OK:
			left = slices.Delete(left, i, i+1)
		case api.ErrNone:
		default:
			t.Fatalf("Put(%s, %s): %d", show(f), shown(left[i]), e)
		}
		f = next
	}
	if !isSame(f, api.Fs{N: nodes}) {
		t.Errorf("%s; want %s", show(f), show(of(nodes...)))
	}
}

// checkKept holds a file system against the one ahead of an act: every node but the named one is there as it was, and nothing lies below what is no directory.
func checkKept(t *testing.T, was, is api.Fs, named string) {
	t.Helper()
	others := func(f api.Fs) api.Fs {
		var g api.Fs
		for _, n := range f.N {
			if n.Path != named {
				g.N = append(g.N, n)
			}
		}
		return g
	}
	if !isSame(others(was), others(is)) {
		t.Errorf("another node than %.40q changed: %s; was %s", named, show(is), show(was))
	}
	for _, n := range is.N {
		for at := range len(n.Path) {
			if n.Path[at] == '/' && !wantKind(is, n.Path[:at], '5') {
				t.Errorf("%.40q lies below what is no directory", n.Path)
			}
		}
	}
	if !May(is) || !wantMay(is) {
		t.Errorf("%s may not be", show(is))
	}
}

func TestActsByChance(t *testing.T) {
	r := rand.New(rand.NewSource(1919))
	seen := map[string]int{}
	for range 100 {
		f := api.Fs{N: grown(r)}
		for range 100 {
			n, p, more := someNode(r), somePath(r), letters([]int{0, 1, 1000, 4000}[r.Intn(4)])
			next, e := checkPut(t, f, n)
			checkKept(t, f, next, n.Path)
			seen[fmt.Sprint("Put ", e)]++
			f = next
			next, e = checkGrow(t, f, p, more)
			checkKept(t, f, next, p)
			seen[fmt.Sprint("Grow ", e)]++
			f = next
			seen[fmt.Sprint("Get ", checkGet(t, f, p))]++
			seen[fmt.Sprint("Text ", checkText(t, f, p))]++
		}
	}
	for _, what := range []string{"Put 0", "Put 1", "Put 8", "Put 9", "Put 10", "Grow 0", "Grow 8", "Grow 9", "Get 0", "Get 9", "Text 0", "Text 9"} {
		if seen[what] < 20 {
			t.Errorf("%s came %d times; all: %v", what, seen[what], seen)
		}
	}
}

// Nothing is made, grown or told through a symbolic link, whatever it leads to.
func TestNothingGoesThroughASymbolicLink(t *testing.T) {
	for _, link := range []string{"a", "a/", "a/b", "./a", "../a", "/", ".", "..", "l", "nowhere"} {
		f := of(dir("a"), file("a/b", "x"), dir("a/c"), sym("l", link))
		for _, below := range []string{"/b", "/c", "/d", "/c/d", "/b/d", "/l"} {
			for _, n := range []api.Node{file("l"+below, ""), hard("l"+below, "a/b"), sym("l"+below, "a"), dir("l" + below), hard("m", "l"+below)} {
				isPut(t, f, n, api.ErrNone)
			}
			isGrown(t, f, "l"+below, "y", api.ErrNone)
			isText(t, f, "l"+below, "", api.ErrNone)
			if e := checkGet(t, f, "l"+below); e != api.ErrNone {
				t.Errorf("Get of l%s: %d", below, e)
			}
		}
		for _, n := range []api.Node{file("l", ""), hard("l", "a/b"), sym("l", "b"), dir("l")} {
			isPut(t, f, n, api.ErrThere)
		}
		isPut(t, f, hard("m", "l"), api.ErrNone)
		isGrown(t, f, "l", "y", api.ErrNone)
		isText(t, f, "l", "", api.ErrNone)
	}
}

// R3

// roomy is the same file system with room behind it in its memory, where other nodes stand.
func roomy(f api.Fs) api.Fs {
	all := append(cloned(f).N, file("behind", "1"), file("behind", "2"), file("behind", "3"))
	return api.Fs{N: all[:len(f.N)]}
}

// whole is all that the memory of a file system has.
func whole(f api.Fs) api.Fs {
	return api.Fs{N: f.N[:cap(f.N)]}
}

// checkApart changes all that the memory of one file system has, and holds the other one's against what it was.
func checkApart(t *testing.T, one, other api.Fs) {
	t.Helper()
	was := cloned(whole(other))
	for i := range whole(one).N {
		whole(one).N[i] = sym("changed", "changed")
	}
	checkStays(t, whole(other), was)
}

// acts are calls that answer a file system: some change it, the others have an error.
func acts() []func(f api.Fs) (api.Fs, api.Errno) {
	put := func(n api.Node) func(f api.Fs) (api.Fs, api.Errno) {
		return func(f api.Fs) (api.Fs, api.Errno) { return Put(f, n) }
	}
	grow := func(p, data string) func(f api.Fs) (api.Fs, api.Errno) {
		return func(f api.Fs) (api.Fs, api.Errno) { return Grow(f, p, data) }
	}
	return []func(f api.Fs) (api.Fs, api.Errno){
		put(file("#", "")), put(file("f005x", "")), put(file("zz", "")), put(api.Node{}), put(file("a", "")), put(file("e/e", "")),
		grow("f000", "x"), grow("a/f", "x"), grow("a/f", ""), grow("a/f", letters(4000)), grow("a", "x"), grow("", "x"),
	}
}

func TestTheAnswerIsOfMemoryOfItsOwn(t *testing.T) {
	for _, f := range append(goodOnes(), badOnes()...) {
		for i, act := range acts() {
			for _, given := range []api.Fs{roomy(f), {N: slices.Clip(cloned(f).N)}} {
				was := cloned(whole(given))
				one, e := act(given)
				two, err := act(given)
				checkStays(t, whole(given), was)
				if !isSame(one, two) || e != err {
					t.Errorf("%d: %s, %d, and then %s, %d", i, show(one), e, show(two), err)
				}
				checkApart(t, one, two)
				checkApart(t, two, given)
				three, _ := act(given)
				checkApart(t, given, three)
			}
		}
	}
}

// What lies behind the nodes in their memory is not asked.
func TestTheMemoryBehindIsNotAsked(t *testing.T) {
	for _, f := range append(goodOnes(), badOnes()...) {
		checkAll(t, roomy(f))
	}
}

func TestTheSameAgainWhateverWasAsked(t *testing.T) {
	for _, f := range goodOnes() {
		first, e := Put(f, dir("e"))
		checkAll(t, mixed())
		checkAll(t, badOnes()[0])
		second, err := Put(f, dir("e"))
		if e != err || !isSame(first, second) {
			t.Errorf("%s, %d, and then %s, %d", show(first), e, show(second), err)
		}
	}
}

func TestNilAndEmpty(t *testing.T) {
	for _, f := range []api.Fs{{}, {N: []api.Node{}}, {N: make([]api.Node, 0, 30)}, roomy(api.Fs{})} {
		checkMay(t, f, true)
		isPut(t, f, file("a", "x"), api.OK)
		isPut(t, f, hard("a", "a"), api.ErrNone)
		isGrown(t, f, "a", "x", api.ErrNone)
		isText(t, f, "a", "", api.ErrNone)
		if !Same(f, api.Fs{}) {
			t.Errorf("%s is not the same as an empty one", show(f))
		}
	}
}
