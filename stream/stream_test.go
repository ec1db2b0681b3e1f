package stream

import (
	"bytes"
	"fmt"
	"math"
	"math/rand"
	"slices"
	"strings"
	"testing"

	"reelkeeper/api"
	"reelkeeper/block"
	"reelkeeper/entry"
	"reelkeeper/head"
	"reelkeeper/tree"
)

// letters is a text of so many bytes, without a slash. Those beside each other differ, so that one left out or told twice is seen.
func letters(n int) string {
	return strings.Repeat("abcdefghijklmnopqrstuvwxyz", n/26+1)[:n]
}

// upper likewise, of letters that letters has none of: what stands in another one's place is seen.
func upper(n int) string {
	return strings.ToUpper(letters(n))
}

// wide is a path of so many bytes that begins by a text.
func wide(first string, n int) string {
	return first + letters(n-len(first))
}

func file(p, data string) api.Node { return api.Node{Path: p, Kind: '0', Data: data} }

func hard(p, link string) api.Node { return api.Node{Path: p, Link: link, Kind: '1'} }

func sym(p, link string) api.Node { return api.Node{Path: p, Link: link, Kind: '2'} }

func dir(p string) api.Node { return api.Node{Path: p, Kind: '5'} }

// files are so many files of a byte, by rising paths.
func files(n int) []api.Node {
	var list []api.Node
	for i := range n {
		list = append(list, file(fmt.Sprintf("f%03d", i), "x"))
	}
	return list
}

// show tells nodes in a line, long texts by their beginning.
func show(list []api.Node) string {
	var all []string
	for _, n := range list {
		all = append(all, fmt.Sprintf("{%.20q (%d) kind %q link %.20q (%d) %d %d %d %d data (%d)}", n.Path, len(n.Path), n.Kind, n.Link, len(n.Link), n.Mode, n.Uid, n.Gid, n.Mtime, len(n.Data)))
	}
	return fmt.Sprint(len(list), " nodes ", strings.Join(all, " "))
}

// sample is a node, and how many blocks it takes: ahead of its header, and for its bytes.
type sample struct {
	node        api.Node
	ahead, data int
}

// nodesOf are the nodes of samples.
func nodesOf(list []sample) []api.Node {
	var nodes []api.Node
	for _, x := range list {
		nodes = append(nodes, x.node)
	}
	return nodes
}

// answer is all that is asked of a tree: where is what Where tells of the blocks, in order.
type answer struct {
	blocks [][]byte
	ok     bool
	starts []int
	where  [][2]int
}

// wantAnswer says what has to be answered of samples that are a tree.
func wantAnswer(list []sample) answer {
	a := answer{ok: true}
	for node, x := range list {
		a.starts = append(a.starts, len(a.where))
		for range x.ahead + 1 {
			a.where = append(a.where, [2]int{node, -1})
		}
		for data := range x.data {
			a.where = append(a.where, [2]int{node, data})
		}
		put, _ := entry.Put(x.node)
		a.blocks = append(a.blocks, put...)
	}
	a.starts = append(a.starts, len(a.where))
	a.where = append(a.where, [2]int{len(list), -1}, [2]int{len(list), -1})
	a.blocks = append(a.blocks, make([]byte, 512), make([]byte, 512))
	return a
}

func sameBlocks(a, b [][]byte) bool {
	return slices.EqualFunc(a, b, bytes.Equal)
}

// isAnswer holds all calls of a tree against what they have to answer.
func isAnswer(t *testing.T, nodes []api.Node, want answer) {
	t.Helper()
	if l, ok := All(nodes); ok != want.ok || !sameBlocks(l, want.blocks) {
		t.Errorf("All of %s = %d blocks, %t; want %d, %t", show(nodes), len(l), ok, len(want.blocks), want.ok)
	}
	many := len(want.where)
	if got := Many(nodes); got != many {
		t.Errorf("Many of %s = %d; want %d", show(nodes), got, many)
	}
	if got := Starts(nodes); !slices.Equal(got, want.starts) {
		t.Errorf("Starts of %s = %v; want %v", show(nodes), got, want.starts)
	}
	for i, w := range want.where {
		isWhere(t, nodes, i, w[0], w[1])
	}
	for _, i := range []int{math.MinInt, math.MinInt + 1, -many - 1, -many, -3, -2, -1, many, many + 1, many + 2, 2*many + 512, 1 << 32, math.MaxInt - 1, math.MaxInt} {
		isWhere(t, nodes, i, -1, -1)
	}
}

// isWhere holds Where of one place against what it has to answer.
func isWhere(t *testing.T, nodes []api.Node, i, node, data int) {
	t.Helper()
	if n, d := Where(nodes, i); n != node || d != data {
		t.Errorf("Where of block %d of %s = %d, %d; want %d, %d", i, show(nodes), n, d, node, data)
	}
}

// isNothing holds all calls of nodes that may not be a tree against nothing at all.
func isNothing(t *testing.T, nodes []api.Node) {
	t.Helper()
	isAnswer(t, nodes, answer{})
	for i := range 30 {
		isWhere(t, nodes, i, -1, -1)
	}
}

// checkTree holds all calls of a tree, and what follows of them, against what they have to answer.
func checkTree(t *testing.T, list ...sample) {
	t.Helper()
	nodes := nodesOf(list)
	isAnswer(t, nodes, wantAnswer(list))
	checkFollows(t, nodes)
}

// checkFollows holds a tree's blocks against P8.3, by what the calls tell of each other.
func checkFollows(t *testing.T, nodes []api.Node) {
	t.Helper()
	l, ok := All(nodes)
	starts := Starts(nodes)
	if !ok || !block.May(l) || Many(nodes) != len(l) || len(starts) != len(nodes)+1 || starts[0] != 0 {
		t.Errorf("%s have %d blocks, %t, and the starts %v", show(nodes), len(l), ok, starts)
		return
	}
	for node, n := range nodes {
		own := l[starts[node]:starts[node+1]]
		if len(own) != entry.Many(n) {
			t.Errorf("node %d of %s has %d blocks; want %d", node, show(nodes), len(own), entry.Many(n))
			continue
		}
		first := len(own) - entry.Data(n)
		if h, e := head.Get(own[first-1]); e != api.OK || h.Type != n.Kind || h.Size != len(n.Data) {
			t.Errorf("the header of node %d of %s = %#v, %d", node, show(nodes), h, e)
		}
		if text, ok := block.Text(own[first:], len(n.Data)); !ok || text != n.Data {
			t.Errorf("the bytes of node %d of %s = %.60q, %t", node, show(nodes), text, ok)
		}
		for i := range own {
			isWhere(t, nodes, starts[node]+i, node, max(i-first, -1))
		}
	}
	end := l[starts[len(nodes)]:]
	if len(end) != 2 || !block.Zero(end[0]) || !block.Zero(end[1]) {
		t.Errorf("behind the nodes of %s stand %d blocks, %q", show(nodes), len(end), end)
	}
}

// The trees

// full is a tree of 20 nodes, of all kinds and about all edges, those with long texts also first, in the midst and last.
func full() []sample {
	target, folder := "D/"+wide("d", 298), wide("F", 101)
	return []sample{
		{sym(wide("A", 150), upper(101)), 4, 0},
		{file("B", ""), 0, 0},
		{file("C", letters(1)), 0, 1},
		{dir("D"), 0, 0},
		{file("D/a", letters(512)), 0, 1},
		{file("D/b", upper(513)), 0, 2},
		{hard("D/c", "D/b"), 0, 0},
		{file(target, letters(4000)), 2, 8},
		{sym("D/e", upper(100)), 0, 0},
		{sym("D/f", upper(101)), 2, 0},
		{hard(wide("E", 120), target), 4, 0},
		{dir(folder), 2, 0},
		{file(folder+"/x", strings.Repeat("\x00", 1024)), 0, 2},
		{dir("G"), 0, 0},
		{dir("G/h"), 0, 0},
		{sym("G/h/i", ".."), 0, 0},
		{file("G/h/j", letters(511)), 0, 1},
		{file(wide("H", 100), upper(1025)), 0, 3},
		{file("I", ""), 0, 0},
		{sym(wide("J", 300), upper(300)), 4, 0},
	}
}

// makers are nodes that need more than a header, by what their path begins with.
func makers() []func(first string) sample {
	return []func(string) sample{
		func(first string) sample { return sample{file(first, letters(4000)), 0, 8} },
		func(first string) sample { return sample{file(wide(first, 101), ""), 2, 0} },
		func(first string) sample { return sample{file(wide(first, 101), letters(1)), 2, 1} },
		func(first string) sample { return sample{file(wide(first, 300), letters(513)), 2, 2} },
		func(first string) sample { return sample{file(wide(first, 300), letters(4000)), 2, 8} },
		func(first string) sample { return sample{dir(wide(first, 200)), 2, 0} },
		func(first string) sample { return sample{sym(first, upper(101)), 2, 0} },
		func(first string) sample { return sample{sym(first, upper(300)), 2, 0} },
		func(first string) sample { return sample{sym(wide(first, 101), "b"), 2, 0} },
		func(first string) sample { return sample{sym(wide(first, 101), upper(101)), 4, 0} },
		func(first string) sample { return sample{sym(wide(first, 300), upper(300)), 4, 0} },
	}
}

func TestTheEmptyTree(t *testing.T) {
	two := [][]byte{make([]byte, 512), make([]byte, 512)}
	for _, nodes := range [][]api.Node{nil, {}} {
		isAnswer(t, nodes, answer{two, true, []int{0}, [][2]int{{0, -1}, {0, -1}}})
		checkFollows(t, nodes)
	}
	checkTree(t)
}

func TestOneNode(t *testing.T) {
	for _, x := range []struct{ size, data int }{
		{0, 0}, {1, 1}, {2, 1}, {511, 1}, {512, 1}, {513, 2}, {1024, 2}, {1025, 3}, {3584, 7}, {3585, 8}, {3999, 8}, {4000, 8},
	} {
		checkTree(t, sample{file("a", letters(x.size)), 0, x.data})
		checkTree(t, sample{file("a", strings.Repeat("\x00", x.size)), 0, x.data})
		checkTree(t, sample{file(letters(101), upper(x.size)), 2, x.data})
	}
	checkTree(t, sample{dir("a"), 0, 0})
	checkTree(t, sample{sym("a", "b"), 0, 0})
	checkTree(t, sample{sym("a", upper(100)), 0, 0})
	for _, maker := range makers() {
		checkTree(t, maker("a"))
	}
}

func TestTwoNodes(t *testing.T) {
	for _, size := range []struct{ bytes, data int }{{0, 0}, {1, 1}, {512, 1}, {513, 2}, {4000, 8}} {
		first, second := sample{file("a", letters(size.bytes)), 0, size.data}, sample{file("b", upper(size.bytes)), 0, size.data}
		checkTree(t, first, second)
		checkTree(t, first, sample{file("b", upper(513)), 0, 2})
		checkTree(t, sample{file("a", letters(4000)), 0, 8}, second)
		checkTree(t, first, sample{hard("b", "a"), 0, 0})
		checkTree(t, first, sample{sym("b", "a"), 0, 0})
		checkTree(t, first, sample{dir("b"), 0, 0})
		checkTree(t, sample{dir("a"), 0, 0}, sample{file("a/b", letters(size.bytes)), 0, size.data})
	}
	for _, first := range makers() {
		for _, second := range makers() {
			checkTree(t, first("a"), second("b"))
		}
	}
}

func TestLongTextsFirstInTheMidstAndLast(t *testing.T) {
	plain := func(p string) sample { return sample{file(p, upper(600)), 0, 2} }
	for _, maker := range makers() {
		checkTree(t, maker("a"), plain("b"), plain("c"))
		checkTree(t, plain("a"), maker("b"), plain("c"))
		checkTree(t, plain("a"), plain("b"), maker("c"))
	}
	target := wide("a", 101)
	link, both := sample{hard("b", target), 2, 0}, sample{hard(wide("c", 101), target), 4, 0}
	checkTree(t, sample{file(target, letters(513)), 2, 2}, link)
	checkTree(t, sample{file(target, letters(513)), 2, 2}, both)
	checkTree(t, sample{file(target, letters(513)), 2, 2}, link, both)
	checkTree(t, sample{file(target, letters(513)), 2, 2}, link, both, plain("d"))
}

func TestTwentyNodes(t *testing.T) {
	checkTree(t, full()...)
	// The most blocks that a tree has.
	var most []sample
	for i := range 20 {
		most = append(most, sample{file(wide(string(rune('a'+i)), 300), upper(4000)), 2, 8})
	}
	checkTree(t, most...)
	if got := Many(nodesOf(most)); got != 222 {
		t.Errorf("Many = %d; want 222", got)
	}
	for i := range most {
		most[i] = sample{file(string(rune('a'+i)), ""), 0, 0}
	}
	checkTree(t, most...)
	if got := Many(nodesOf(most)); got != 22 {
		t.Errorf("Many = %d; want 22", got)
	}
}

// P8.1: All, Many, Starts

// written is a block of parts, each with its place ahead of it, and noughts between.
func written(parts ...any) string {
	b := make([]byte, 512)
	for i := 0; i < len(parts); i += 2 {
		copy(b[parts[i].(int):], parts[i+1].(string))
	}
	return string(b)
}

// The bytes are written out here, with the sums that they have.
func TestAllByteByByte(t *testing.T) {
	a, b := dir("a"), file("a/b", "bytes")
	a.Mode, a.Uid, a.Gid, a.Mtime = 493, 1000, 100, 1700000000
	b.Mode, b.Uid, b.Gid, b.Mtime = 420, 1000, 100, 1700000001
	want := []string{
		written(0, "a", 100, "0000755\x000001750\x000000144\x0000000000000\x0014524770400\x00006176\x00 5", 257, "ustar\x0000"),
		written(0, "a/b", 100, "0000644\x000001750\x000000144\x0000000000005\x0014524770401\x00006415\x00 0", 257, "ustar\x0000"),
		written(0, "bytes"),
		written(0, "c", 100, "0000000\x000000000\x000000000\x0000000000000\x0000000000000\x00006445\x00 1a/b", 257, "ustar\x0000"),
		written(),
		written(),
	}
	l, ok := All([]api.Node{a, b, hard("c", "a/b")})
	if got := string(bytes.Join(l, nil)); !ok || len(l) != len(want) || got != strings.Join(want, "") {
		t.Errorf("All = %q, %t; want %q", l, ok, want)
	}
}

func TestTheFiveBlocksOfADirectoryAndAFile(t *testing.T) {
	nodes := []api.Node{dir("a"), file("a/b", "bytes")}
	l, ok := All(nodes)
	if !ok || len(l) != 5 || Many(nodes) != 5 {
		t.Fatalf("All = %q, %t; want five blocks", l, ok)
	}
	if h, e := head.Get(l[0]); e != api.OK || h != (api.Head{Name: "a", Type: '5'}) {
		t.Errorf("the first header = %#v, %d", h, e)
	}
	if h, e := head.Get(l[1]); e != api.OK || h != (api.Head{Name: "a/b", Size: 5, Type: '0'}) {
		t.Errorf("the second header = %#v, %d", h, e)
	}
	if text, ok := block.Text(l[2:3], 5); !ok || text != "bytes" {
		t.Errorf("the bytes = %q, %t", text, ok)
	}
	if !block.Zero(l[3]) || !block.Zero(l[4]) {
		t.Errorf("behind the nodes stand %q", l[3:])
	}
}

// some is a tree whose blocks are counted by hand.
func some() []api.Node {
	return []api.Node{
		dir("a"),
		file("a/b", letters(513)),
		sym(wide("c", 101), upper(101)),
		file(wide("d", 150), "x"),
		file("e", ""),
	}
}

func TestStartsByHand(t *testing.T) {
	for _, x := range []struct {
		nodes []api.Node
		want  []int
	}{
		{nil, []int{0}},
		{some()[:1], []int{0, 1}},
		{some()[:2], []int{0, 1, 4}},
		{some()[:3], []int{0, 1, 4, 9}},
		{some()[:4], []int{0, 1, 4, 9, 13}},
		{some(), []int{0, 1, 4, 9, 13, 14}},
		{some()[2:], []int{0, 5, 9, 10}},
		{some()[4:], []int{0, 1}},
	} {
		if got := Starts(x.nodes); !slices.Equal(got, x.want) {
			t.Errorf("Starts of %s = %v; want %v", show(x.nodes), got, x.want)
		}
		if got, want := Many(x.nodes), x.want[len(x.want)-1]+2; got != want {
			t.Errorf("Many of %s = %d; want %d", show(x.nodes), got, want)
		}
	}
}

// P8.2: Where

func TestWhereByHand(t *testing.T) {
	for i, want := range [][2]int{
		{0, -1},
		{1, -1}, {1, 0}, {1, 1},
		{2, -1}, {2, -1}, {2, -1}, {2, -1}, {2, -1},
		{3, -1}, {3, -1}, {3, -1}, {3, 0},
		{4, -1},
		{5, -1}, {5, -1},
		{-1, -1}, {-1, -1}, {-1, -1},
	} {
		isWhere(t, some(), i, want[0], want[1])
	}
	for _, i := range []int{-1, -2, -16, 100, 512, math.MinInt, math.MaxInt} {
		isWhere(t, some(), i, -1, -1)
	}
}

func TestWhereOfAFileOfNoughts(t *testing.T) {
	nodes := []api.Node{file("a", strings.Repeat("\x00", 1024)), file("b", "")}
	for i, want := range [][2]int{{0, -1}, {0, 0}, {0, 1}, {1, -1}, {2, -1}, {2, -1}, {-1, -1}} {
		isWhere(t, nodes, i, want[0], want[1])
	}
}

func TestWhereOfBytesThatLookLikeAHeader(t *testing.T) {
	// A file whose bytes are blocks of a stream is still a file.
	inner, _ := All([]api.Node{dir("x"), file("x/y", "z")})
	checkTree(t, sample{file("a", string(bytes.Join(inner, nil))), 0, 5}, sample{dir("b"), 0, 0})
}

func TestWhereOfTheMostBytes(t *testing.T) {
	nodes := []api.Node{file(wide("a", 101), letters(4000)), file(wide("b", 101), upper(4000))}
	for i, want := range map[int][2]int{
		0: {0, -1}, 1: {0, -1}, 2: {0, -1}, 3: {0, 0}, 4: {0, 1}, 9: {0, 6}, 10: {0, 7},
		11: {1, -1}, 12: {1, -1}, 13: {1, -1}, 14: {1, 0}, 20: {1, 6}, 21: {1, 7},
		22: {2, -1}, 23: {2, -1}, 24: {-1, -1},
	} {
		isWhere(t, nodes, i, want[0], want[1])
	}
}

// P8.3

func TestANodeMore(t *testing.T) {
	whole := nodesOf(full())
	for k := range whole {
		fewer, more := whole[:k], whole[:k+1]
		a, _ := All(fewer)
		b, _ := All(more)
		end := len(a) - 2
		if len(b) != len(a)+entry.Many(whole[k]) || !sameBlocks(a[:end], b[:end]) {
			t.Errorf("the blocks of %s and of a node more are not the same up to the noughts", show(fewer))
		}
		if got, want := Starts(more)[:k+1], Starts(fewer); !slices.Equal(got, want) {
			t.Errorf("the starts of %s are %v, and with a node more %v", show(fewer), want, got)
		}
		for i := range end {
			n, d := Where(fewer, i)
			isWhere(t, more, i, n, d)
		}
		checkTree(t, full()[:k+1]...)
	}
}

func TestEachBlockIsOnes(t *testing.T) {
	nodes := nodesOf(full())
	many := map[int]int{}
	ahead := 0
	for i := range Many(nodes) {
		n, _ := Where(nodes, i)
		if n != ahead && n != ahead+1 {
			t.Errorf("behind a block of node %d comes one of node %d", ahead, n)
		}
		ahead = n
		many[n]++
	}
	for i, n := range nodes {
		if many[i] != entry.Many(n) {
			t.Errorf("%d blocks are of node %d; want %d", many[i], i, entry.Many(n))
		}
	}
	if many[20] != 2 || len(many) != 21 {
		t.Errorf("blocks by node: %v", many)
	}
}

// Wrong inputs

func TestTooManyNodes(t *testing.T) {
	if _, ok := All(files(20)); !ok {
		t.Error("20 nodes may be a tree")
	}
	for _, n := range []int{21, 22, 100, 5000} {
		isNothing(t, files(n))
	}
}

func TestPathsThatDoNotRise(t *testing.T) {
	isNothing(t, []api.Node{file("b", ""), file("a", "")})
	isNothing(t, []api.Node{file("a", ""), file("a", "")})
	isNothing(t, []api.Node{dir("a"), file("a", "")})
	isNothing(t, []api.Node{file("a", ""), file("c", ""), file("b", "")})
	isNothing(t, []api.Node{dir("a"), file("a/b", ""), dir("a")})
	isNothing(t, []api.Node{file("a", ""), file("A", "")})
	whole := nodesOf(full())
	for k := 1; k < len(whole); k++ {
		list := slices.Clone(whole)
		list[k-1], list[k] = list[k], list[k-1]
		isNothing(t, list)
	}
}

func TestParentsThatAreMissing(t *testing.T) {
	isNothing(t, []api.Node{file("a/b", "")})
	isNothing(t, []api.Node{dir("a/b")})
	isNothing(t, []api.Node{dir("a"), file("a/b/c", "")})
	isNothing(t, []api.Node{file("a", ""), file("a/b", "")})
	isNothing(t, []api.Node{sym("a", "b"), file("a/b", "")})
	isNothing(t, []api.Node{file("a", ""), hard("b", "a"), file("b/c", "")})
	isNothing(t, []api.Node{dir("a"), file("b/c", "")})
}

func TestHardLinksOfNoFile(t *testing.T) {
	isNothing(t, []api.Node{hard("a", "b")})
	isNothing(t, []api.Node{hard("a", "a")})
	isNothing(t, []api.Node{hard("a", "b"), file("b", "")})
	isNothing(t, []api.Node{dir("a"), hard("b", "a")})
	isNothing(t, []api.Node{sym("a", "b"), hard("b", "a")})
	isNothing(t, []api.Node{file("a", ""), hard("b", "a"), hard("c", "b")})
}

// wrong are nodes that may not be alone, by their path.
func wrong(p string) []api.Node {
	list := []api.Node{
		{}, {Path: p}, {Path: p, Kind: 'x'}, {Path: p, Kind: 'K'}, {Path: p, Kind: 'L'}, {Path: p, Kind: 'M'}, {Path: p, Kind: 'V'}, {Path: p, Kind: 5},
		file("/"+p, ""), file(p+"/", ""), file(p+"//b", ""), file(p+"/../b", ""), file(p+"/.", ""), file(p+"\x00", ""), file(wide(p, 301), ""),
		file(p, letters(4001)), {Path: p, Kind: '0', Link: "b"}, {Path: p, Kind: '5', Link: "b"}, {Path: p, Kind: '5', Data: "x"},
		sym(p, ""), sym(p, "b\x00"), sym(p, letters(301)), {Path: p, Kind: '2', Link: "b", Data: "x"}, hard(p, ""), hard(p, "../b"),
	}
	for _, n := range []api.Node{file(p, "x"), sym(p, "b"), dir(p)} {
		for which := range 4 {
			for _, x := range []int{-1, math.MinInt, 1<<40 + 1, math.MaxInt} {
				m := n
				*[]*int{&m.Mode, &m.Uid, &m.Gid, &m.Mtime}[which] = x
				list = append(list, m)
			}
		}
		n.Mode = 4096
		list = append(list, n)
	}
	return list
}

func TestNodesThatMayNotBeAlone(t *testing.T) {
	first := wrong("a")
	for i := range first {
		isNothing(t, first[i:i+1])
		isNothing(t, []api.Node{first[i], file("b", "x")})
		isNothing(t, []api.Node{file("a", "x"), wrong("b")[i]})
		isNothing(t, []api.Node{file("a", "x"), wrong("b")[i], file("c", "x")})
		isNothing(t, append(files(19), wrong("g")[i]))
	}
}

// R1

// random is a list of nodes that are a tree, and at times something in it that may not be.
func random(r *rand.Rand) []sample {
	var list []sample
	var folders, targets []string
	folders = append(folders, "")
	for i := range r.Intn(22) {
		folder := folders[r.Intn(len(folders))]
		p := fmt.Sprintf("%s%c", folder, 'a'+i)
		ahead := 0
		if folder == "" && r.Intn(4) == 0 {
			p, ahead = wide(p, 101+r.Intn(200)), 2
		}
		switch kind := r.Intn(6); {
		case kind == 0 && ahead == 0:
			list = append(list, sample{dir(p), 0, 0})
			folders = append(folders, p+"/")
		case kind == 1 && len(targets) > 0:
			link := targets[r.Intn(len(targets))]
			list = append(list, sample{hard(p, link), ahead + 2*(min(len(link), 101)/101), 0})
		case kind == 2:
			link := upper(1 + r.Intn(300))
			list = append(list, sample{sym(p, link), ahead + 2*(min(len(link), 101)/101), 0})
		default:
			size := []int{0, 1, 511, 512, 513, 1024, 3584, 3585, 4000}[r.Intn(9)]
			list = append(list, sample{file(p, letters(size)), ahead, (size + 511) / 512})
			targets = append(targets, p)
		}
	}
	slices.SortFunc(list, func(a, b sample) int { return strings.Compare(a.node.Path, b.node.Path) })
	return list
}

func TestAllSortsOfTrees(t *testing.T) {
	r := rand.New(rand.NewSource(8))
	yes, no := 0, 0
	for range 1000 {
		list := random(r)
		if len(list) > 0 && r.Intn(8) == 0 {
			bad := wrong(list[0].node.Path)
			list[r.Intn(len(list))].node = bad[r.Intn(len(bad))]
		}
		nodes := nodesOf(list)
		if !tree.May(nodes) {
			isNothing(t, nodes)
			no++
			continue
		}
		checkTree(t, list...)
		yes++
	}
	if yes < 300 || no < 200 {
		t.Errorf("only %d of the lists are trees, and %d are none", yes, no)
	}
}

// R3

func TestAnswersAreNewMemory(t *testing.T) {
	list := full()
	nodes, want := nodesOf(list), wantAnswer(list)
	for range 2 {
		l, _ := All(nodes)
		for i, b := range l {
			_ = append(b, "behind"...)
			for at := range b {
				b[at] = 'x'
			}
			if !sameBlocks(l[i+1:], want.blocks[i+1:]) {
				t.Errorf("what was written into block %d stands in one behind it", i)
			}
		}
		clear(l)
		starts := Starts(nodes)
		for i := range starts {
			starts[i] = -1
		}
		isAnswer(t, nodes, want)
	}
}

func TestWhatIsHandedInStays(t *testing.T) {
	for _, whole := range [][]api.Node{nodesOf(full()), some(), files(25), wrong("a"), {file("b", ""), file("a", "")}} {
		was := slices.Clone(whole)
		// What stands behind the list, in the same memory, is not touched, either.
		nodes := whole[:len(whole)-1]
		All(nodes)
		Many(nodes)
		Starts(nodes)
		for i := range 30 {
			Where(nodes, i)
		}
		if !slices.Equal(whole, was) {
			t.Errorf("%s have changed; they were %s", show(whole), show(was))
		}
	}
}

// R5

func TestTheSameAgainWhateverWasAsked(t *testing.T) {
	for _, other := range [][]api.Node{nil, files(20), files(21), some(), wrong("a"), {dir("a")}} {
		checkTree(t, full()...)
		All(other)
		Many(other)
		Starts(other)
		Where(other, 1)
		checkTree(t, full()...)
	}
}
