package read

import (
	"bytes"
	"fmt"
	"math"
	"math/rand"
	"slices"
	"strings"
	"testing"

	"reelkeeper/api"
	"reelkeeper/head"
	"reelkeeper/long"
	"reelkeeper/parse"
	"reelkeeper/stream"
	"reelkeeper/tree"
)

// letters is a text of so many bytes, without a slash. Those beside each other differ, so that one left out or told twice is seen.
func letters(n int) string {
	return strings.Repeat("abcdefghijklmnopqrstuvwxyz", n/26+1)[:n]
}

// upper likewise, of letters that letters has none of: what stands in another one's place is seen.
func upper(n int) string {
	return strings.ToUpper(letters(n))
}

// wide is a path of so many bytes that begins by a text.
func wide(first string, n int) string {
	return first + letters(n-len(first))
}

func file(p, data string) api.Node { return api.Node{Path: p, Kind: '0', Data: data} }

func hard(p, link string) api.Node { return api.Node{Path: p, Link: link, Kind: '1'} }

func sym(p, link string) api.Node { return api.Node{Path: p, Link: link, Kind: '2'} }

func dir(p string) api.Node { return api.Node{Path: p, Kind: '5'} }

// with is a node of other numbers.
func with(n api.Node, mode, uid, gid, mtime int) api.Node {
	n.Mode, n.Uid, n.Gid, n.Mtime = mode, uid, gid, mtime
	return n
}

// block512 is a block of parts, each with its place ahead of it, and noughts between.
func block512(parts ...any) []byte {
	b := make([]byte, 512)
	for i := 0; i < len(parts); i += 2 {
		copy(b[parts[i].(int):], parts[i+1].(string))
	}
	return b
}

// noughts is a block of noughts.
func noughts() []byte { return make([]byte, 512) }

// headed is the block of a header.
func headed(h api.Head) []byte {
	b, ok := head.Put(h)
	if !ok {
		panic(fmt.Sprintf("no header: %#v", h))
	}
	return b
}

// replaced is a stream with another block at a place.
func replaced(l [][]byte, at int, b []byte) [][]byte {
	m := slices.Clone(l)
	m[at] = b
	return m
}

// clones are blocks of their own.
func clones(l [][]byte) [][]byte {
	m := make([][]byte, len(l))
	for i, b := range l {
		m[i] = bytes.Clone(b)
	}
	return m
}

// What is told

func begun(n api.Node) api.Ev { return api.Ev{Kind: 0, Node: n} }

func came(data string) api.Ev { return api.Ev{Kind: 1, Data: data} }

func over() api.Ev { return api.Ev{Kind: 2} }

// otherKinds are kinds of what is told that there are not.
func otherKinds() []int {
	return []int{-1, -2, -3, 3, 4, 5, 255, 256, 257, 258, 1 << 32, 1<<32 + 1, math.MinInt, math.MinInt + 1, math.MaxInt - 1, math.MaxInt}
}

// Telling what was answered

func short(s string) string { return fmt.Sprintf("%.20q (%d)", s, len(s)) }

func showNode(n api.Node) string {
	return fmt.Sprintf("{%s kind %q link %s %d %d %d %d data %s}", short(n.Path), n.Kind, short(n.Link), n.Mode, n.Uid, n.Gid, n.Mtime, short(n.Data))
}

func show(list []api.Node) string {
	var all []string
	for _, n := range list {
		all = append(all, showNode(n))
	}
	return fmt.Sprint(len(list), " nodes ", strings.Join(all, " "))
}

func showTold(l []api.Ev) string {
	var all []string
	for _, e := range l {
		all = append(all, fmt.Sprintf("%d %s %s", e.Kind, showNode(e.Node), short(e.Data)))
	}
	return fmt.Sprint(len(l), " told: ", strings.Join(all, "; "))
}

// isGather holds Gather against what it has to answer.
func isGather(t *testing.T, l []api.Ev, want []api.Node, wantOk bool) {
	t.Helper()
	if got, ok := Gather(l); ok != wantOk || !slices.Equal(got, want) {
		t.Errorf("Gather of %s = %s, %t; want %s, %t", showTold(l), show(got), ok, show(want), wantOk)
	}
}

// gathers holds Gather of what is in order against its nodes.
func gathers(t *testing.T, l []api.Ev, want ...api.Node) {
	t.Helper()
	isGather(t, l, want, true)
}

// stops holds Gather of what is out of order against the nodes up to there.
func stops(t *testing.T, l []api.Ev, want ...api.Node) {
	t.Helper()
	isGather(t, l, want, false)
}

// isRead holds Part, Read and Used of blocks against what they have to answer: part is Part's, whole is Read's error.
func isRead(t *testing.T, l [][]byte, part []api.Node, e, whole api.Errno, used int) {
	t.Helper()
	if got, err := Part(l); err != e || !slices.Equal(got, part) {
		t.Errorf("Part of %d blocks = %s, %d; want %s, %d", len(l), show(got), err, show(part), e)
	}
	all := part
	if whole != 0 {
		all = nil
	}
	if got, err := Read(l); err != whole || !slices.Equal(got, all) {
		t.Errorf("Read of %d blocks = %s, %d; want %s, %d", len(l), show(got), err, show(all), whole)
	}
	if got := Used(l); got != used {
		t.Errorf("Used of %d blocks = %d; want %d", len(l), got, used)
	}
}

// ends holds the calls of a whole stream against its nodes: so many of its blocks are taken.
func ends(t *testing.T, l [][]byte, used int, want ...api.Node) {
	t.Helper()
	isRead(t, l, want, 0, 0, used)
}

// lacks holds the calls of a stream of which blocks are missing against the nodes that are there.
func lacks(t *testing.T, l [][]byte, want ...api.Node) {
	t.Helper()
	isRead(t, l, want, 0, 7, len(l))
}

// fails holds the calls of a stream with an error against the nodes ahead of it: so many blocks are taken.
func fails(t *testing.T, l [][]byte, e api.Errno, used int, want ...api.Node) {
	t.Helper()
	isRead(t, l, want, e, e, used)
}

// The trees

// sample is a node, and how many blocks it takes: ahead of its header, and for its bytes.
type sample struct {
	node        api.Node
	ahead, data int
}

// full is a tree of 20 nodes, of each kind and about all edges, those with long texts also first, in the midst and last.
func full() []sample {
	target, folder := "D/"+wide("d", 298), wide("F", 101)
	return []sample{
		{with(sym(wide("A", 150), upper(101)), 511, 1, 2, 3), 4, 0},
		{with(file("B", ""), 4095, 1<<40, 1<<40, 1<<40), 0, 0},
		{with(file("C", letters(1)), 420, 1000, 100, 1700000000), 0, 1},
		{with(dir("D"), 493, 1000, 100, 1700000001), 0, 0},
		{file("D/a", letters(512)), 0, 1},
		{file("D/b", upper(513)), 0, 2},
		{hard("D/c", "D/b"), 0, 0},
		{with(file(target, letters(4000)), 1, 2, 3, 4), 2, 8},
		{sym("D/e", upper(100)), 0, 0},
		{sym("D/f", upper(101)), 2, 0},
		{hard(wide("E", 120), target), 4, 0},
		{dir(folder), 2, 0},
		{file(folder+"/x", strings.Repeat("\x00", 1024)), 0, 2},
		{dir("G"), 0, 0},
		{dir("G/h"), 0, 0},
		{sym("G/h/i", "../.."), 0, 0},
		{file("G/h/j", letters(511)), 0, 1},
		{file(wide("H", 100), upper(1025)), 0, 3},
		{file("I", ""), 0, 0},
		{sym(wide("J", 300), upper(300)), 4, 0},
	}
}

// nodesOf are the nodes of samples.
func nodesOf(list []sample) []api.Node {
	var nodes []api.Node
	for _, x := range list {
		nodes = append(nodes, x.node)
	}
	return nodes
}

// written is the stream of samples, which must have as many blocks as they say.
func written(t *testing.T, list []sample) [][]byte {
	t.Helper()
	many := 2
	for _, x := range list {
		many += x.ahead + 1 + x.data
	}
	l, ok := stream.All(nodesOf(list))
	if !ok || len(l) != many {
		t.Fatalf("the stream of %s has %d blocks, %t; want %d", show(nodesOf(list)), len(l), ok, many)
	}
	return l
}

// firstOf are the nodes of the first blocks of samples: of a node that is not whole there are as many bytes as came.
func firstOf(list []sample, blocks int) []api.Node {
	var nodes []api.Node
	for _, x := range list {
		if blocks < x.ahead+1 {
			return nodes
		}
		n := x.node
		n.Data = n.Data[:min(len(n.Data), 512*(blocks-x.ahead-1))]
		nodes = append(nodes, n)
		blocks -= min(blocks, x.ahead+1+x.data)
	}
	return nodes
}

// toldOf is all that is told of nodes.
func toldOf(nodes ...api.Node) []api.Ev {
	var l []api.Ev
	for _, n := range nodes {
		rest := n.Data
		n.Data = ""
		l = append(l, begun(n))
		for rest != "" {
			first := rest[:min(len(rest), 512)]
			l, rest = append(l, came(first)), rest[len(first):]
		}
		l = append(l, over())
	}
	return l
}

// checkTree holds all calls of a tree's blocks, and of the first ones of them, one more at a time, against what they have to answer.
func checkTree(t *testing.T, list ...sample) {
	t.Helper()
	nodes, l := nodesOf(list), written(t, list)
	if !tree.Same(firstOf(list, len(l)), nodes) {
		t.Fatalf("of all blocks of %s come %s", show(nodes), show(firstOf(list, len(l))))
	}
	ends(t, l, len(l), nodes...)
	for k := range l {
		lacks(t, l[:k], firstOf(list, k)...)
	}
	checkBehind(t, l, nodes)
	_, told, _, e := parse.Run(api.State{}, l)
	if e != 0 || !slices.Equal(told, toldOf(nodes...)) {
		t.Fatalf("told of %s are %s, %d", show(nodes), showTold(told), e)
	}
	checkTold(t, list, told)
}

// checkBehind holds all calls of a stream behind whose end stands something more: it is not taken, and is no error.
func checkBehind(t *testing.T, l [][]byte, nodes []api.Node) {
	t.Helper()
	for _, behind := range [][]byte{noughts(), block512(0, "x"), l[0], headed(api.Head{Name: "z", Type: '5'}), headed(api.Head{Name: "..", Type: '5'}), nil, {}, noughts()[:511], make([]byte, 513)} {
		ends(t, slices.Concat(l, [][]byte{behind}), len(l), nodes...)
		ends(t, slices.Concat(l, [][]byte{behind, behind, behind}), len(l), nodes...)
	}
	ends(t, slices.Concat(l, l), len(l), nodes...)
}

// checkTold holds Gather of what is told of a tree, and of the first ones of that, against their nodes.
func checkTold(t *testing.T, list []sample, told []api.Ev) {
	t.Helper()
	gathers(t, told, nodesOf(list)...)
	var want []api.Node
	for i, e := range told {
		gathers(t, told[:i], want...)
		switch e.Kind {
		case 0:
			want = append(want, e.Node)
		case 1:
			want[len(want)-1].Data += e.Data
		}
	}
}

// P10.1: Gather

func TestGatherOfNoEvents(t *testing.T) {
	gathers(t, nil)
	gathers(t, []api.Ev{})
}

func TestGatherOfOneOfEachKindAlone(t *testing.T) {
	for _, n := range slices.Concat(nodesOf(full()), []api.Node{{}, file("", "x"), file("/..", ""), {Kind: 'V', Mode: -1}}) {
		// The node is told, and is open.
		gathers(t, []api.Ev{begun(n)}, n)
		// Bytes beside a node, and a node beside bytes, or beside an end, are none's.
		gathers(t, []api.Ev{{Kind: 0, Node: n, Data: "x"}}, n)
		stops(t, []api.Ev{{Kind: 1, Node: n, Data: "x"}})
		stops(t, []api.Ev{{Kind: 2, Node: n, Data: "x"}})
		gathers(t, []api.Ev{begun(file("a", "")), {Kind: 1, Node: n, Data: "x"}, {Kind: 2, Node: n, Data: "y"}}, file("a", "x"))
	}
	stops(t, []api.Ev{came("x")})
	stops(t, []api.Ev{came("")})
	stops(t, []api.Ev{over()})
	for _, kind := range otherKinds() {
		stops(t, []api.Ev{{Kind: kind}})
		stops(t, []api.Ev{{Kind: kind, Node: file("a", "x"), Data: "y"}})
	}
}

func TestGatherOfWholeNodes(t *testing.T) {
	a, b := file("a", letters(1000)), with(sym("b", "c"), 511, 1, 2, 3)
	gathers(t, []api.Ev{begun(file("a", "")), came(letters(1000)[:512]), came(letters(1000)[512:]), over()}, a)
	gathers(t, []api.Ev{begun(b), over()}, b)
	gathers(t, []api.Ev{begun(file("a", "")), came(letters(1000)), over(), begun(b), over()}, a, b)
	gathers(t, []api.Ev{begun(b), over(), begun(file("a", "")), came(letters(1000)), over()}, b, a)
	// Neither paths nor kinds are asked: that is no part of it.
	gathers(t, []api.Ev{begun(b), over(), begun(b), over(), begun(b), over()}, b, b, b)
	gathers(t, []api.Ev{begun(dir("a")), came("x"), over()}, api.Node{Path: "a", Kind: '5', Data: "x"})
	gathers(t, []api.Ev{begun(api.Node{}), came("x"), over()}, api.Node{Data: "x"})
}

func TestGatherOfBytesThatAreNone(t *testing.T) {
	gathers(t, []api.Ev{begun(file("a", "")), came(""), over()}, file("a", ""))
	gathers(t, []api.Ev{begun(file("a", "")), came(""), came("x"), came(""), came("y"), came(""), over()}, file("a", "xy"))
	gathers(t, []api.Ev{begun(file("a", "x")), came("")}, file("a", "x"))
	gathers(t, []api.Ev{begun(file("a", "")), came(""), came("")}, file("a", ""))
}

func TestGatherOfANodeThatHasBytesAlready(t *testing.T) {
	gathers(t, []api.Ev{begun(file("a", "x"))}, file("a", "x"))
	gathers(t, []api.Ev{begun(file("a", "x")), over()}, file("a", "x"))
	gathers(t, []api.Ev{begun(file("a", "x")), came("y"), over()}, file("a", "xy"))
	gathers(t, []api.Ev{begun(file("a", "x")), came("y"), came("z")}, file("a", "xyz"))
	gathers(t, []api.Ev{begun(file("a", letters(600))), came(upper(600)), over(), begun(file("b", "x")), came("x"), over()}, file("a", letters(600)+upper(600)), file("b", "xx"))
	gathers(t, []api.Ev{begun(file("a", "x")), over(), begun(file("b", "")), came("y"), over()}, file("a", "x"), file("b", "y"))
}

func TestGatherThatLeavesANodeOpen(t *testing.T) {
	gathers(t, []api.Ev{begun(file("a", ""))}, file("a", ""))
	gathers(t, []api.Ev{begun(file("a", "")), came(letters(512))}, file("a", letters(512)))
	gathers(t, []api.Ev{begun(file("a", "")), came("x"), over(), begun(file("b", "")), came("y")}, file("a", "x"), file("b", "y"))
	gathers(t, []api.Ev{begun(dir("a")), over(), begun(dir("b"))}, dir("a"), dir("b"))
}

func TestGatherOfANodeWhileOneIsOpen(t *testing.T) {
	stops(t, []api.Ev{begun(dir("a")), begun(dir("b"))}, dir("a"))
	stops(t, []api.Ev{begun(dir("a")), begun(dir("a"))}, dir("a"))
	stops(t, []api.Ev{begun(file("a", "")), came("x"), begun(dir("b"))}, file("a", "x"))
	stops(t, []api.Ev{begun(file("a", "x")), came("y"), begun(file("b", "z"))}, file("a", "xy"))
	stops(t, []api.Ev{begun(dir("a")), over(), begun(file("b", "")), came(""), begun(dir("c"))}, dir("a"), file("b", ""))
}

func TestGatherOfBytesOrAnEndWhileNoneIsOpen(t *testing.T) {
	for _, e := range []api.Ev{came("x"), came(""), over()} {
		stops(t, []api.Ev{e})
		stops(t, []api.Ev{begun(dir("a")), over(), e}, dir("a"))
		stops(t, []api.Ev{begun(file("a", "")), came("x"), over(), e}, file("a", "x"))
		stops(t, []api.Ev{begun(file("a", "")), came("x"), over(), begun(file("b", "y")), over(), e}, file("a", "x"), file("b", "y"))
	}
}

func TestGatherOfOtherKinds(t *testing.T) {
	for _, kind := range otherKinds() {
		for _, e := range []api.Ev{{Kind: kind}, {Kind: kind, Node: file("z", "z"), Data: "z"}} {
			stops(t, []api.Ev{e})
			stops(t, []api.Ev{begun(file("a", "")), e}, file("a", ""))
			stops(t, []api.Ev{begun(file("a", "")), came("x"), e}, file("a", "x"))
			stops(t, []api.Ev{begun(file("a", "")), came("x"), over(), e}, file("a", "x"))
			stops(t, []api.Ev{begun(file("a", "")), came("x"), over(), begun(dir("b")), e}, file("a", "x"), dir("b"))
		}
	}
}

// What stands behind the first one that is out of order is not asked.
func TestGatherOfWhatIsInOrderAgain(t *testing.T) {
	for _, behind := range [][]api.Ev{
		{over()}, {came("z")}, {came("z"), over()}, {begun(dir("z")), over()}, {over(), begun(dir("z")), over()}, {over(), over()}, {{Kind: 3}}, {begun(file("z", "z")), came("z")},
	} {
		stops(t, slices.Concat([]api.Ev{over()}, behind))
		stops(t, slices.Concat([]api.Ev{came("x")}, behind))
		stops(t, slices.Concat([]api.Ev{{Kind: -1}}, behind))
		stops(t, slices.Concat([]api.Ev{begun(file("a", "")), came("x"), begun(dir("b"))}, behind), file("a", "x"))
		stops(t, slices.Concat([]api.Ev{begun(file("a", "")), came("x"), {Kind: 3, Data: "y"}}, behind), file("a", "x"))
		stops(t, slices.Concat([]api.Ev{begun(file("a", "")), came("x"), over(), came("y")}, behind), file("a", "x"))
		stops(t, slices.Concat([]api.Ev{begun(file("a", "")), came("x"), over(), over()}, behind), file("a", "x"))
	}
}

// wantGather is Gather by the chapter's words, written another way.
func wantGather(l []api.Ev) ([]api.Node, bool) {
	var nodes []api.Node
	open := -1
	for _, e := range l {
		inOrder := map[int]bool{0: open < 0, 1: open >= 0, 2: open >= 0}
		if !inOrder[e.Kind] {
			return nodes, false
		}
		if e.Kind == 0 {
			open, nodes = len(nodes), append(nodes, e.Node)
		}
		if e.Kind == 1 {
			nodes[open].Data = nodes[open].Data + e.Data
		}
		if e.Kind == 2 {
			open = -1
		}
	}
	return nodes, true
}

func TestGatherOfAllShortLists(t *testing.T) {
	alphabet := []api.Ev{begun(file("a", "")), begun(with(file("b", "x"), 1, 2, 3, 4)), came("y"), came(""), over(), {Kind: 3, Node: dir("c"), Data: "z"}}
	inOrder, all := 0, 0
	var grow func(l []api.Ev)
	grow = func(l []api.Ev) {
		want, ok := wantGather(l)
		isGather(t, l, want, ok)
		all++
		if ok {
			inOrder++
		}
		if len(l) == 6 {
			return
		}
		for _, e := range alphabet {
			grow(append(l[:len(l):len(l)], e))
		}
	}
	grow(nil)
	if all != 55987 || inOrder < 300 {
		t.Errorf("of %d lists %d are in order", all, inOrder)
	}
}

func TestGatherOfLongLists(t *testing.T) {
	r := rand.New(rand.NewSource(10))
	breaks := 0
	for range 1000 {
		var l []api.Ev
		open := false
		for i := range r.Intn(200) {
			switch {
			case r.Intn(150) == 0:
				l = append(l, api.Ev{Kind: r.Intn(5) - 1, Data: "w"})
				open = len(l)%2 == 0
			case !open:
				l = append(l, begun(file(fmt.Sprint("f", i), letters(r.Intn(3)))))
				open = true
			case r.Intn(4) == 0:
				l = append(l, over())
				open = false
			default:
				l = append(l, came(upper(r.Intn(600))))
			}
		}
		want, ok := wantGather(l)
		isGather(t, l, want, ok)
		if !ok {
			breaks++
		}
	}
	if breaks < 100 || breaks > 900 {
		t.Errorf("%d lists of 1000 are out of order", breaks)
	}
}

// No number of events is too great, nor of nodes, nor of a node's bytes.
func TestGatherOfVeryMany(t *testing.T) {
	const many = 300000
	l := []api.Ev{begun(file("a", ""))}
	for i := range many {
		l = append(l, came(letters(26)[i%26:][:1]))
	}
	nodes, ok := Gather(l)
	if !ok || len(nodes) != 1 || nodes[0] != file("a", letters(many)) {
		t.Errorf("of bytes one by one: %s, %t", show(nodes), ok)
	}
	l = nil
	for range many {
		l = append(l, begun(file("a", "x")), came("y"), over())
	}
	nodes, ok = Gather(l)
	if !ok || len(nodes) != many || slices.ContainsFunc(nodes, func(n api.Node) bool { return n != file("a", "xy") }) {
		t.Errorf("of many nodes: %d, %t", len(nodes), ok)
	}
}

// P10.2: Part, Read and Used

func TestNoughts(t *testing.T) {
	lacks(t, nil)
	lacks(t, [][]byte{})
	lacks(t, [][]byte{noughts()})
	ends(t, [][]byte{noughts(), noughts()}, 2)
	ends(t, [][]byte{noughts(), noughts(), noughts()}, 2)
	ends(t, slices.Repeat([][]byte{noughts()}, 100), 2)
	for _, b := range [][]byte{block512(0, "x"), block512(511, "\x01"), headed(api.Head{Name: "a", Type: '5'})} {
		fails(t, [][]byte{noughts(), b}, 2, 1)
		fails(t, [][]byte{noughts(), b, noughts(), noughts()}, 2, 1)
		ends(t, [][]byte{noughts(), noughts(), b}, 2)
	}
}

// The bytes are written out here, with the sums that they have.
func TestAStreamThatIsWrittenOut(t *testing.T) {
	a, b := with(dir("a"), 493, 1000, 100, 1700000000), with(file("a/b", "bytes"), 420, 1000, 100, 1700000001)
	x := strings.Repeat("n", 120)
	l := [][]byte{
		block512(0, "a", 100, "0000755\x000001750\x000000144\x0000000000000\x0014524770400\x00006176\x00 5", 257, "ustar\x0000"),
		block512(0, "a/b", 100, "0000644\x000001750\x000000144\x0000000000005\x0014524770401\x00006415\x00 0", 257, "ustar\x0000"),
		block512(0, "bytes"),
		block512(0, "././@LongLink", 100, "0000000\x000000000\x000000000\x0000000000171\x0000000000000\x00010014\x00 L", 257, "ustar\x0000"),
		block512(0, x),
		block512(0, x[:100], 100, "0000000\x000000000\x000000000\x0000000000000\x0000000000000\x00033672\x00 1a/b", 257, "ustar\x0000"),
		noughts(),
		noughts(),
	}
	ends(t, l, 8, a, b, hard(x, "a/b"))
	ends(t, append(slices.Clone(l), noughts()), 8, a, b, hard(x, "a/b"))
	for k, want := range [][]api.Node{
		{}, {a}, {a, with(file("a/b", ""), 420, 1000, 100, 1700000001)}, {a, b}, {a, b}, {a, b}, {a, b, hard(x, "a/b")}, {a, b, hard(x, "a/b")},
	} {
		lacks(t, l[:k], want...)
	}
}

func TestBytesThatAreNotFilledUp(t *testing.T) {
	// What stands behind a file's last byte in its block is none of its bytes.
	h, b := headed(api.Head{Name: "a", Type: '0', Size: 515}), block512(0, letters(512))
	ends(t, [][]byte{h, b, block512(0, "xyz", 3, upper(500)), noughts(), noughts()}, 5, file("a", letters(512)+"xyz"))
	lacks(t, [][]byte{h, b}, file("a", letters(512)))
	lacks(t, [][]byte{h}, file("a", ""))
	// Blocks of noughts are its bytes, too.
	lacks(t, [][]byte{h, noughts()}, file("a", strings.Repeat("\x00", 512)))
	lacks(t, [][]byte{h, noughts(), noughts()}, file("a", strings.Repeat("\x00", 515)))
	lacks(t, [][]byte{h, noughts(), noughts(), noughts()}, file("a", strings.Repeat("\x00", 515)))
	ends(t, [][]byte{h, noughts(), noughts(), noughts(), noughts()}, 5, file("a", strings.Repeat("\x00", 515)))
}

// wrongs are blocks that none is behind a whole node, and the error of each.
func wrongs() []struct {
	b []byte
	e api.Errno
} {
	broken := headed(api.Head{Name: "a", Type: '5'})
	broken[0] = 'b'
	formless := block512(0, "x")
	copy(formless[148:], fmt.Sprintf("%06o\x00 ", head.Sum(formless)))
	return []struct {
		b []byte
		e api.Errno
	}{
		{nil, 1}, {[]byte{}, 1}, {noughts()[:511], 1}, {make([]byte, 513), 1}, {headed(api.Head{Name: "z", Type: '5'})[:511], 1},
		{formless, 2},
		{headed(api.Head{Name: "z", Type: '2'}), 2},
		{headed(api.Head{Name: "z", Type: '0', Size: 4001}), 2},
		{headed(api.Head{Name: "z", Type: '5', Size: 1}), 2},
		{headed(api.Head{Name: "z", Type: 'L', Size: 5}), 2},
		{headed(api.Head{Name: "././@LongLink", Type: 'L', Size: 302}), 2},
		{headed(api.Head{Name: "././@LongLink", Type: 'K', Size: 1}), 2},
		{broken, 3}, {block512(0, "x"), 3}, {block512(511, "\x01"), 3}, {block512(0, letters(512)), 3},
		{headed(api.Head{Name: "z", Type: 'M'}), 5},
		{headed(api.Head{Name: "z", Type: 'V'}), 5},
		{headed(api.Head{Name: "../z", Type: '5'}), 6},
		{headed(api.Head{Name: "/z", Type: '0', Size: 5}), 6},
		{headed(api.Head{Name: "a/../b", Type: '5'}), 6},
		{headed(api.Head{Name: "z", Prefix: "..", Type: '5'}), 6},
	}
}

func TestErrorsThatAreHandedOn(t *testing.T) {
	list := full()
	l := written(t, list)
	for _, x := range wrongs() {
		fails(t, [][]byte{x.b}, x.e, 0)
		fails(t, [][]byte{x.b, noughts(), noughts()}, x.e, 0)
		fails(t, slices.Concat([][]byte{x.b}, l), x.e, 0)
		at := 0
		for i, s := range list {
			// Ahead of a node; with all behind it, and as the last block.
			whole := nodesOf(list[:i])
			fails(t, slices.Insert(slices.Clone(l), at, x.b), x.e, at, whole...)
			fails(t, slices.Concat(l[:at], [][]byte{x.b}), x.e, at, whole...)
			at += s.ahead + 1 + s.data
		}
		// In the place of the first block of noughts. In that of the second one each other block has no form.
		fails(t, replaced(l, at, x.b), x.e, at, nodesOf(list)...)
		second := x.e
		if len(x.b) == 512 {
			second = 2
		}
		fails(t, replaced(l, at+1, x.b), second, at+1, nodesOf(list)...)
		ends(t, slices.Concat(l, [][]byte{x.b}), len(l), nodesOf(list)...)
	}
}

// The first error is told, whatever stands behind it.
func TestTheFirstOfSeveralErrors(t *testing.T) {
	a := headed(api.Head{Name: "a", Type: '5'})
	for _, x := range wrongs() {
		for _, y := range wrongs() {
			fails(t, [][]byte{a, x.b, y.b, noughts(), noughts()}, x.e, 1, dir("a"))
			fails(t, [][]byte{x.b, y.b}, x.e, 0)
		}
	}
}

func TestLongTextsWithoutTheirNode(t *testing.T) {
	name, _ := long.Put('L', letters(120))
	link, _ := long.Put('K', upper(120))
	a, h := headed(api.Head{Name: "a", Type: '5'}), headed(api.Head{Name: letters(100), Link: upper(100), Type: '2'})
	lacks(t, slices.Concat([][]byte{a}, name), dir("a"))
	lacks(t, slices.Concat([][]byte{a}, name, link), dir("a"))
	lacks(t, slices.Concat([][]byte{a}, name, link, [][]byte{h}), dir("a"), sym(letters(120), upper(120)))
	fails(t, slices.Concat([][]byte{a}, name, link, [][]byte{noughts(), noughts()}), 2, 5, dir("a"))
	fails(t, slices.Concat([][]byte{a}, name, name, [][]byte{h}), 5, 3, dir("a"))
	fails(t, slices.Concat([][]byte{a}, name, link, link, [][]byte{h}), 5, 5, dir("a"))
	fails(t, slices.Concat([][]byte{a}, name, link, [][]byte{a}), 2, 5, dir("a"))
	fails(t, slices.Concat([][]byte{a}, name[:1], [][]byte{h}), 2, 2, dir("a"))
	fails(t, slices.Concat([][]byte{a}, name[:1], [][]byte{noughts()}), 2, 2, dir("a"))
	bad, _ := long.Put('L', "../"+letters(120))
	fails(t, slices.Concat([][]byte{a}, bad, [][]byte{headed(api.Head{Name: ("../" + letters(120))[:100], Type: '5'})}), 6, 3, dir("a"))
}

// Blocks of another length, wherever they stand: the nodes ahead are told, of an open file with the bytes that came.
func TestBlocksOfOtherLengths(t *testing.T) {
	list := full()
	l := written(t, list)
	for i, b := range l {
		for _, x := range [][]byte{nil, {}, b[:511], append(bytes.Clone(b), 0), append(bytes.Clone(b), 'x'), slices.Repeat(b, 2)} {
			fails(t, replaced(l, i, x), 1, i, firstOf(list, i)...)
			fails(t, replaced(l[:i+1], i, x), 1, i, firstOf(list, i)...)
			// Read tells that error, not that blocks are missing.
			fails(t, slices.Insert(slices.Clone(l), i, x), 1, i, firstOf(list, i)...)
		}
	}
}

// A block of which one byte is another one. The blocks: a header and the bytes of a, those of b's link and of its name, b's and c's headers, and noughts.
func TestBlocksOfWhichAByteIsAnotherOne(t *testing.T) {
	list := []sample{
		{with(file("a", letters(1000)), 420, 1, 2, 3), 0, 2},
		{sym(wide("b", 120), upper(150)), 4, 0},
		{dir("c"), 0, 0},
	}
	l, nodes := written(t, list), nodesOf(list)
	for i := range l {
		for at := range 512 {
			b := bytes.Clone(l[i])
			b[at] ^= 0x55
			m := replaced(l, i, b)
			switch i {
			case 1, 2:
				// No sum is asked of a file's bytes.
				changed := nodes[0]
				changed.Data = (string(m[1]) + string(m[2]))[:1000]
				ends(t, m, 11, changed, nodes[1], nodes[2])
			case 4:
				changed := nodes[1]
				changed.Link = string(b[:150])
				checkSpoiltText(t, m, i, at, 150, nodes[0], changed, nodes[2])
			case 6:
				changed := nodes[1]
				changed.Path = string(b[:120])
				checkSpoiltText(t, m, i, at, 120, nodes[0], changed, nodes[2])
			case 10:
				fails(t, m, 2, i, nodes...)
			default:
				fails(t, m, 3, i, firstOf(list, i)...)
			}
		}
	}
}

// checkSpoiltText holds the calls of that stream with another byte in block i, which has a long text of so many bytes, against an error, or against changed nodes.
func checkSpoiltText(t *testing.T, l [][]byte, i, at, many int, changed ...api.Node) {
	t.Helper()
	switch {
	case at >= many || l[i][at] == 0:
		fails(t, l, 2, i, changed[0])
	case at < 100:
		// The header has another beginning.
		fails(t, l, 2, 7, changed[0])
	default:
		ends(t, l, 11, changed...)
	}
}

// Whatever the blocks are: Part, Read and Used tell what parse's Run and Gather do.
func isOfRun(t *testing.T, l [][]byte) api.Errno {
	t.Helper()
	s, told, taken, e := parse.Run(api.State{}, l)
	nodes, ok := wantGather(told)
	if !ok {
		t.Errorf("out of order is what was told: %s", showTold(told))
	}
	gathers(t, told, nodes...)
	whole := e
	if e == 0 && s.Phase != 5 {
		whole = 7
	}
	isRead(t, l, nodes, e, whole, taken)
	for _, n := range nodes {
		if !tree.One(n) {
			t.Errorf("Part tells %s", showNode(n))
		}
	}
	return whole
}

// spoilt are blocks of which one is another one, missing, one of a pool's, ahead of one of these, or the last one.
func spoilt(r *rand.Rand, l, pool [][]byte) [][]byte {
	i := r.Intn(len(l))
	other := pool[r.Intn(len(pool))]
	switch r.Intn(5) {
	case 0:
		b := bytes.Clone(l[i])
		b[r.Intn(512)] ^= byte(1 + r.Intn(255))
		return replaced(l, i, b)
	case 1:
		return slices.Delete(slices.Clone(l), i, i+1)
	case 2:
		return replaced(l, i, other)
	case 3:
		return slices.Insert(slices.Clone(l), i, other)
	}
	return l[:i+1]
}

func TestAllSortsOfBlocks(t *testing.T) {
	r := rand.New(rand.NewSource(102))
	whole := written(t, full())
	pool := slices.Concat(whole, slices.Repeat([][]byte{noughts()}, 4))
	for _, x := range wrongs() {
		pool = append(pool, x.b)
	}
	counts := map[api.Errno]int{}
	for range 4000 {
		var l [][]byte
		for range r.Intn(12) {
			// Some blocks that stand one behind the other, so that nodes come.
			from := r.Intn(len(pool))
			l = append(l, pool[from:min(len(pool), from+1+r.Intn(6))]...)
		}
		counts[isOfRun(t, l)]++
		counts[isOfRun(t, spoilt(r, whole, pool))]++
	}
	for _, e := range []api.Errno{0, 1, 2, 3, 5, 6, 7} {
		if counts[e] < 40 {
			t.Errorf("only %d lists of blocks have the error %d", counts[e], e)
		}
	}
}

// What is read need be no tree, and may have more nodes than one.
func TestNodesThatAreNoTree(t *testing.T) {
	h := headed(api.Head{Name: "b/c", Type: '5'})
	ends(t, [][]byte{h, h, headed(api.Head{Name: "a", Link: "nowhere", Type: '1'}), noughts(), noughts()}, 5, dir("b/c"), dir("b/c"), hard("a", "nowhere"))
	var l [][]byte
	var want []api.Node
	for i := range 500 {
		p := fmt.Sprint("n", 1000-i)
		l = append(l, headed(api.Head{Name: p, Type: '0', Size: 1}), block512(0, "x"))
		want = append(want, file(p, "x"))
	}
	lacks(t, l, want...)
	ends(t, append(l, noughts(), noughts()), 1002, want...)
}

// P10.3

func TestTheEmptyTree(t *testing.T) {
	checkTree(t)
}

func TestTreesOfOneNode(t *testing.T) {
	for _, x := range []struct{ size, data int }{{0, 0}, {1, 1}, {2, 1}, {511, 1}, {512, 1}, {513, 2}, {1024, 2}, {1025, 3}, {3584, 7}, {3585, 8}, {3999, 8}, {4000, 8}} {
		checkTree(t, sample{file("a", letters(x.size)), 0, x.data})
		checkTree(t, sample{with(file("a", strings.Repeat("\x00", x.size)), 4095, 1<<40, 1<<40, 1<<40), 0, x.data})
		checkTree(t, sample{file(letters(101), upper(x.size)), 2, x.data})
		checkTree(t, sample{with(file(letters(300), upper(x.size)), 420, 1, 2, 3), 2, x.data})
	}
	checkTree(t, sample{dir("a"), 0, 0})
	checkTree(t, sample{with(dir("a"), 493, 1, 2, 3), 0, 0})
	checkTree(t, sample{dir(letters(300)), 2, 0})
	for _, link := range []string{"b", "../..", "/etc", upper(100)} {
		checkTree(t, sample{with(sym("a", link), 511, 1, 2, 3), 0, 0})
		checkTree(t, sample{sym(letters(101), link), 2, 0})
	}
	for _, n := range []int{101, 300} {
		checkTree(t, sample{sym("a", upper(n)), 2, 0})
		checkTree(t, sample{with(sym(letters(n), upper(n)), 1, 2, 3, 4), 4, 0})
	}
}

func TestTreesOfSeveralNodes(t *testing.T) {
	checkTree(t, full()...)
	checkTree(t, full()[:7]...)
	checkTree(t, sample{dir("a"), 0, 0}, sample{file("a/b", "bytes"), 0, 1})
	sizes := []struct{ size, data int }{{0, 0}, {1, 1}, {511, 1}, {512, 1}, {513, 2}, {1024, 2}, {4000, 8}}
	for _, x := range sizes {
		for _, y := range sizes {
			checkTree(t, sample{file("a", letters(x.size)), 0, x.data}, sample{file("b", upper(y.size)), 0, y.data})
		}
		first := sample{file("a", letters(x.size)), 0, x.data}
		checkTree(t, first, sample{hard("b", "a"), 0, 0})
		checkTree(t, first, sample{sym("b", upper(300)), 2, 0}, sample{dir(wide("c", 101)), 2, 0})
		checkTree(t, sample{file(wide("a", 101), letters(x.size)), 2, x.data}, sample{hard(wide("b", 300), wide("a", 101)), 4, 0})
	}
	// Files whose bytes are blocks of a stream.
	inner := string(bytes.Join(written(t, full()[1:6]), nil))
	checkTree(t, sample{file("a", inner[:4000]), 0, 8}, sample{dir("b"), 0, 0})
	// The most blocks that a tree has.
	var most []sample
	for i := range 20 {
		most = append(most, sample{file(wide(string(rune('a'+i)), 300), upper(4000)), 2, 8})
	}
	checkTree(t, most...)
}

func TestAllSortsOfTrees(t *testing.T) {
	r := rand.New(rand.NewSource(103))
	for range 60 {
		var list []sample
		for i := range r.Intn(21) {
			first := string(rune('A' + i))
			size := r.Intn(2000)
			n := sample{file(first, letters(size)), 0, (size + 511) / 512}
			switch r.Intn(5) {
			case 0:
				n = sample{dir(first), 0, 0}
			case 1:
				n = sample{sym(first, upper(1+r.Intn(100))), 0, 0}
			case 2:
				n = sample{sym(first, upper(101+r.Intn(200))), 2, 0}
			}
			if r.Intn(3) == 0 {
				n.node.Path, n.ahead = wide(first, 101+r.Intn(200)), n.ahead+2
			}
			n.node = with(n.node, r.Intn(4096), r.Intn(1<<40), r.Intn(1<<20), r.Intn(1<<40))
			list = append(list, n)
		}
		checkTree(t, list...)
	}
}

// R3

func TestAnswersAreNewMemory(t *testing.T) {
	list := full()
	l, want := written(t, list), nodesOf(list)
	part, _ := Part(l)
	whole, _ := Read(l)
	again, _ := Read(l)
	told := toldOf(want...)
	gathered, _ := Gather(told)
	for _, b := range l {
		for i := range b {
			b[i] = '!'
		}
	}
	clear(l)
	clear(told)
	for _, got := range [][]api.Node{part, whole, again, gathered} {
		if !slices.Equal(got, want) {
			t.Errorf("what was answered changes with what was handed in, or with another answer: %s", show(got))
		}
		_ = append(got[:0:len(got)], make([]api.Node, len(got))...)
		clear(got)
	}
}

func TestWhatIsHandedInStays(t *testing.T) {
	l := append(written(t, full()), noughts(), block512(0, "x"), nil, make([]byte, 513))
	was := clones(l)
	for k := range len(l) + 1 {
		Part(l[:k])
		Read(l[:k])
		Used(l[:k])
		Part(l[k:])
		Read(l[k:])
		Used(l[k:])
	}
	if !slices.EqualFunc(l, was, bytes.Equal) {
		t.Error("blocks have changed")
	}
	told := append(toldOf(nodesOf(full())...), begun(file("x", "y")), came("z"), api.Ev{Kind: 3}, came("w"))
	wasTold := slices.Clone(told)
	for k := range len(told) + 1 {
		Gather(told[:k])
		Gather(told[k:])
	}
	if !slices.Equal(told, wasTold) {
		t.Error("what is told has changed")
	}
}

// R5

func TestTheSameAgainWhateverWasAsked(t *testing.T) {
	list := full()
	l, nodes := written(t, list), nodesOf(list)
	other := slices.Concat(l[:9], [][]byte{nil})
	for _, x := range [][][]byte{nil, {noughts()}, {nil}, other, l[:20], l} {
		ends(t, l, len(l), nodes...)
		gathers(t, toldOf(nodes...), nodes...)
		Part(x)
		Read(x)
		Used(x)
		Gather([]api.Ev{begun(dir("a")), came("x"), begun(dir("b"))})
		ends(t, l, len(l), nodes...)
		gathers(t, toldOf(nodes...), nodes...)
	}
}
