package check

import (
	"bytes"
	"fmt"
	"math"
	"math/rand"
	"slices"
	"strconv"
	"strings"
	"testing"

	"reelkeeper/api"
	"reelkeeper/block"
	"reelkeeper/cont"
	"reelkeeper/head"
	"reelkeeper/label"
	"reelkeeper/long"
	"reelkeeper/parse"
	"reelkeeper/stream"
	"reelkeeper/strip"
	"reelkeeper/tape"
	"reelkeeper/volume"
)

const most = 1099511627776 // 2^40

// letters is a text of so many bytes, without a slash.
func letters(n int) string {
	return strings.Repeat("abcdefghijklmnopqrstuvwxyz", n/26+1)[:n]
}

// numbers is a text of so many bytes, each block of which differs from the others.
func numbers(n int) string {
	var s strings.Builder
	for i := 0; s.Len() < n; i++ {
		fmt.Fprintf(&s, "%7d,", i)
	}
	return s.String()[:n]
}

// wide is a path of so many bytes that begins by a text.
func wide(first string, n int) string {
	return first + letters(n-len(first))
}

func file(p string, size int) api.Node { return api.Node{Path: p, Kind: '0', Data: numbers(size)} }

func hard(p, link string) api.Node { return api.Node{Path: p, Link: link, Kind: '1'} }

func sym(p, link string) api.Node { return api.Node{Path: p, Link: link, Kind: '2'} }

func dir(p string) api.Node { return api.Node{Path: p, Kind: '5'} }

func setOf(b int, caps ...int) api.Set { return api.Set{Label: "full", B: b, Caps: caps} }

// repeated are so many capacities alike.
func repeated(n, records int) []int {
	return slices.Repeat([]int{records}, n)
}

// tree are some nodes.
type tree []api.Node

// show tells nodes in a line, long texts by their beginning.
func (nodes tree) show() string {
	var all []string
	for _, n := range nodes {
		all = append(all, fmt.Sprintf("{%.20q (%d) %q link %.20q (%d) data (%d)}", n.Path, len(n.Path), n.Kind, n.Link, len(n.Link), len(n.Data)))
	}
	return fmt.Sprint(len(nodes), " nodes ", strings.Join(all, " "))
}

// word tells a block: a label's number, what goes on and where, a header's type, bytes, or noughts.
func word(b []byte) string {
	h, e := head.Get(b)
	switch {
	case len(b) != 512:
		return fmt.Sprintf("(%d bytes)", len(b))
	case e == api.ErrZero:
		return "-"
	case e != api.OK:
		return "d"
	case h.Type == 'V':
		return "V" + h.Name[strings.LastIndex(h.Name, " ")+1:]
	case h.Type == 'M':
		return fmt.Sprintf("M%d", h.Off)
	}
	return string([]byte{h.Type})
}

// tell tells a state, long texts by their beginning.
func tell(s api.State) string {
	return fmt.Sprintf("{phase %d node %.20q (%d) size %d left %d text %.20q name %.20q (%d) link %.20q (%d)}", s.Phase, s.Node.Path, len(s.Node.Path), s.Size, s.Left, s.Text, s.Name, len(s.Name), s.Link, len(s.Link))
}

// labelOf is a label's block.
func labelOf(t *testing.T, name string, n int) []byte {
	t.Helper()
	b, ok := label.Put(name, n)
	if !ok {
		t.Fatalf("no label of %q, %d", name, n)
	}
	return b
}

// moreOf are the blocks which say that a file goes on.
func moreOf(t *testing.T, n api.Node, off int) [][]byte {
	t.Helper()
	l, ok := cont.Put(n, off)
	if !ok {
		t.Fatalf("%.20q does not go on at %d", n.Path, off)
	}
	return l
}

// streamOf are the blocks of a tree's stream.
func streamOf(t *testing.T, nodes tree) [][]byte {
	t.Helper()
	l, ok := stream.All(nodes)
	if !ok {
		t.Fatalf("no stream of %s", nodes.show())
	}
	return l
}

// volumesOf are a tree's volumes.
func volumesOf(t *testing.T, nodes tree, s api.Set) [][][]byte {
	t.Helper()
	vols, e := volume.Split(nodes, s)
	if e != api.OK {
		t.Fatalf("no volumes of %s, %v: %d", nodes.show(), s, e)
	}
	return vols
}

// vol puts a volume together, of a block or of several ones each.
func vol(parts ...any) [][]byte {
	var v [][]byte
	for _, p := range parts {
		switch p := p.(type) {
		case []byte:
			v = append(v, p)
		case [][]byte:
			v = append(v, p...)
		}
	}
	return v
}

// wound is a tape with the blocks of a volume, so many a record: full, and closed.
func wound(v [][]byte, b int) api.Tape {
	var rs [][]byte
	for rest := v; len(rest) > 0; rest = rest[min(b, len(rest)):] {
		r := bytes.Join(rest[:min(b, len(rest))], nil)
		rs = append(rs, append(r, make([]byte, b*512-len(r))...))
	}
	return api.Tape{Cap: len(rs), R: rs, Mark: true}
}

// loose is a tape with one record of all blocks of a volume, whatever they are: with room left, and open.
func loose(parts ...any) api.Tape {
	return api.Tape{Cap: 200, R: [][]byte{bytes.Join(vol(parts...), nil)}}
}

// tapesOf are the tapes of a tree's volumes.
func tapesOf(t *testing.T, nodes tree, s api.Set) []api.Tape {
	t.Helper()
	var l []api.Tape
	for k, v := range volumesOf(t, nodes, s) {
		reel := wound(v, s.B)
		reel.Cap = s.Caps[k]
		l = append(l, reel)
	}
	return l
}

// show tells a tape, record by record.
func show(t api.Tape) string {
	words := []string{fmt.Sprintf("of %d", t.Cap)}
	for _, r := range t.R {
		if len(r) == 0 || len(r)%512 != 0 {
			words = append(words, fmt.Sprintf("(%d bytes)", len(r)))
			continue
		}
		var record []string
		for b := range slices.Chunk(r, 512) {
			record = append(record, word(b))
		}
		words = append(words, strings.Join(record, " "))
	}
	if t.Mark {
		words = append(words, "marked")
	}
	return fmt.Sprintf("{%.300s}", strings.Join(words, " | "))
}

// shown tells a shelf, tape by tape.
func shown(l []api.Tape) string {
	var all []string
	for _, t := range l {
		all = append(all, show(t))
	}
	return fmt.Sprintf("%d tapes %.600s", len(l), strings.Join(all, " "))
}

// cloned are the same tapes, in memory of their own.
func cloned(l []api.Tape) []api.Tape {
	var all []api.Tape
	for _, t := range l {
		var rs [][]byte
		for _, r := range t.R {
			rs = append(rs, bytes.Clone(r))
		}
		t.R = rs
		all = append(all, t)
	}
	return all
}

// The trees

// full is a tree of 20 nodes, of all kinds and about all edges, those with long texts also first, in the midst and last.
func full() tree {
	target, folder := "D/"+wide("d", 298), wide("F", 101)
	numbered := file("C", 1)
	numbered.Mode, numbered.Uid, numbered.Gid, numbered.Mtime = 4095, most, most, most
	return tree{
		sym(wide("A", 150), letters(101)), file("B", 0), numbered, dir("D"), file("D/a", 512), file("D/b", 513), hard("D/c", "D/b"), file(target, 4000),
		sym("D/e", letters(100)), sym("D/f", letters(101)), hard(wide("E", 120), target), dir(folder), file(folder+"/x", 1024), dir("G"), dir("G/h"), sym("G/h/i", ".."),
		file("G/h/j", 511), file(wide("H", 100), 1025), file("I", 0), sym(wide("J", 300), letters(300)),
	}
}

// greatest is a tree of as many blocks as there are.
func greatest() tree {
	var nodes tree
	for i := range 20 {
		nodes = append(nodes, file(wide(string(rune('a'+i)), 300), 4000))
	}
	return nodes
}

// fewer are trees of a few nodes.
func fewer() []tree {
	target := wide("a", 101)
	return []tree{
		nil,
		{dir("a")},
		{sym("a", "b")},
		{file("a", 0)},
		{file("a", 1)},
		{file("a", 512)},
		{file("a", 513)},
		{{Path: "a", Kind: '0', Mode: 420, Uid: 1000, Gid: 100, Mtime: 1700000000, Data: numbers(1000)}},
		{file("a", 1025)},
		{file("a", 4000)},
		{{Path: "a", Kind: '0', Data: strings.Repeat("\x00", 2000)}},
		{file(wide("a", 100), 2000)},
		{file(target, 2000)},
		{file(wide("a", 300), 0)},
		{file(wide("a", 300), 4000)},
		{sym("a", letters(300))},
		{sym(wide("a", 101), letters(101))},
		{dir("a"), file("a/b", 5)},
		{dir("a"), file("a/"+wide("b", 150), 1500)},
		{dir(wide("a", 90)), file(wide("a", 90)+"/"+wide("b", 90), 1500)},
		{file("a", 600), file("b", 1200)},
		{file("a", 600), hard("b", "a"), file("c", 513)},
		{file(target, 600), hard("b", target), file(wide("c", 200), 513)},
		{file("a", 0), file("b", 1), sym("c", letters(200)), dir("d")},
	}
}

// allTrees are all of these.
func allTrees() []tree {
	return append(fewer(), full(), greatest())
}

// someTree is a tree of a few nodes, in one directory.
func someTree(r *rand.Rand) tree {
	nodes := tree{file("a", 1+r.Intn(1500)), dir("b")}
	for i := range r.Intn(6) {
		p := fmt.Sprintf("b/%d", i)
		if r.Intn(3) == 0 {
			p = wide(p, 103+r.Intn(198))
		}
		switch r.Intn(6) {
		case 0:
			nodes = append(nodes, hard(p, "a"))
		case 1:
			nodes = append(nodes, sym(p, letters(1+r.Intn(200))))
		case 2:
			nodes = append(nodes, dir(p))
		default:
			nodes = append(nodes, file(p, r.Intn(4001)))
		}
	}
	return nodes
}

// someTapes are a tree's tapes, often several ones, and the volumes on them.
func someTapes(t *testing.T, r *rand.Rand, nodes tree) ([]api.Tape, [][][]byte) {
	for {
		b := 1 + r.Intn(4)
		var caps []int
		for range 12 {
			caps = append(caps, 1+r.Intn(12))
		}
		caps[1+r.Intn(11)] = 200
		if vols, e := volume.Split(nodes, setOf(b, caps...)); e == api.OK {
			return tapesOf(t, nodes, setOf(b, caps...)), vols
		}
	}
}

// behind is the state behind so many blocks of a tree's stream.
func behind(nodes tree, many int) api.State {
	for _, n := range nodes {
		s, left := behindNode(n, many)
		if left < 0 {
			return s
		}
		many = left
	}
	return []api.State{{}, {Phase: api.PhZero}, {Phase: api.PhEnd}}[many]
}

// behindNode is the state behind so many blocks of a node, and how many are left behind all of its blocks: -1, if it has more.
func behindNode(n api.Node, many int) (api.State, int) {
	states := []api.State{{}}
	needsName, needsLink := long.Needs(n)
	link := ""
	if needsLink {
		link = n.Link
		states = append(states, api.State{Phase: api.PhLink, Size: len(link) + 1, Left: len(link) + 1}, api.State{Link: link})
	}
	if needsName {
		states = append(states, api.State{Phase: api.PhName, Size: len(n.Path) + 1, Left: len(n.Path) + 1, Link: link}, api.State{Name: n.Path, Link: link})
	}
	size := len(n.Data)
	n.Data = ""
	for left := size; left > 0; left -= 512 {
		states = append(states, api.State{Phase: api.PhData, Node: n, Size: size, Left: left})
	}
	if many < len(states) {
		return states[many], -1
	}
	return api.State{}, many - len(states)
}

// states may be: of each phase, with and without texts, and of a file's bytes before the first block, in the midst, and before the last.
func states() []api.State {
	a, named := file("a", 0), file(wide("a", 300), 0)
	numbered := api.Node{Path: wide("a", 101), Kind: '0', Mode: 4095, Uid: most, Gid: most, Mtime: most}
	list := []api.State{
		{}, {Name: "a"}, {Link: "a"}, {Name: "a", Link: "b"}, {Name: letters(300), Link: letters(300)}, {Name: "../a"},
		{Phase: api.PhName, Size: 2, Left: 2}, {Phase: api.PhName, Size: 301, Left: 301}, {Phase: api.PhName, Size: 102, Left: 102, Link: letters(101)},
		{Phase: api.PhLink, Size: 2, Left: 2}, {Phase: api.PhLink, Size: 301, Left: 301}, {Phase: api.PhLink, Size: 102, Left: 102, Name: letters(101)},
		{Phase: api.PhZero}, {Phase: api.PhEnd},
	}
	for _, n := range []api.Node{a, file("b", 0), named, numbered} {
		for _, x := range [][2]int{{1, 1}, {513, 1}, {1000, 1000}, {1000, 488}, {4000, 3488}, {4000, 416}} {
			list = append(list, api.State{Phase: api.PhData, Node: n, Size: x[0], Left: x[1]})
		}
	}
	return list
}

// noStates may not be: each is spoilt in one thing.
func noStates() []api.State {
	a := file("a", 0)
	list := []api.State{
		{Phase: -1}, {Phase: 6}, {Phase: 7}, {Phase: math.MinInt}, {Phase: math.MaxInt}, {Phase: 1 << 32}, {Phase: 1<<32 + 3, Node: a, Size: 1000, Left: 488},
		{Node: a}, {Size: 1}, {Left: 1}, {Size: 1000, Left: 488}, {Name: "a\x00"}, {Name: letters(301)}, {Link: "\x00"}, {Link: letters(301)},
		{Phase: api.PhName}, {Phase: api.PhName, Size: 1, Left: 1}, {Phase: api.PhName, Size: 302, Left: 302}, {Phase: api.PhName, Size: 5, Left: 4}, {Phase: api.PhName, Size: 5, Left: 5, Name: "a"}, {Phase: api.PhName, Size: 5, Left: 5, Node: a},
		{Phase: api.PhLink}, {Phase: api.PhLink, Size: 1, Left: 1}, {Phase: api.PhLink, Size: 302, Left: 302}, {Phase: api.PhLink, Size: 4, Left: 5}, {Phase: api.PhLink, Size: 5, Left: 5, Link: "a"},
		{Phase: api.PhZero, Node: a}, {Phase: api.PhZero, Size: 1}, {Phase: api.PhZero, Name: "a"}, {Phase: api.PhEnd, Node: a}, {Phase: api.PhEnd, Left: 1}, {Phase: api.PhEnd, Link: "a"}, {Phase: api.PhEnd, Name: "a"},
	}
	for _, n := range []api.Node{{}, dir("a"), sym("a", "b"), hard("a", "b"), file("", 0), file("..", 0), file("/a", 0), file("a/../b", 0), file("a\x00", 0), file(letters(301), 0), file("a", 1), file("a", 1000), {Path: "a", Kind: '0', Link: "b"}, {Path: "a", Kind: '0', Mode: 4096}, {Path: "a", Kind: '0', Uid: -1}, {Path: "a", Kind: '0', Gid: most + 1}, {Path: "a", Kind: '0', Mtime: math.MinInt}, {Path: "a", Kind: 'M'}} {
		list = append(list, api.State{Phase: api.PhData, Node: n, Size: 1000, Left: 488})
	}
	for _, x := range [][2]int{{0, 0}, {1000, 0}, {1000, 1}, {1000, 487}, {1000, 489}, {1000, 999}, {1000, 1001}, {1000, 1512}, {1000, -24}, {4001, 4001}, {4096, 512}, {-512, -512}, {math.MaxInt, math.MaxInt}, {math.MinInt, 512}, {512, math.MinInt}} {
		list = append(list, api.State{Phase: api.PhData, Node: a, Size: x[0], Left: x[1]})
	}
	for _, s := range states() {
		s.Text = "a"
		list = append(list, s)
	}
	return list
}

// spoilt are the same blocks, with other bytes at one place, and with one block of another length.
func spoilt(b []byte) [][]byte {
	var list [][]byte
	for at := range b {
		for _, x := range []byte{1, 128} {
			c := bytes.Clone(b)
			c[at] ^= x
			list = append(list, c)
		}
	}
	return append(list, nil, b[:0], b[:1], b[:511], append(bytes.Clone(b), 0), append(bytes.Clone(b), b...))
}

// The models

// wantBlocks holds each record against what it has to be.
func wantBlocks(t api.Tape) ([][]byte, api.Errno) {
	if t.Cap < 0 || t.Cap > 200 || t.Cap < len(t.R) {
		return nil, api.ErrArg
	}
	var all [][]byte
	for _, r := range t.R {
		if len(r) < 512 || len(r) > 10240 || len(r)%512 != 0 {
			return nil, api.ErrArg
		}
		all = append(all, slices.Collect(slices.Chunk(r, 512))...)
	}
	return all, api.OK
}

// wantWho makes the label's block that has to be there.
func wantWho(t api.Tape) (string, int, api.Errno) {
	l, e := wantBlocks(t)
	if e != api.OK {
		return "", 0, e
	}
	if len(l) == 0 {
		return "", 0, api.ErrMore
	}
	h, e := head.Get(l[0])
	if e != api.OK {
		return "", 0, e
	}
	n, _ := strconv.Atoi(h.Name[strings.LastIndex(h.Name, " ")+1:])
	name, ok := strings.CutSuffix(h.Name, fmt.Sprint(" Volume ", n))
	if own, _ := label.Put(name, n); !ok || !bytes.Equal(own, l[0]) {
		return "", 0, api.ErrLabel
	}
	return name, n, api.OK
}

func wantFits(s api.State, name string, n int, t api.Tape) (int, api.Errno) {
	l, e := wantBlocks(t)
	if e != api.OK {
		return 0, e
	}
	return strip.One(s, name, n, l)
}

func wantFind(l []api.Tape, name string, n int) []int {
	var places []int
	for i := len(l) - 1; i >= 0; i-- {
		if gotName, gotN, e := wantWho(l[i]); e == api.OK && gotName == name && gotN == n {
			places = append([]int{i}, places...)
		}
	}
	return places
}

func wantNext(s api.State, name string, n int, l []api.Tape) int {
	place := -1
	for i := len(l) - 1; i >= 0; i-- {
		if _, e := wantFits(s, name, n, l[i]); e == api.OK {
			place = i
		}
	}
	return place
}

// checkBlocks holds Blocks against what it has to answer.
func checkBlocks(t *testing.T, reel api.Tape, want [][]byte, err api.Errno) {
	t.Helper()
	if got, e := Blocks(reel); e != err || !block.Same(got, want) {
		t.Errorf("Blocks of %s = %s, %d; want %s, %d", show(reel), show(loose(got)), e, show(loose(want)), err)
	}
}

// checkWho holds Who against what it has to answer.
func checkWho(t *testing.T, reel api.Tape, want string, n int, err api.Errno) {
	t.Helper()
	if got, gotN, e := Who(reel); got != want || gotN != n || e != err {
		t.Errorf("Who of %s = %.100q, %d, %d; want %.100q, %d, %d", show(reel), got, gotN, e, want, n, err)
	}
}

// checkTape holds Blocks and Who against the models.
func checkTape(t *testing.T, reel api.Tape) {
	t.Helper()
	want, err := wantBlocks(reel)
	checkBlocks(t, reel, want, err)
	name, n, err := wantWho(reel)
	checkWho(t, reel, name, n, err)
}

// checkFits holds Fits against what it has to answer.
func checkFits(t *testing.T, s api.State, name string, n int, reel api.Tape, want int, err api.Errno) {
	t.Helper()
	if got, e := Fits(s, name, n, reel); got != want || e != err {
		t.Errorf("Fits of %s, %.100q, %d, %s = %d, %d; want %d, %d", tell(s), name, n, show(reel), got, e, want, err)
	}
}

// checkModel holds Fits against the model.
func checkModel(t *testing.T, s api.State, name string, n int, reel api.Tape) api.Errno {
	t.Helper()
	want, err := wantFits(s, name, n, reel)
	checkFits(t, s, name, n, reel, want, err)
	return err
}

// checkFind holds Find against what it has to answer.
func checkFind(t *testing.T, l []api.Tape, name string, n int, want ...int) {
	t.Helper()
	if got := Find(l, name, n); !slices.Equal(got, want) {
		t.Errorf("Find of %s, %.100q, %d = %v; want %v", shown(l), name, n, got, want)
	}
}

// checkNext holds Next against what it has to answer.
func checkNext(t *testing.T, s api.State, name string, n int, l []api.Tape, want int) {
	t.Helper()
	if got := Next(s, name, n, l); got != want {
		t.Errorf("Next of %s, %.100q, %d, %s = %d; want %d", tell(s), name, n, shown(l), got, want)
	}
}

// P18.1: Blocks, Who

func TestTheExample(t *testing.T) {
	for _, room := range []int{0, 1, 200} {
		for _, mark := range []bool{false, true} {
			for _, rs := range [][][]byte{nil, {}} {
				reel := api.Tape{Cap: room, R: rs, Mark: mark}
				checkBlocks(t, reel, nil, api.OK)
				checkWho(t, reel, "", 0, api.ErrMore)
			}
		}
	}
}

// The document's examples of the whole, their blocks written out here.
func TestTheExamplesOfTheWhole(t *testing.T) {
	stands := func(parts ...string) []byte {
		b := make([]byte, 512)
		at := 0
		for _, p := range parts {
			at += copy(b[at:], p)
		}
		return b
	}
	zeros := func(n int) string { return strings.Repeat("\x00", n) }
	three := strings.Repeat("0000000\x00", 3)
	first := stands("full Volume 1", zeros(87), three, "00000000000\x0000000000000\x00", "010221\x00 ", "V", zeros(100), "ustar\x0000")
	second := stands("full Volume 2", zeros(87), three, "00000000000\x0000000000000\x00", "010222\x00 ", "V", zeros(100), "ustar\x0000")
	a := stands("a", zeros(99), three, "00000000000\x0000000000000\x00", "006065\x00 ", "5", zeros(100), "ustar\x0000")
	b := stands("a/b", zeros(97), three, "00000000005\x0000000000000\x00", "006306\x00 ", "0", zeros(100), "ustar\x0000")
	one := api.Tape{Cap: 4, R: [][]byte{first, a, b, stands("bytes")}}
	two := api.Tape{Cap: 4, R: [][]byte{second, stands(), stands()}, Mark: true}
	checkBlocks(t, one, one.R, api.OK)
	checkBlocks(t, two, two.R, api.OK)
	checkWho(t, one, "full", 1, api.OK)
	checkWho(t, two, "full", 2, api.OK)
	l := []api.Tape{two, one}
	checkFind(t, l, "full", 1, 1)
	checkFind(t, l, "full", 2, 0)
	checkFits(t, api.State{}, "full", 1, two, 0, api.ErrLabel)
	checkFits(t, api.State{}, "full", 1, one, 1, api.OK)
	checkFits(t, api.State{}, "full", 2, one, 0, api.ErrLabel)
	checkNext(t, api.State{}, "full", 1, l, 1)
	checkNext(t, api.State{}, "full", 2, l, 0)

	goesOn := stands("a", zeros(99), three, "00000000750\x0000000000000\x00", "010207\x00 ", "M", zeros(100), "ustar\x0000", zeros(104), "00000001000\x00", zeros(102), "00000001750\x00")
	midst := api.State{Phase: api.PhData, Node: file("a", 0), Size: 1000, Left: 488}
	whole := streamOf(t, tree{file("a", 1000)})
	checkFits(t, midst, "full", 2, loose(second, goesOn, whole[2:]), 2, api.OK)
	checkFits(t, midst, "full", 2, loose(second, whole[2:]), 0, api.ErrCont)
}

// sets are sets of all sorts, often with several small volumes.
func sets() []api.Set {
	list := []api.Set{setOf(1, 200, 200), setOf(20, 200), setOf(20, repeated(12, 2)...), setOf(20, repeated(12, 1)...), setOf(1, repeated(12, 5)...), setOf(1, 6, 2, 9, 30, 5, 5, 5, 200, 200, 1), setOf(3, 2, 3, 2, 3, 5, 5, 200, 2, 2, 200, 200), setOf(7, 200)}
	for _, records := range []int{2, 3, 5, 7} {
		list = append(list, setOf(1, append(repeated(11, records), 200)...), setOf(2, repeated(12, records)...))
	}
	return list
}

// The tapes of trees: closed and open, with no room left, a little, and as much as there is.
func TestBlocksOfTrees(t *testing.T) {
	for _, nodes := range allTrees() {
		for _, s := range sets() {
			vols, _ := volume.Split(nodes, s)
			for k, v := range vols {
				reel := wound(v, s.B)
				checkRooms(t, reel, v, s.Label, k+1)
			}
		}
		// All of it on one tape, in records of each size.
		for b := 1; b <= 20; b++ {
			all := vol(labelOf(t, "full", 1), streamOf(t, nodes))
			if len(all) > 200*b {
				continue
			}
			reel := wound(all, b)
			for len(all) < len(reel.R)*b {
				all = append(all, make([]byte, 512))
			}
			checkRooms(t, reel, all, "full", 1)
		}
	}
}

// checkRooms holds Blocks and Who of a tape against what they have to answer, whatever room is left, with a mark and without.
func checkRooms(t *testing.T, reel api.Tape, want [][]byte, name string, n int) {
	t.Helper()
	for _, room := range []int{len(reel.R), min(len(reel.R)+1, 200), 200} {
		reel.Cap = room
		reel.Mark = !reel.Mark
		checkBlocks(t, reel, want, api.OK)
		checkWho(t, reel, name, n, api.OK)
	}
}

// The records of one tape have each its own size.
func TestRecordsOfSeveralSizes(t *testing.T) {
	all := vol(labelOf(t, "full", 3))
	for i := range 60 {
		all = append(all, bytes.Repeat([]byte{byte(i)}, 512))
	}
	for _, sizes := range [][]int{{1, 20, 20, 20}, {20, 1, 20, 20}, {20, 20, 20, 1}, {1, 2, 3, 4, 5, 6, 7, 8, 9, 10, 6}, {10, 19, 2, 18, 12}} {
		reel := api.Tape{Cap: len(sizes)}
		at := 0
		for _, n := range sizes {
			reel.R = append(reel.R, bytes.Join(all[at:at+n], nil))
			at += n
		}
		checkBlocks(t, reel, all[:at], api.OK)
		checkWho(t, reel, "full", 3, api.OK)
	}
}

func TestTheGreatestTape(t *testing.T) {
	b := labelOf(t, "full", 999)
	r := bytes.Repeat(b, 20)
	reel := api.Tape{Cap: 200, R: slices.Repeat([][]byte{r}, 200)}
	checkBlocks(t, reel, slices.Repeat([][]byte{b}, 4000), api.OK)
	checkWho(t, reel, "full", 999, api.OK)
	checkFits(t, api.State{}, "full", 999, reel, 1, api.OK)
	checkNowhere(t, api.Tape{Cap: 200, R: slices.Repeat([][]byte{r}, 201)})
	checkNowhere(t, api.Tape{Cap: 201, R: slices.Repeat([][]byte{r}, 201)})
	checkNowhere(t, api.Tape{Cap: 199, R: reel.R})
	checkNowhere(t, api.Tape{Cap: 200, R: [][]byte{bytes.Repeat(b, 21)}})
}

// checkNowhere holds all calls of a tape that may not be, whose label says full, 1, or would say it, against what they have to answer.
func checkNowhere(t *testing.T, reel api.Tape) {
	t.Helper()
	checkBlocks(t, reel, nil, api.ErrArg)
	checkWho(t, reel, "", 0, api.ErrArg)
	for _, s := range []api.State{{}, {Phase: api.PhZero}, {Phase: api.PhEnd}, {Phase: -1}, {Size: 1}} {
		checkFits(t, s, "full", 1, reel, 0, api.ErrArg)
		checkFits(t, s, "", 0, reel, 0, api.ErrArg)
		checkNext(t, s, "full", 1, []api.Tape{reel}, -1)
		checkNext(t, s, "", 0, []api.Tape{reel, reel}, -1)
	}
	checkFind(t, []api.Tape{reel}, "full", 1)
	checkFind(t, []api.Tape{reel, reel}, "", 0)
}

// noTapes may not be: each is spoilt in one thing.
func noTapes(t *testing.T) []api.Tape {
	v := vol(labelOf(t, "full", 1), streamOf(t, tree{file("a", 1000)}))
	good := wound(v, 1)
	var list []api.Tape
	for _, room := range []int{-1, -2, -200, math.MinInt, 201, 202, 255, 256, 1 << 32, 1<<32 + 7, math.MaxInt} {
		list = append(list, api.Tape{Cap: room}, api.Tape{Cap: room, Mark: true}, api.Tape{Cap: room, R: good.R}, api.Tape{Cap: room, R: good.R[:1]})
	}
	for _, room := range []int{0, 1, len(v) - 1} {
		list = append(list, api.Tape{Cap: room, R: good.R}, api.Tape{Cap: room, R: good.R, Mark: true})
	}
	for _, size := range []int{0, 1, 511, 513, 1023, 1025, 10239, 10241, 10752, 20480} {
		bad := append(bytes.Clone(v[0]), make([]byte, 20480)...)[:size]
		list = append(list, api.Tape{Cap: 200, R: [][]byte{bad}}, api.Tape{Cap: 1, R: [][]byte{bad}, Mark: true})
		// One such record ahead of good ones, in their midst, and behind.
		for at := 0; at <= len(good.R); at++ {
			rs := slices.Insert(slices.Clone(good.R), at, bad)
			list = append(list, api.Tape{Cap: len(rs), R: rs}, api.Tape{Cap: 200, R: rs, Mark: true})
		}
	}
	return append(list, api.Tape{Cap: 1, R: [][]byte{nil}}, api.Tape{Cap: 2, R: [][]byte{v[0], nil}})
}

func TestTapesThatMayNotBe(t *testing.T) {
	for _, reel := range noTapes(t) {
		checkNowhere(t, reel)
	}
}

// firstBlocks are blocks that a tape may begin with, and what Who tells then.
func firstBlocks(t *testing.T) []struct {
	b    []byte
	want api.Errno
} {
	own := labelOf(t, "full", 1)
	header := streamOf(t, tree{file("a", 5)})[0]
	named := moreOf(t, file(wide("a", 101), 1000), 512)
	sum := bytes.Clone(own)
	sum[148] ^= 1
	unlike := func(h api.Head) []byte {
		b, ok := head.Put(h)
		if !ok {
			t.Fatalf("no header %v", h)
		}
		return b
	}
	return []struct {
		b    []byte
		want api.Errno
	}{
		{header, api.ErrLabel}, {streamOf(t, tree{dir("a")})[0], api.ErrLabel}, {streamOf(t, tree{sym("a", letters(101))})[0], api.ErrLabel},
		{make([]byte, 512), api.ErrZero},
		{moreOf(t, file("a", 1000), 512)[0], api.ErrLabel}, {named[0], api.ErrLabel}, {named[2], api.ErrLabel},
		{named[1], api.ErrSum}, {bytes.Repeat([]byte{'x'}, 512), api.ErrSum}, {[]byte(numbers(512)), api.ErrSum}, {append([]byte{1}, make([]byte, 511)...), api.ErrSum}, {sum, api.ErrSum},
		{unlike(api.Head{Name: "full", Type: 'V'}), api.ErrLabel}, {unlike(api.Head{Name: "full Volume 0", Type: 'V'}), api.ErrLabel}, {unlike(api.Head{Name: "full Volume 1000", Type: 'V'}), api.ErrLabel}, {unlike(api.Head{Name: " Volume 1", Type: 'V'}), api.ErrLabel}, {unlike(api.Head{Name: letters(89) + " Volume 1", Type: 'V'}), api.ErrLabel},
		{unlike(api.Head{Name: "full Volume 01", Type: 'V'}), api.ErrLabel}, {unlike(api.Head{Name: "full Volume 1", Type: '0'}), api.ErrLabel}, {unlike(api.Head{Name: "full Volume 1", Type: 'V', Size: 1}), api.ErrLabel}, {unlike(api.Head{Name: "full Volume 1", Type: 'V', Mode: 420}), api.ErrLabel},
	}
}

func TestWhatATapeBeginsWith(t *testing.T) {
	own := labelOf(t, "full", 1)
	for _, x := range firstBlocks(t) {
		for _, reel := range []api.Tape{loose(x.b), loose(x.b, own), loose(x.b, own, own), wound(vol(x.b, own), 1), wound(vol(x.b), 20), wound(vol(x.b, own, own), 2)} {
			if _, _, e := label.Get(x.b); e != x.want {
				t.Fatalf("label's Get of %s = %d", word(x.b), e)
			}
			checkTape(t, reel)
			checkWho(t, reel, "", 0, x.want)
			checkFits(t, api.State{}, "full", 1, reel, 0, api.ErrLabel)
			checkFits(t, api.State{}, "", 0, reel, 0, api.ErrLabel)
			checkFind(t, []api.Tape{reel}, "full", 1)
			checkFind(t, []api.Tape{reel}, "", 0)
			checkNext(t, api.State{}, "full", 1, []api.Tape{reel}, -1)
			checkNext(t, api.State{}, "", 0, []api.Tape{reel}, -1)
			// Behind the label's block it may stand, whatever it is.
			behind := api.Tape{Cap: 200, R: append([][]byte{own}, reel.R...)}
			checkTape(t, behind)
			checkWho(t, behind, "full", 1, api.OK)
			checkFind(t, []api.Tape{behind}, "full", 1, 0)
			checkNext(t, api.State{}, "full", 1, []api.Tape{behind}, 0)
		}
	}
}

func TestAllLabelsAndNumbers(t *testing.T) {
	for n := 1; n <= 999; n++ {
		reel := loose(labelOf(t, "full", n))
		checkWho(t, reel, "full", n, api.OK)
		checkFits(t, api.State{}, "full", n, reel, 1, api.OK)
		checkFind(t, []api.Tape{reel}, "full", n, 0)
		for _, other := range []int{0, n - 1, n + 1, -n, n * 10, n / 10, 10*n + 1, n + 1000, n + 1<<32, math.MinInt + n, 1000} {
			if other != n {
				checkIsOther(t, reel, "full", other)
			}
		}
	}
	for size := 1; size <= 88; size++ {
		for _, name := range []string{letters(size), strings.Repeat("\xff", size), strings.Repeat(" ", size)} {
			reel := loose(labelOf(t, name, 7))
			checkWho(t, reel, name, 7, api.OK)
			checkFits(t, api.State{}, name, 7, reel, 1, api.OK)
			checkFind(t, []api.Tape{reel}, name, 7, 0)
			for _, other := range []string{"", name[:size-1], name + "a", name + " ", name + "\x00", " " + name, "b" + name[1:], name + " Volume 7", strings.ToUpper(name[:size-1]) + "é"} {
				checkIsOther(t, reel, other, 7)
			}
		}
	}
	// A label that reads like another one, with its number.
	reel := loose(labelOf(t, "a Volume 1", 2))
	checkWho(t, reel, "a Volume 1", 2, api.OK)
	checkIsOther(t, reel, "a", 1)
	checkIsOther(t, reel, "a", 2)
}

// checkIsOther fails if a tape is found, or fits, by a label and a number that are not its own.
func checkIsOther(t *testing.T, reel api.Tape, name string, n int) {
	t.Helper()
	checkFits(t, api.State{}, name, n, reel, 0, api.ErrLabel)
	checkFind(t, []api.Tape{reel}, name, n)
	checkNext(t, api.State{}, name, n, []api.Tape{reel}, -1)
}

func TestEachSpoiltByteOfALabel(t *testing.T) {
	v := vol(labelOf(t, "full", 2), moreOf(t, file("a", 1000), 512), streamOf(t, tree{file("a", 1000)})[2:])
	midst := api.State{Phase: api.PhData, Node: file("a", 0), Size: 1000, Left: 488}
	for _, b := range []int{1, 20} {
		for i, whole := range v[:3] {
			for at := range whole {
				for _, x := range []byte{1, 128}[min(i, 1):] {
					reel := wound(v, b)
					reel.R[i/b][i%b*512+at] ^= x
					checkTape(t, reel)
					if i == 0 {
						checkIsOther(t, reel, "full", 2)
						checkFits(t, midst, "full", 2, reel, 0, api.ErrLabel)
						continue
					}
					checkWho(t, reel, "full", 2, api.OK)
					checkFind(t, []api.Tape{reel}, "full", 2, 0)
					want, err := 2, api.OK
					if i == 1 {
						want, err = 0, api.ErrCont
					}
					checkFits(t, midst, "full", 2, reel, want, err)
				}
			}
		}
	}
}

// P18.2: Fits, Find, Next

// The states of these tests are what their lists say, and of all phases.
func TestTheStates(t *testing.T) {
	phases := map[int]bool{}
	for _, s := range states() {
		phases[s.Phase] = true
		if !parse.May(s) {
			t.Errorf("%s may not be", tell(s))
		}
	}
	for _, s := range noStates() {
		if parse.May(s) {
			t.Errorf("%s may be", tell(s))
		}
	}
	if len(phases) != api.Phases {
		t.Errorf("there are %d phases", len(phases))
	}
}

func TestFitsOfEachPhase(t *testing.T) {
	own := labelOf(t, "full", 12)
	header := streamOf(t, tree{file("a", 1000)})[0]
	for _, s := range states() {
		for _, b := range []int{1, 2, 3, 20} {
			switch s.Phase {
			case api.PhEnd:
				checkFits(t, s, "full", 12, wound(vol(own, header), b), 0, api.ErrDone)
				checkFits(t, s, "full", 12, wound(vol(own), b), 0, api.ErrDone)
				checkFits(t, s, "full", 12, wound(nil, b), 0, api.ErrDone)
				checkFits(t, s, "other", 1, wound(vol(header), b), 0, api.ErrDone)
			case api.PhData:
				whole := s.Node
				whole.Data = numbers(s.Size)
				begin := vol(own, moreOf(t, whole, s.Size-s.Left))
				many := 2
				if len(whole.Path) > 100 {
					many = 4
				}
				checkFits(t, s, "full", 12, wound(begin, b), many, api.OK)
				checkFits(t, s, "full", 12, wound(vol(begin, header, header), b), many, api.OK)
				for k := 1; k < many; k++ {
					checkFits(t, s, "full", 12, wound(begin[:k], b), 0, api.ErrCont)
					checkFits(t, s, "full", 12, wound(vol(begin[:k], header, header, header), b), 0, api.ErrCont)
					checkFits(t, s, "full", 12, wound(vol(begin[:k], begin[k+1:]), b), 0, api.ErrCont)
				}
				checkFits(t, s, "full", 12, wound(begin[1:], b), 0, api.ErrLabel)
				checkFits(t, s, "full", 11, wound(begin, b), 0, api.ErrLabel)
			default:
				checkFits(t, s, "full", 12, wound(vol(own), b), 1, api.OK)
				checkFits(t, s, "full", 12, wound(vol(own, header), b), 1, api.OK)
				checkFits(t, s, "full", 12, wound(vol(own, own), b), 1, api.OK)
				checkFits(t, s, "full", 12, wound(vol(header, own), b), 0, api.ErrLabel)
			}
		}
	}
}

// reels are tapes of all sorts, right for a few states and wrong for all others.
func reels(t *testing.T) []api.Tape {
	own, second, other := labelOf(t, "full", 1), labelOf(t, "full", 2), labelOf(t, "fuller", 1)
	a := file("a", 1000)
	header := streamOf(t, tree{a})[0]
	list := []api.Tape{{}, {Cap: 5}, {Cap: 5, Mark: true}, {Cap: -1}, {Cap: 201}, {Cap: 1, R: [][]byte{nil}}, {Cap: 1, R: [][]byte{own[:511]}}, {Cap: 1, R: [][]byte{own, nil}}, {Cap: 1, R: [][]byte{own, own}}, {Cap: 2, R: [][]byte{own, own[:1]}}}
	for _, first := range [][]byte{own, second, other, header, make([]byte, 512)} {
		list = append(list, loose(first), loose(first, own), loose(first, second), loose(first, header))
		for _, n := range []api.Node{a, file("a", 4000), file("b", 1000), file(wide("a", 300), 1000)} {
			for _, off := range []int{0, 512} {
				more := moreOf(t, n, off)
				list = append(list, wound(vol(first, more), 1), wound(vol(first, more, header), 2), loose(first, more[:len(more)-1]), loose(more, first), loose(first, header, more))
			}
		}
	}
	return list
}

// asked are labels and numbers that may be, and that may not be.
func asked() []struct {
	name string
	n    int
} {
	return []struct {
		name string
		n    int
	}{{"full", 1}, {"full", 2}, {"fuller", 1}, {"full", 0}, {"full", 999}, {"full", 1000}, {"full", 1<<32 + 1}, {"", 0}, {letters(88), 1}, {letters(89), 1}}
}

func TestFitsOfAllStatesAndTapes(t *testing.T) {
	counts := map[api.Errno]int{}
	may, mayNot := states(), noStates()
	for i, reel := range reels(t) {
		for k, x := range asked() {
			if k%2 == i%2 {
				continue
			}
			for _, s := range may {
				counts[checkModel(t, s, x.name, x.n, reel)]++
			}
		}
		for _, s := range mayNot {
			checkFits(t, s, "full", 1, reel, 0, api.ErrArg)
			checkFits(t, s, "", 0, reel, 0, api.ErrArg)
			checkNext(t, s, "full", 1, []api.Tape{reel}, -1)
		}
	}
	for _, e := range []api.Errno{api.OK, api.ErrArg, api.ErrDone, api.ErrMore, api.ErrLabel, api.ErrCont} {
		if counts[e] < 100 {
			t.Errorf("only %d of the answers were %d", counts[e], e)
		}
	}
}

// Two or more errors fit at once: that which is named first is told.
func TestTheOrderOfErrors(t *testing.T) {
	own, other := labelOf(t, "full", 1), labelOf(t, "full", 2)
	data := api.State{Phase: api.PhData, Node: file("a", 0), Size: 1000, Left: 488}
	end, noState, noEnd := api.State{Phase: api.PhEnd}, api.State{Phase: api.PhData}, api.State{Phase: api.PhEnd, Size: 1}
	none, bare, bad := api.Tape{Cap: 3}, api.Tape{}, api.Tape{Cap: 3, R: [][]byte{own, nil}}
	for _, x := range []struct {
		s    api.State
		name string
		n    int
		reel api.Tape
		want api.Errno
	}{
		{noState, "full", 1, bad, api.ErrArg},
		{noState, "full", 1, api.Tape{Cap: -1}, api.ErrArg},
		{noState, "full", 1, none, api.ErrArg},
		{noState, "full", 1, loose(own), api.ErrArg},
		{noState, "full", 1, loose(other), api.ErrArg},
		{noState, "", 0, bare, api.ErrArg},
		{noEnd, "full", 1, none, api.ErrArg},
		{noEnd, "full", 1, loose(own), api.ErrArg},
		{end, "full", 1, bad, api.ErrArg},
		{end, "full", 1, api.Tape{Cap: 201}, api.ErrArg},
		{end, "full", 1000, api.Tape{Cap: -1}, api.ErrArg},
		{data, "full", 1, bad, api.ErrArg},
		{data, "full", 2, bad, api.ErrArg},
		{api.State{}, "", 0, api.Tape{Cap: 0, R: [][]byte{own}}, api.ErrArg},
		{end, "full", 1, none, api.ErrDone},
		{end, "full", 1, bare, api.ErrDone},
		{end, "", 0, bare, api.ErrDone},
		{end, "full", 1, loose(other), api.ErrDone},
		{end, "full", 1000, loose(own), api.ErrDone},
		{data, "full", 1, none, api.ErrMore},
		{data, "full", 0, bare, api.ErrMore},
		{data, "", 1000, none, api.ErrMore},
		{api.State{}, "", 0, bare, api.ErrMore},
		{data, "full", 2, loose(own), api.ErrLabel},
		{data, "full", 1, loose(other, moreOf(t, file("a", 1000), 512)), api.ErrLabel},
		{data, "full", 1, loose(moreOf(t, file("a", 1000), 512)), api.ErrLabel},
		{data, "full", 1, loose(make([]byte, 512)), api.ErrLabel},
		{data, "full", 1, loose(own), api.ErrCont},
		{data, "full", 1, loose(own, own), api.ErrCont},
		{data, "full", 1, loose(own, moreOf(t, file("a", 1000), 0)), api.ErrCont},
	} {
		checkModel(t, x.s, x.name, x.n, x.reel)
		checkFits(t, x.s, x.name, x.n, x.reel, 0, x.want)
		checkNext(t, x.s, x.name, x.n, []api.Tape{x.reel}, -1)
	}
}

// What a volume begins with may lie in several records, with whatever records a tape has.
func TestWhatGoesOnInSeveralRecords(t *testing.T) {
	n := file(wide("a", 101), 1000)
	midst := api.State{Phase: api.PhData, Node: n, Size: 1000, Left: 488}
	midst.Node.Data = ""
	v := vol(labelOf(t, "full", 2), moreOf(t, n, 512), streamOf(t, tree{n})[4:])
	for b := 1; b <= 20; b++ {
		reel := wound(v, b)
		checkFits(t, midst, "full", 2, reel, 4, api.OK)
		for k := 1; k < len(reel.R); k++ {
			want, err := 4, api.OK
			if k*b < 4 {
				want, err = 0, api.ErrCont
			}
			checkFits(t, midst, "full", 2, api.Tape{Cap: k, R: reel.R[:k]}, want, err)
		}
	}
	for i := range 4 {
		less := wound(slices.Delete(slices.Clone(v), i, i+1), 1)
		err := api.ErrCont
		if i == 0 {
			err = api.ErrLabel
		}
		checkFits(t, midst, "full", 2, less, 0, err)
	}
}

// shelf are tapes of two sets, out of order, some of them twice, with others between that have no volume, or may not be.
func shelf(t *testing.T) []api.Tape {
	own := tapesOf(t, tree{file("a", 1000), dir("b")}, setOf(1, 3, 4, 200))
	other := setOf(2, 2, 200)
	other.Label = "other"
	others := tapesOf(t, tree{file("a", 2000)}, other)
	if len(own) != 3 || len(others) != 2 {
		t.Fatalf("%d and %d tapes", len(own), len(others))
	}
	// 0 full 2, 1 none, 2 other 1, 3 full 3, 4 may not be, 5 full 1, 6 full 2, 7 noughts, 8 other 2, 9 full 1, 10 too many records, 11 full 2
	return []api.Tape{own[1], {Cap: 5}, others[0], own[2], {Cap: 2, R: [][]byte{own[0].R[0], nil}}, own[0], own[1], loose(make([]byte, 512)), others[1], own[0], {Cap: 1, R: own[1].R}, own[1]}
}

func TestFind(t *testing.T) {
	l := shelf(t)
	checkFind(t, l, "full", 1, 5, 9)
	checkFind(t, l, "full", 2, 0, 6, 11)
	checkFind(t, l, "full", 3, 3)
	checkFind(t, l, "full", 4)
	checkFind(t, l, "other", 1, 2)
	checkFind(t, l, "other", 2, 8)
	checkFind(t, l, "other", 3)
	checkFind(t, l, "ful", 1)
	checkFind(t, l, "fuller", 1)
	checkFind(t, l, "", 0)
	checkFind(t, l, "", 1)
	checkFind(t, l, "full", 0)
	checkFind(t, l[:0], "full", 1)
	checkFind(t, nil, "full", 1)
	checkFind(t, nil, "", 0)
	checkFind(t, l[5:6], "full", 1, 0)
	checkFind(t, l[4:5], "full", 1)
	checkFind(t, slices.Repeat(l[5:6], 4), "full", 1, 0, 1, 2, 3)
	// Whether it is the next one is not asked: behind no bytes of a file the second one would not fit.
	checkFits(t, api.State{}, "full", 2, l[0], 1, api.OK)
	checkFits(t, api.State{Phase: api.PhData, Node: file("b", 0), Size: 5, Left: 5}, "full", 2, l[0], 0, api.ErrCont)
	for i := range l {
		for k := i; k <= len(l); k++ {
			for _, x := range asked() {
				checkFind(t, l[i:k], x.name, x.n, wantFind(l[i:k], x.name, x.n)...)
			}
		}
	}
}

// Where Who tells an error, it answers no name, and 0: by these nothing is found, nor is it next.
func TestNothingIsFoundByNoName(t *testing.T) {
	l := append(noTapes(t), api.Tape{}, api.Tape{Cap: 5}, api.Tape{Cap: 5, Mark: true})
	for _, x := range firstBlocks(t) {
		l = append(l, loose(x.b))
	}
	for _, x := range asked() {
		checkFind(t, l, x.name, x.n)
		for _, s := range states() {
			checkNext(t, s, x.name, x.n, l, -1)
		}
	}
}

func TestNext(t *testing.T) {
	l := shelf(t)
	midst := api.State{Phase: api.PhData, Node: file("a", 0), Size: 1000, Left: 488}
	end, zero := api.State{Phase: api.PhEnd}, api.State{Phase: api.PhZero}
	checkNext(t, api.State{}, "full", 1, l, 5)
	checkNext(t, zero, "full", 1, l, 5)
	checkNext(t, end, "full", 1, l, -1)
	checkNext(t, midst, "full", 1, l, -1)
	checkNext(t, midst, "full", 2, l, 0)
	checkNext(t, midst, "full", 2, l[1:], 5)
	checkNext(t, midst, "full", 2, l[7:], 4)
	checkNext(t, midst, "full", 2, l[1:6], -1)
	checkNext(t, midst, "full", 3, l, -1)
	checkNext(t, api.State{}, "full", 3, l, 3)
	checkNext(t, api.State{}, "full", 4, l, -1)
	checkNext(t, api.State{}, "other", 1, l, 2)
	checkNext(t, api.State{}, "other", 2, l, 8)
	checkNext(t, api.State{}, "", 0, l, -1)
	checkNext(t, api.State{}, "full", 0, l, -1)
	checkNext(t, api.State{}, "full", 1000, l, -1)
	checkNext(t, api.State{}, letters(89), 1, l, -1)
	checkNext(t, api.State{}, "full", 1, nil, -1)
	checkNext(t, api.State{}, "full", 1, l[:0], -1)
	checkNext(t, end, "full", 1, nil, -1)
	for _, s := range noStates() {
		checkNext(t, s, "full", 1, l, -1)
	}
	// None, the first one, one in the midst, the last one, and two of them.
	fits, not := l[5], l[2]
	for _, x := range []struct {
		l    []api.Tape
		want int
	}{
		{[]api.Tape{fits}, 0}, {[]api.Tape{not}, -1}, {[]api.Tape{fits, not, not}, 0}, {[]api.Tape{not, fits, not}, 1}, {[]api.Tape{not, not, fits}, 2}, {[]api.Tape{not, not, not}, -1},
		{[]api.Tape{not, fits, fits}, 1}, {[]api.Tape{fits, not, fits}, 0}, {[]api.Tape{fits, fits, not}, 0}, {[]api.Tape{fits, fits, fits}, 0},
	} {
		checkNext(t, api.State{}, "full", 1, x.l, x.want)
	}
	for i := range l {
		for k := i; k <= len(l); k++ {
			for _, s := range []api.State{{}, midst, zero, end} {
				for _, x := range asked() {
					checkNext(t, s, x.name, x.n, l[i:k], wantNext(s, x.name, x.n, l[i:k]))
				}
			}
		}
	}
}

// The label and the number of two are asked, but one alone goes on where the bytes ended.
func TestNextIsTheOneThatGoesOn(t *testing.T) {
	n := file("a", 4000)
	own := labelOf(t, "full", 2)
	var l []api.Tape
	for off := 0; off < 4000; off += 512 {
		l = append(l, loose(own, moreOf(t, n, off)))
	}
	for i := range l {
		s := api.State{Phase: api.PhData, Node: file("a", 0), Size: 4000, Left: 4000 - 512*i}
		checkNext(t, s, "full", 2, l, i)
		checkNext(t, s, "full", 2, l[i+1:], -1)
		checkNext(t, s, "full", 2, slices.Repeat(l, 2)[i+1:], len(l)-1)
		checkFind(t, l, "full", 2, 0, 1, 2, 3, 4, 5, 6, 7)
	}
}

// No shelf is too long: there are more tapes than any drive has.
func TestManyTapes(t *testing.T) {
	a, b := loose(labelOf(t, "full", 1)), loose(labelOf(t, "full", 2))
	l := slices.Repeat([]api.Tape{a, b, {Cap: -1}}, 300)
	var want []int
	for i := range 300 {
		want = append(want, 3*i+1)
	}
	checkFind(t, l, "full", 2, want...)
	checkNext(t, api.State{}, "full", 2, l, 1)
	checkFind(t, l, "full", 3)
	checkNext(t, api.State{}, "full", 3, append(l, loose(labelOf(t, "full", 3))), 900)
}

// change does something to tapes, by chance.
func change(r *rand.Rand, l, others []api.Tape) []api.Tape {
	l = cloned(l)
	i, k := r.Intn(len(l)), r.Intn(len(l))
	reel := l[i]
	j := r.Intn(len(reel.R))
	switch r.Intn(12) {
	case 0:
		l[i], l[k] = l[k], l[i]
	case 1:
		return slices.Insert(l, i, l[k])
	case 2:
		return slices.Delete(l, i, i+1)
	case 3:
		return slices.Insert(l, i, others[r.Intn(len(others))])
	case 4:
		reel.R[0][r.Intn(512)] ^= byte(1 + r.Intn(255))
	case 5:
		reel.R[j][r.Intn(len(reel.R[j]))] ^= byte(1 + r.Intn(255))
	case 6:
		reel.R[j] = reel.R[j][:r.Intn(len(reel.R[j]))]
	case 7:
		l[i].R = slices.Delete(reel.R, j, j+1)
	case 8:
		l[i].R = slices.Insert(reel.R, j, bytes.Clone(reel.R[r.Intn(len(reel.R))]))
	case 9:
		l[i].Cap = r.Intn(2*len(reel.R)+1) - 1
	case 10:
		l[i].R = reel.R[:j]
	case 11:
		slices.Reverse(l)
	}
	return l
}

func TestAllSortsOfShelves(t *testing.T) {
	r := rand.New(rand.NewSource(18))
	counts, found, next := map[api.Errno]int{}, map[int]int{}, map[bool]int{}
	for range 500 {
		nodes := someTree(r)
		l, vols := someTapes(t, r, nodes)
		others, _ := someTapes(t, r, someTree(r))
		k := r.Intn(len(vols) + 1)
		s := strip.Left("full", vols[:k])
		for range 3 {
			if len(l) > 0 && !slices.ContainsFunc(l, func(reel api.Tape) bool { return len(reel.R) == 0 || len(reel.R[0]) < 512 }) {
				l = change(r, l, others)
			}
			for _, reel := range l {
				checkTape(t, reel)
				counts[checkModel(t, s, "full", k+1, reel)]++
			}
			place, places := wantNext(s, "full", k+1, l), wantFind(l, "full", k+1)
			checkNext(t, s, "full", k+1, l, place)
			checkFind(t, l, "full", k+1, places...)
			found[len(places)]++
			next[place >= 0]++
		}
	}
	for _, e := range []api.Errno{api.OK, api.ErrArg, api.ErrDone, api.ErrLabel, api.ErrCont} {
		if counts[e] < 10 {
			t.Errorf("only %d of the answers were %d", counts[e], e)
		}
	}
	if found[0] < 100 || found[1] < 100 || found[2] < 50 || next[false] < 100 || next[true] < 100 {
		t.Errorf("so many were found: %v, so often was one the next: %v", found, next)
	}
}

// P18.3

// What fits has the label and the number that are asked, and so it is found by them, too.
func TestWhatFitsIsAsked(t *testing.T) {
	l := append(reels(t), shelf(t)...)
	var may []api.State
	for i, s := range states() {
		if i%3 == 0 {
			may = append(may, s)
		}
	}
	fitted := 0
	for i, reel := range l {
		name, n, err := Who(reel)
		for _, x := range asked() {
			isIt := err == api.OK && name == x.name && n == x.n
			for _, s := range may {
				if _, e := Fits(s, x.name, x.n, reel); e == api.OK {
					fitted++
					if !isIt {
						t.Errorf("%s fits %q, %d", show(reel), x.name, x.n)
					}
				}
			}
			if got := Find(l[i:i+1], x.name, x.n); len(got) == 1 != isIt {
				t.Errorf("Find of %s, %q, %d = %v", show(reel), x.name, x.n, got)
			}
		}
	}
	if fitted < 100 {
		t.Errorf("only %d fitted", fitted)
	}
	for _, x := range asked() {
		all := Find(l, x.name, x.n)
		for _, s := range may {
			if i := Next(s, x.name, x.n, l); i >= 0 && !slices.Contains(all, i) {
				t.Errorf("Next of %s, %q, %d is %d, but Find = %v", tell(s), x.name, x.n, i, all)
			}
		}
	}
}

func TestATapeWithNoRecordFitsNothing(t *testing.T) {
	for _, reel := range []api.Tape{{}, {Cap: 1}, {Cap: 200}, {Cap: 200, Mark: true}, {R: [][]byte{}}, {Cap: -1}, {Cap: 201}} {
		for _, x := range asked() {
			for _, s := range append(states(), noStates()...) {
				if k, e := Fits(s, x.name, x.n, reel); e == api.OK || k != 0 {
					t.Errorf("Fits of %s, %q, %d, %s = %d, %d", tell(s), x.name, x.n, show(reel), k, e)
				}
				checkNext(t, s, x.name, x.n, []api.Tape{reel, reel}, -1)
			}
			checkFind(t, []api.Tape{reel, reel}, x.name, x.n)
		}
	}
}

// P2, P3: wherever the tapes of a tree lie, one by one each is the next, and every other one is refused.
func TestTapesOfATreeOneByOne(t *testing.T) {
	r := rand.New(rand.NewSource(2))
	several := 0
	for _, nodes := range allTrees() {
		for _, s := range sets() {
			vols, e := volume.Split(nodes, s)
			if e != api.OK {
				continue
			}
			if len(vols) > 1 {
				several++
			}
			l, at := tapesOf(t, nodes, s), r.Perm(len(vols))
			shuffled := make([]api.Tape, len(l))
			for k, i := range at {
				shuffled[i] = l[k]
			}
			pos := 0
			for k, v := range vols {
				state := behind(nodes, pos)
				begin, _ := volume.Begin(nodes, s, pos, k+1)
				checkNext(t, state, s.Label, k+1, shuffled, at[k])
				checkFind(t, shuffled, s.Label, k+1, at[k])
				for i, reel := range l {
					if i == k {
						checkFits(t, state, s.Label, k+1, reel, len(begin), api.OK)
					} else {
						checkFits(t, state, s.Label, k+1, reel, 0, api.ErrLabel)
					}
				}
				pos += len(v) - len(begin)
			}
			checkNext(t, api.State{Phase: api.PhEnd}, s.Label, len(vols)+1, shuffled, -1)
			checkFind(t, shuffled, s.Label, len(vols)+1)
		}
	}
	if several < 100 {
		t.Errorf("only %d had several tapes", several)
	}
}

// R1, R7

func TestAllSortsOfArguments(t *testing.T) {
	l := append(noTapes(t), shelf(t)...)
	l = append(l, api.Tape{Cap: math.MaxInt, R: make([][]byte, 5000)}, api.Tape{Cap: 200, R: make([][]byte, 5000)}, api.Tape{Cap: 1, R: [][]byte{make([]byte, 1<<20)}})
	for _, reel := range l {
		checkTape(t, reel)
	}
	for _, name := range []string{"", "\x00", "full", "full\x00", letters(88), letters(89), strings.Repeat("x", 1<<20)} {
		for _, n := range []int{0, 1, -1, 999, 1000, 1 << 32, 1<<32 + 1, math.MinInt, math.MaxInt} {
			checkFind(t, l, name, n, wantFind(l, name, n)...)
			for _, s := range []api.State{{}, {Phase: api.PhData, Node: file("a", 0), Size: 1000, Left: 488}, {Phase: api.PhEnd}, {Phase: math.MinInt}} {
				checkNext(t, s, name, n, l, wantNext(s, name, n, l))
			}
		}
	}
}

// R3

// roomy are the same tapes; behind each record, each tape's records and all tapes lies something else.
func roomy(l []api.Tape) []api.Tape {
	list := make([]api.Tape, 0, len(l)+2)
	for _, reel := range l {
		rs := make([][]byte, 0, len(reel.R)+3)
		for _, r := range reel.R {
			whole := append(bytes.Clone(r), "something else"...)
			rs = append(rs, whole[:len(r)])
		}
		copy(rs[len(rs):len(rs)+2], [][]byte{[]byte("one"), []byte("two")})
		reel.R = rs
		list = append(list, reel)
	}
	copy(list[len(l):len(l)+1], []api.Tape{{Cap: 7, R: [][]byte{[]byte("three")}}})
	return list
}

// spread are tapes with all that lies behind, in one text.
func spread(l []api.Tape) string {
	var all []string
	for _, reel := range l[:cap(l)] {
		all = append(all, fmt.Sprint(reel.Cap, reel.Mark, len(reel.R)))
		for _, r := range reel.R[:cap(reel.R)] {
			all = append(all, fmt.Sprintf("%d:%s", len(r), r[:cap(r)]))
		}
	}
	return strings.Join(all, "\n")
}

func TestWhatIsHandedInStaysAsItWas(t *testing.T) {
	sources := [][]api.Tape{shelf(t), reels(t), noTapes(t)}
	for _, nodes := range allTrees() {
		sources = append(sources, tapesOf(t, nodes, setOf(20, 3, 200)))
	}
	for _, l := range sources {
		given := roomy(l)
		was := spread(given)
		for i, reel := range given {
			checkTape(t, reel)
			want, _ := wantBlocks(l[i])
			got, _ := Blocks(reel)
			if !block.Same(got, want) {
				t.Errorf("Blocks of %s among other things = %s", show(l[i]), show(loose(got)))
			}
			for _, s := range states() {
				before := s
				checkModel(t, s, "full", 2, reel)
				if s != before {
					t.Error("a state has changed")
				}
			}
		}
		for _, s := range states() {
			before := s
			Next(s, "full", 1, given)
			Next(s, "full", 1000, given)
			if s != before {
				t.Error("a state has changed")
			}
		}
		Find(given, "full", 1)
		Find(given, "", 0)
		if spread(given) != was {
			t.Errorf("%s have changed", shown(l))
		}
	}
}

// checkUnshared writes over one block at a time, and behind it, and holds all others, and the tape, against what they were.
func checkUnshared(t *testing.T, reel api.Tape) {
	t.Helper()
	was := cloned([]api.Tape{reel})[0]
	want, e := Blocks(reel)
	if e != api.OK {
		t.Fatalf("Blocks of %s = %d", show(reel), e)
	}
	for i := range want {
		got, _ := Blocks(reel)
		whole := got[i][:cap(got[i])]
		for at := range whole {
			whole[at] ^= 'x'
		}
		got[i] = want[i]
		if !block.Same(got, want) {
			t.Fatalf("other blocks have changed with block %d", i)
		}
		clear(got[:cap(got)])
		if !tape.Same(reel, was) {
			t.Fatalf("the tape has changed with block %d", i)
		}
	}
	kept, _ := Blocks(reel)
	name, n, err := Who(reel)
	for _, r := range reel.R {
		clear(r)
	}
	clear(reel.R)
	if again, _ := Blocks(was); !block.Same(kept, again) {
		t.Fatal("the blocks have changed with the tape")
	}
	checkWho(t, was, name, n, err)
}

func TestTheBlocksAreOfMemoryOfTheirOwn(t *testing.T) {
	for _, nodes := range []tree{nil, {file("a", 1000)}, full()} {
		for _, s := range []api.Set{setOf(1, 200), setOf(3, 200), setOf(20, 1, 1, 200)} {
			for _, reel := range tapesOf(t, nodes, s) {
				checkUnshared(t, reel)
				checkUnshared(t, roomy([]api.Tape{wound(streamOf(t, nodes), s.B)})[0])
			}
		}
	}
	// One record given at several places of a tape is several blocks in the answer.
	r := labelOf(t, "full", 1)
	got, e := Blocks(api.Tape{Cap: 2, R: [][]byte{r, r}})
	if e != api.OK || len(got) != 2 {
		t.Fatalf("Blocks = %d blocks, %d", len(got), e)
	}
	got[0][0] ^= 1
	if bytes.Equal(got[0], got[1]) || r[0] != 'f' {
		t.Error("two blocks of the answer are one")
	}
}

// The places that are found are the caller's own, each time.
func TestThePlacesAreOfMemoryOfTheirOwn(t *testing.T) {
	l := shelf(t)
	got := Find(l, "full", 2)
	for i := range got {
		got[i] = -7
	}
	checkFind(t, l, "full", 2, 0, 6, 11)
}

// R5

func TestTheSameAgainWhateverWasAsked(t *testing.T) {
	l := shelf(t)
	midst := api.State{Phase: api.PhData, Node: file("a", 0), Size: 1000, Left: 488}
	for _, other := range append(append(reels(t), noTapes(t)...), tapesOf(t, greatest(), setOf(20, 200))...) {
		Blocks(other)
		Who(other)
		Fits(midst, "full", 2, other)
		Find([]api.Tape{other, l[0]}, "full", 2)
		Next(midst, "full", 2, []api.Tape{other})
		checkWho(t, l[0], "full", 2, api.OK)
		checkFits(t, midst, "full", 2, l[0], 2, api.OK)
		checkFind(t, l, "full", 2, 0, 6, 11)
		checkNext(t, midst, "full", 2, l[1:], 5)
	}
}

// R6

// Lists without elements are the same, whether they are nil or empty.
func TestNilAndEmpty(t *testing.T) {
	for _, s := range append(states(), noStates()...) {
		for _, room := range []int{-1, 0, 5} {
			a, e := Fits(s, "full", 1, api.Tape{Cap: room})
			b, f := Fits(s, "full", 1, api.Tape{Cap: room, R: [][]byte{}})
			if a != b || e != f {
				t.Errorf("Fits of %s = %d, %d of nil, %d, %d of no records", tell(s), a, e, b, f)
			}
		}
		checkNext(t, s, "full", 1, []api.Tape{}, Next(s, "full", 1, nil))
	}
	for _, r := range [][]byte{nil, {}} {
		checkNowhere(t, api.Tape{Cap: 1, R: [][]byte{r}})
	}
	checkFind(t, []api.Tape{}, "full", 1, Find(nil, "full", 1)...)
}
