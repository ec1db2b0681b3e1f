package strip

import (
	"bytes"
	"fmt"
	"math"
	"math/rand"
	"slices"
	"strings"
	"testing"

	"reelkeeper/api"
	"reelkeeper/block"
	"reelkeeper/cont"
	"reelkeeper/head"
	"reelkeeper/label"
	"reelkeeper/long"
	"reelkeeper/parse"
	"reelkeeper/stream"
	"reelkeeper/volume"
)

const most = 1099511627776 // 2^40

// letters is a text of so many bytes, without a slash.
func letters(n int) string {
	return strings.Repeat("abcdefghijklmnopqrstuvwxyz", n/26+1)[:n]
}

// numbers is a text of so many bytes, each block of which differs from the others.
func numbers(n int) string {
	var s strings.Builder
	for i := 0; s.Len() < n; i++ {
		fmt.Fprintf(&s, "%7d,", i)
	}
	return s.String()[:n]
}

// wide is a path of so many bytes that begins by a text.
func wide(first string, n int) string {
	return first + letters(n-len(first))
}

func file(p string, size int) api.Node { return api.Node{Path: p, Kind: '0', Data: numbers(size)} }

func hard(p, link string) api.Node { return api.Node{Path: p, Link: link, Kind: '1'} }

func sym(p, link string) api.Node { return api.Node{Path: p, Link: link, Kind: '2'} }

func dir(p string) api.Node { return api.Node{Path: p, Kind: '5'} }

func setOf(b int, caps ...int) api.Set { return api.Set{Label: "full", B: b, Caps: caps} }

// repeated are so many capacities alike.
func repeated(n, records int) []int {
	return slices.Repeat([]int{records}, n)
}

// tree are some nodes.
type tree []api.Node

// show tells nodes in a line, long texts by their beginning.
func (nodes tree) show() string {
	var all []string
	for _, n := range nodes {
		all = append(all, fmt.Sprintf("{%.20q (%d) %q link %.20q (%d) data (%d)}", n.Path, len(n.Path), n.Kind, n.Link, len(n.Link), len(n.Data)))
	}
	return fmt.Sprint(len(nodes), " nodes ", strings.Join(all, " "))
}

// word tells a block: a label's number, what goes on and where, a header's type, bytes, or noughts.
func word(b []byte) string {
	h, e := head.Get(b)
	switch {
	case len(b) != 512:
		return fmt.Sprintf("(%d bytes)", len(b))
	case e == api.ErrZero:
		return "-"
	case e != api.OK:
		return "d"
	case h.Type == 'V':
		return "V" + h.Name[strings.LastIndex(h.Name, " ")+1:]
	case h.Type == 'M':
		return fmt.Sprintf("M%d", h.Off)
	}
	return string([]byte{h.Type})
}

// layout tells volumes, block by block.
func layout(vols [][][]byte) string {
	var all []string
	for _, v := range vols {
		var words []string
		for _, b := range v {
			words = append(words, word(b))
		}
		all = append(all, strings.Join(words, " "))
	}
	return fmt.Sprintf("%.300s", strings.Join(all, " | "))
}

// tell tells a state, long texts by their beginning.
func tell(s api.State) string {
	return fmt.Sprintf("{phase %d node %.20q (%d) size %d left %d text %.20q name %.20q (%d) link %.20q (%d)}", s.Phase, s.Node.Path, len(s.Node.Path), s.Size, s.Left, s.Text, s.Name, len(s.Name), s.Link, len(s.Link))
}

// labelOf is a label's block.
func labelOf(t *testing.T, name string, n int) []byte {
	t.Helper()
	b, ok := label.Put(name, n)
	if !ok {
		t.Fatalf("no label of %q, %d", name, n)
	}
	return b
}

// moreOf are the blocks which say that a file goes on.
func moreOf(t *testing.T, n api.Node, off int) [][]byte {
	t.Helper()
	l, ok := cont.Put(n, off)
	if !ok {
		t.Fatalf("%.20q does not go on at %d", n.Path, off)
	}
	return l
}

// streamOf are the blocks of a tree's stream.
func streamOf(t *testing.T, nodes tree) [][]byte {
	t.Helper()
	l, ok := stream.All(nodes)
	if !ok {
		t.Fatalf("no stream of %s", nodes.show())
	}
	return l
}

// volumesOf are a tree's volumes.
func volumesOf(t *testing.T, nodes tree, s api.Set) [][][]byte {
	t.Helper()
	vols, e := volume.Split(nodes, s)
	if e != api.OK {
		t.Fatalf("no volumes of %s, %v: %d", nodes.show(), s, e)
	}
	return vols
}

// vol puts a volume together, of a block or of several ones each.
func vol(parts ...any) [][]byte {
	var v [][]byte
	for _, p := range parts {
		switch p := p.(type) {
		case []byte:
			v = append(v, p)
		case [][]byte:
			v = append(v, p...)
		}
	}
	return v
}

// cloned are the same volumes, in memory of their own.
func cloned(vols [][][]byte) [][][]byte {
	var list [][][]byte
	for _, v := range vols {
		var blocks [][]byte
		for _, b := range v {
			blocks = append(blocks, bytes.Clone(b))
		}
		list = append(list, blocks)
	}
	return list
}

// The trees

// full is a tree of 20 nodes, of all kinds and about all edges, those with long texts also first, in the midst and last.
func full() tree {
	target, folder := "D/"+wide("d", 298), wide("F", 101)
	numbered := file("C", 1)
	numbered.Mode, numbered.Uid, numbered.Gid, numbered.Mtime = 4095, most, most, most
	return tree{
		sym(wide("A", 150), letters(101)), file("B", 0), numbered, dir("D"), file("D/a", 512), file("D/b", 513), hard("D/c", "D/b"), file(target, 4000),
		sym("D/e", letters(100)), sym("D/f", letters(101)), hard(wide("E", 120), target), dir(folder), file(folder+"/x", 1024), dir("G"), dir("G/h"), sym("G/h/i", ".."),
		file("G/h/j", 511), file(wide("H", 100), 1025), file("I", 0), sym(wide("J", 300), letters(300)),
	}
}

// greatest is a tree of as many blocks as there are.
func greatest() tree {
	var nodes tree
	for i := range 20 {
		nodes = append(nodes, file(wide(string(rune('a'+i)), 300), 4000))
	}
	return nodes
}

// tricky is a file whose bytes are blocks that volumes have as well.
func tricky() api.Node {
	second, _ := label.Put("full", 2)
	more, _ := cont.Put(file("a", 2000), 512)
	first, _ := label.Put("full", 1)
	return api.Node{Path: "a", Kind: '0', Data: string(bytes.Join([][]byte{second, make([]byte, 512), more[0], make([]byte, 512), make([]byte, 512), first}, nil))}
}

// fewer are trees of a few nodes.
func fewer() []tree {
	target := wide("a", 101)
	return []tree{
		nil,
		{dir("a")},
		{sym("a", "b")},
		{file("a", 0)},
		{file("a", 1)},
		{file("a", 512)},
		{file("a", 513)},
		{{Path: "a", Kind: '0', Mode: 420, Uid: 1000, Gid: 100, Mtime: 1700000000, Data: numbers(1000)}},
		{file("a", 1025)},
		{file("a", 4000)},
		{{Path: "a", Kind: '0', Data: strings.Repeat("\x00", 2000)}},
		{tricky()},
		{file(wide("a", 100), 2000)},
		{file(target, 2000)},
		{file(wide("a", 300), 0)},
		{file(wide("a", 300), 4000)},
		{sym("a", letters(300))},
		{sym(wide("a", 101), letters(101))},
		{dir("a"), file("a/b", 5)},
		{dir("a"), file("a/"+wide("b", 150), 1500)},
		{dir(wide("a", 90)), file(wide("a", 90)+"/"+wide("b", 90), 1500)},
		{file("a", 600), file("b", 1200)},
		{file("a", 600), hard("b", "a"), file("c", 513)},
		{file(target, 600), hard("b", target), file(wide("c", 200), 513)},
		{file("a", 0), file("b", 1), sym("c", letters(200)), dir("d")},
	}
}

// allTrees are all of these.
func allTrees() []tree {
	return append(fewer(), full(), greatest())
}

// someTree is a tree of a few nodes, in one directory.
func someTree(r *rand.Rand) tree {
	nodes := tree{file("a", 1+r.Intn(1500)), dir("b")}
	for i := range r.Intn(6) {
		p := fmt.Sprintf("b/%d", i)
		if r.Intn(3) == 0 {
			p = wide(p, 103+r.Intn(198))
		}
		switch r.Intn(6) {
		case 0:
			nodes = append(nodes, hard(p, "a"))
		case 1:
			nodes = append(nodes, sym(p, letters(1+r.Intn(200))))
		case 2:
			nodes = append(nodes, dir(p))
		default:
			nodes = append(nodes, file(p, r.Intn(4001)))
		}
	}
	return nodes
}

// someVolumes are volumes of a tree, often several ones.
func someVolumes(r *rand.Rand, nodes tree) [][][]byte {
	for {
		b := 1 + r.Intn(4)
		var caps []int
		for range 12 {
			caps = append(caps, 1+r.Intn(12))
		}
		caps[1+r.Intn(11)] = 200
		if vols, e := volume.Split(nodes, setOf(b, caps...)); e == api.OK {
			return vols
		}
	}
}

// behind is the state behind so many blocks of a tree's stream.
func behind(nodes tree, many int) api.State {
	for _, n := range nodes {
		s, left := behindNode(n, many)
		if left < 0 {
			return s
		}
		many = left
	}
	return []api.State{{}, {Phase: api.PhZero}, {Phase: api.PhEnd}}[many]
}

// behindNode is the state behind so many blocks of a node, and how many are left behind all of its blocks: -1, if it has more.
func behindNode(n api.Node, many int) (api.State, int) {
	states := []api.State{{}}
	needsName, needsLink := long.Needs(n)
	link := ""
	if needsLink {
		link = n.Link
		states = append(states, api.State{Phase: api.PhLink, Size: len(link) + 1, Left: len(link) + 1}, api.State{Link: link})
	}
	if needsName {
		states = append(states, api.State{Phase: api.PhName, Size: len(n.Path) + 1, Left: len(n.Path) + 1, Link: link}, api.State{Name: n.Path, Link: link})
	}
	size := len(n.Data)
	n.Data = ""
	for left := size; left > 0; left -= 512 {
		states = append(states, api.State{Phase: api.PhData, Node: n, Size: size, Left: left})
	}
	if many < len(states) {
		return states[many], -1
	}
	return api.State{}, many - len(states)
}

// The models

// wantOne asks for the blocks that have to be there, where One reads those that are.
func wantOne(s api.State, name string, n int, v [][]byte) (int, api.Errno) {
	if !parse.May(s) {
		return 0, api.ErrArg
	}
	if s == (api.State{Phase: api.PhEnd}) {
		return 0, api.ErrDone
	}
	if len(v) == 0 {
		return 0, api.ErrMore
	}
	own, ok := label.Put(name, n)
	if !ok || !bytes.Equal(v[0], own) {
		return 0, api.ErrLabel
	}
	if s.Phase != api.PhData {
		return 1, api.OK
	}
	whole := s.Node
	whole.Data = strings.Repeat("x", s.Size)
	more, _ := cont.Put(whole, s.Size-s.Left)
	if len(v)-1 < len(more) || !block.Same(v[1:1+len(more)], more) {
		return 0, api.ErrCont
	}
	return 1 + len(more), api.OK
}

// wantStrip takes block by block.
func wantStrip(name string, vols [][][]byte) ([][]byte, api.State, api.Errno) {
	var all [][]byte
	var s api.State
	for i := range vols {
		k, e := wantOne(s, name, i+1, vols[i])
		if e != api.OK {
			return nil, s, e
		}
		for ; k < len(vols[i]); k++ {
			next, _, e := parse.Step(s, vols[i][k])
			if e != api.OK {
				return nil, s, e
			}
			all, s = append(all, vols[i][k]), next
			if s.Phase == api.PhEnd {
				return all, s, api.OK
			}
		}
	}
	return nil, s, api.ErrMore
}

func checkOne(t *testing.T, s api.State, name string, n int, v [][]byte) api.Errno {
	t.Helper()
	want, err := wantOne(s, name, n, v)
	got, e := One(s, name, n, v)
	if got != want || e != err {
		t.Errorf("One of %s, %.100q, %d, %s = %d, %d; want %d, %d", tell(s), name, n, layout([][][]byte{v}), got, e, want, err)
	}
	return e
}

// checkIs holds One against what it has to answer.
func checkIs(t *testing.T, s api.State, name string, n int, v [][]byte, want int, err api.Errno) {
	t.Helper()
	checkOne(t, s, name, n, v)
	if got, e := One(s, name, n, v); got != want || e != err {
		t.Errorf("One of %s, %.100q, %d, %s = %d, %d; want %d, %d", tell(s), name, n, layout([][][]byte{v}), got, e, want, err)
	}
}

// checkStrip holds Strip and Left against what the model answers.
func checkStrip(t *testing.T, name string, vols [][][]byte) api.Errno {
	t.Helper()
	all, s, err := wantStrip(name, vols)
	checkEnds(t, name, vols, all, s, err)
	return err
}

// checkEnds holds Strip and Left against what they have to answer.
func checkEnds(t *testing.T, name string, vols [][][]byte, all [][]byte, s api.State, err api.Errno) {
	t.Helper()
	if got, e := Strip(name, vols); e != err || !block.Same(got, all) {
		t.Errorf("Strip of %.100q, %s = %s, %d; want %s, %d", name, layout(vols), layout([][][]byte{got}), e, layout([][][]byte{all}), err)
	}
	if got := Left(name, vols); got != s {
		t.Errorf("Left of %.100q, %s = %s; want %s", name, layout(vols), tell(got), tell(s))
	}
}

// checkFault holds both against a fault: what Strip tells, and where it ends.
func checkFault(t *testing.T, name string, vols [][][]byte, s api.State, err api.Errno) {
	t.Helper()
	checkStrip(t, name, vols)
	checkEnds(t, name, vols, nil, s, err)
}

// states may be: of each phase, with and without texts, and of a file's bytes before the first block, in the midst, and before the last.
func states() []api.State {
	a, named := file("a", 0), file(wide("a", 300), 0)
	numbered := api.Node{Path: wide("a", 101), Kind: '0', Mode: 4095, Uid: most, Gid: most, Mtime: most}
	list := []api.State{
		{}, {Name: "a"}, {Link: "a"}, {Name: "a", Link: "b"}, {Name: letters(300), Link: letters(300)}, {Name: "../a"},
		{Phase: api.PhName, Size: 2, Left: 2}, {Phase: api.PhName, Size: 301, Left: 301}, {Phase: api.PhName, Size: 102, Left: 102, Link: letters(101)},
		{Phase: api.PhLink, Size: 2, Left: 2}, {Phase: api.PhLink, Size: 301, Left: 301}, {Phase: api.PhLink, Size: 102, Left: 102, Name: letters(101)},
		{Phase: api.PhZero}, {Phase: api.PhEnd},
	}
	for _, n := range []api.Node{a, file("b", 0), file(wide("a", 100), 0), file(wide("a", 101), 0), named, numbered} {
		for _, x := range [][2]int{{1, 1}, {511, 511}, {512, 512}, {513, 513}, {513, 1}, {1000, 1000}, {1000, 488}, {4000, 4000}, {4000, 3488}, {4000, 416}} {
			list = append(list, api.State{Phase: api.PhData, Node: n, Size: x[0], Left: x[1]})
		}
	}
	return list
}

// noStates may not be: each is spoilt in one thing.
func noStates() []api.State {
	a := file("a", 0)
	list := []api.State{
		{Phase: -1}, {Phase: 6}, {Phase: 7}, {Phase: math.MinInt}, {Phase: math.MaxInt}, {Phase: 1 << 32}, {Phase: 1<<32 + 3, Node: a, Size: 1000, Left: 488},
		{Node: a}, {Size: 1}, {Left: 1}, {Size: 1000, Left: 488}, {Name: "a\x00"}, {Name: letters(301)}, {Link: "\x00"}, {Link: letters(301)},
		{Phase: api.PhName}, {Phase: api.PhName, Size: 1, Left: 1}, {Phase: api.PhName, Size: 302, Left: 302}, {Phase: api.PhName, Size: 5, Left: 4}, {Phase: api.PhName, Size: 5, Left: 5, Name: "a"}, {Phase: api.PhName, Size: 5, Left: 5, Node: a},
		{Phase: api.PhLink}, {Phase: api.PhLink, Size: 1, Left: 1}, {Phase: api.PhLink, Size: 302, Left: 302}, {Phase: api.PhLink, Size: 4, Left: 5}, {Phase: api.PhLink, Size: 5, Left: 5, Link: "a"},
		{Phase: api.PhZero, Node: a}, {Phase: api.PhZero, Size: 1}, {Phase: api.PhZero, Name: "a"}, {Phase: api.PhEnd, Node: a}, {Phase: api.PhEnd, Left: 1}, {Phase: api.PhEnd, Link: "a"}, {Phase: api.PhEnd, Name: "a"},
	}
	for _, n := range []api.Node{{}, dir("a"), sym("a", "b"), hard("a", "b"), file("", 0), file("..", 0), file("/a", 0), file("a/../b", 0), file("a\x00", 0), file(letters(301), 0), file("a", 1), file("a", 1000), {Path: "a", Kind: '0', Link: "b"}, {Path: "a", Kind: '0', Mode: 4096}, {Path: "a", Kind: '0', Uid: -1}, {Path: "a", Kind: '0', Gid: most + 1}, {Path: "a", Kind: '0', Mtime: math.MinInt}, {Path: "a", Kind: 'M'}} {
		list = append(list, api.State{Phase: api.PhData, Node: n, Size: 1000, Left: 488})
	}
	for _, x := range [][2]int{{0, 0}, {1000, 0}, {1000, 1}, {1000, 487}, {1000, 489}, {1000, 999}, {1000, 1001}, {1000, 1512}, {1000, -24}, {4001, 4001}, {4096, 512}, {-512, -512}, {math.MaxInt, math.MaxInt}, {math.MinInt, 512}, {512, math.MinInt}} {
		list = append(list, api.State{Phase: api.PhData, Node: a, Size: x[0], Left: x[1]})
	}
	for _, s := range states() {
		s.Text = "a"
		list = append(list, s)
	}
	return list
}

// P17.1: One

func TestOneOfEachPhase(t *testing.T) {
	own := labelOf(t, "full", 12)
	a := file("a", 1000)
	header, more := streamOf(t, tree{a})[0], moreOf(t, a, 512)
	for _, s := range states() {
		switch s.Phase {
		case api.PhEnd:
			checkIs(t, s, "full", 12, vol(own, header), 0, api.ErrDone)
			checkIs(t, s, "full", 12, vol(own, more), 0, api.ErrDone)
			checkIs(t, s, "full", 12, vol(own), 0, api.ErrDone)
		case api.PhData:
			whole := s.Node
			whole.Data = numbers(s.Size)
			begin := vol(own, moreOf(t, whole, s.Size-s.Left))
			many := 2
			if len(whole.Path) > 100 {
				many = 4
			}
			checkIs(t, s, "full", 12, begin, many, api.OK)
			checkIs(t, s, "full", 12, vol(begin, header, header), many, api.OK)
			checkIs(t, s, "full", 12, vol(begin, begin), many, api.OK)
			for k := 1; k < many; k++ {
				checkIs(t, s, "full", 12, begin[:k], 0, api.ErrCont)
				checkIs(t, s, "full", 12, vol(begin[:k], header, header, header), 0, api.ErrCont)
				checkIs(t, s, "full", 12, vol(begin[:k], begin[k+1:]), 0, api.ErrCont)
			}
			checkIs(t, s, "full", 12, vol(own, header, begin[1:]), 0, api.ErrCont)
			checkIs(t, s, "full", 12, vol(own, begin), 0, api.ErrCont)
		default:
			checkIs(t, s, "full", 12, vol(own), 1, api.OK)
			checkIs(t, s, "full", 12, vol(own, header), 1, api.OK)
			checkIs(t, s, "full", 12, vol(own, own), 1, api.OK)
			// Whether it is the stream's block is parse's to say.
			checkIs(t, s, "full", 12, vol(own, more), 1, api.OK)
			checkIs(t, s, "full", 12, vol(own, []byte("no block")), 1, api.OK)
			checkIs(t, s, "full", 12, [][]byte{own, nil}, 1, api.OK)
		}
	}
}

// pieces are volumes of all sorts, right for a few states and wrong for all others.
func pieces(t *testing.T) [][][]byte {
	own, second, other := labelOf(t, "full", 1), labelOf(t, "full", 2), labelOf(t, "fuller", 1)
	a := file("a", 1000)
	header := streamOf(t, tree{a})[0]
	list := [][][]byte{
		nil, {}, {nil}, {{}}, {own}, {own, nil}, {own[:511]}, {append(bytes.Clone(own), 0)}, {make([]byte, 512)}, {header}, {second}, {other}, {nil, own}, {make([]byte, 512), own}, {own, own}, {own, second}, {own, header}, {header, own}, moreOf(t, a, 512), moreOf(t, a, 0),
	}
	for _, first := range [][]byte{own, second, other, header, nil} {
		for _, n := range []api.Node{a, file("a", 4000), file("a", 513), file("b", 1000), file(wide("a", 100), 4000), file(wide("a", 101), 4000), file(wide("a", 300), 1000)} {
			for _, off := range []int{0, 512, (len(n.Data) - 1) / 512 * 512} {
				more := moreOf(t, n, off)
				list = append(list, vol(first, more), vol(first, more, header), vol(first, more[:len(more)-1]), vol(first, more[1:]), vol(more, first), vol(first, header, more))
			}
		}
	}
	return list
}

func TestOneOfAllStatesAndVolumes(t *testing.T) {
	counts := map[api.Errno]int{}
	states := states()
	for _, v := range pieces(t) {
		for _, asked := range []struct {
			name string
			n    int
		}{{"full", 1}, {"full", 2}, {"fuller", 1}, {"full", 0}, {"full", 1000}, {"full", 1<<32 + 1}, {"", 0}, {"full\x00", 1}, {letters(89), math.MinInt}} {
			for _, s := range states {
				counts[checkOne(t, s, asked.name, asked.n, v)]++
			}
		}
		for _, s := range noStates() {
			checkIs(t, s, "full", 1, v, 0, api.ErrArg)
			checkIs(t, s, "", 0, v, 0, api.ErrArg)
		}
	}
	for _, e := range []api.Errno{api.OK, api.ErrDone, api.ErrMore, api.ErrLabel, api.ErrCont} {
		if counts[e] < 100 {
			t.Errorf("only %d of the answers were %d", counts[e], e)
		}
	}
}

// Two or more errors fit at once: that which is named first is told.
func TestTheOrderOfOnesErrors(t *testing.T) {
	own, other := labelOf(t, "full", 1), labelOf(t, "full", 2)
	data := api.State{Phase: api.PhData, Node: file("a", 0), Size: 1000, Left: 488}
	end, noState, noEnd := api.State{Phase: api.PhEnd}, api.State{Phase: api.PhData}, api.State{Phase: api.PhEnd, Size: 1}
	for _, x := range []struct {
		s    api.State
		name string
		n    int
		v    [][]byte
		want api.Errno
	}{
		{noState, "full", 1, vol(own), api.ErrArg},
		{noState, "full", 1, nil, api.ErrArg},
		{noState, "", 0, nil, api.ErrArg},
		{noState, "full", 1, vol(other), api.ErrArg},
		{noState, "full", 1, vol(own, own), api.ErrArg},
		{noEnd, "full", 1, vol(own), api.ErrArg},
		{noEnd, "full", 1000, nil, api.ErrArg},
		{end, "full", 1, vol(own), api.ErrDone},
		{end, "full", 1, nil, api.ErrDone},
		{end, "full", 1, vol(other), api.ErrDone},
		{end, "full", 0, vol(own), api.ErrDone},
		{end, "", 0, nil, api.ErrDone},
		{end, "full", 1000, vol([]byte(nil)), api.ErrDone},
		{data, "full", 1, nil, api.ErrMore},
		{data, "full", 1, [][]byte{}, api.ErrMore},
		{data, "full", 0, nil, api.ErrMore},
		{data, "full", 1000, nil, api.ErrMore},
		{data, "", 1, nil, api.ErrMore},
		{api.State{}, "", 0, nil, api.ErrMore},
		{data, "full", 2, vol(own), api.ErrLabel},
		{data, "full", 2, vol(own, own), api.ErrLabel},
		{data, "full", 1, vol(other, moreOf(t, file("a", 1000), 512)), api.ErrLabel},
		{data, "full", 1, moreOf(t, file("a", 1000), 512), api.ErrLabel},
		{data, "ful", 1, vol(own), api.ErrLabel},
		{data, "full", 1, vol(own), api.ErrCont},
		{data, "full", 1, vol(own, own), api.ErrCont},
		{data, "full", 1, vol(own, moreOf(t, file("a", 1000), 0)), api.ErrCont},
	} {
		checkIs(t, x.s, x.name, x.n, x.v, 0, x.want)
	}
}

// Without a label's block, no name and no number are the ones of the block: not even none, and 0.
func TestNoLabelAtAll(t *testing.T) {
	header := streamOf(t, tree{file("a", 5)})[0]
	for _, b := range [][]byte{nil, {}, make([]byte, 512), make([]byte, 511), header, header[:511], []byte("bytes"), bytes.Repeat([]byte{'x'}, 512)} {
		for _, n := range []int{0, 1, -1, 1000} {
			for _, name := range []string{"", "full", "a", "\x00"} {
				checkIs(t, api.State{}, name, n, vol(b, header), 0, api.ErrLabel)
			}
		}
	}
}

func TestAllLabelsAndNumbers(t *testing.T) {
	for n := 1; n <= 999; n++ {
		v := vol(labelOf(t, "full", n))
		checkIs(t, api.State{}, "full", n, v, 1, api.OK)
		for _, other := range []int{0, n - 1, n + 1, -n, n * 10, n / 10, 10*n + 1, n + 1000, n + 1<<32, math.MinInt + n, 1000} {
			if other != n {
				checkIs(t, api.State{}, "full", other, v, 0, api.ErrLabel)
			}
		}
	}
	for size := 1; size <= 88; size++ {
		for _, name := range []string{letters(size), strings.Repeat("\xff", size), strings.Repeat(" ", size)} {
			v := vol(labelOf(t, name, 7))
			checkIs(t, api.State{}, name, 7, v, 1, api.OK)
			for _, other := range []string{"", name[:size-1], name + "a", name + " ", name + "\x00", " " + name, "b" + name[1:], name + " Volume 7", strings.ToUpper(name[:size-1]) + "é"} {
				checkIs(t, api.State{}, other, 7, v, 0, api.ErrLabel)
			}
		}
	}
	// A label that reads like another one, with its number.
	checkIs(t, api.State{}, "a Volume 1", 2, vol(labelOf(t, "a Volume 1", 2)), 1, api.OK)
	checkIs(t, api.State{}, "a", 1, vol(labelOf(t, "a Volume 1", 2)), 0, api.ErrLabel)
	checkIs(t, api.State{}, "a", 12, vol(labelOf(t, "a", 1)), 0, api.ErrLabel)
}

// spoilt are the same blocks, with other bytes at one place, and with one block of another length.
func spoilt(b []byte) [][]byte {
	var list [][]byte
	for at := range b {
		for _, x := range []byte{1, 128} {
			c := bytes.Clone(b)
			c[at] ^= x
			list = append(list, c)
		}
	}
	return append(list, nil, b[:0], b[:1], b[:511], append(bytes.Clone(b), 0), append(bytes.Clone(b), b...))
}

func TestOneOfASpoiltBlock(t *testing.T) {
	for _, n := range []api.Node{file("a", 1000), file(wide("a", 101), 1000)} {
		begin := vol(labelOf(t, "full", 2), moreOf(t, n, 512))
		bare := n
		bare.Data = ""
		s := api.State{Phase: api.PhData, Node: bare, Size: 1000, Left: 488}
		checkIs(t, s, "full", 2, begin, len(begin), api.OK)
		for i, b := range begin {
			for _, c := range spoilt(b) {
				v := slices.Clone(begin)
				v[i] = c
				if i == 0 {
					checkIs(t, s, "full", 2, v, 0, api.ErrLabel)
					checkIs(t, api.State{}, "full", 2, v, 0, api.ErrLabel)
				} else {
					checkIs(t, s, "full", 2, v, 0, api.ErrCont)
					checkIs(t, api.State{}, "full", 2, v, 1, api.OK)
				}
			}
		}
	}
}

// What goes on must be the same file, in all that its header tells, at the same place, and of the same size.
func TestWhatGoesOnIsAnotherOne(t *testing.T) {
	n := api.Node{Path: wide("a", 100), Kind: '0', Mode: 420, Uid: 1000, Gid: 100, Mtime: 1700000000, Data: numbers(2000)}
	bare := n
	bare.Data = ""
	changed := func(change func(*api.Node)) api.Node {
		other := n
		change(&other)
		return other
	}
	others := []api.Node{
		changed(func(n *api.Node) { n.Path = "b" }), changed(func(n *api.Node) { n.Path = n.Path[:99] }), changed(func(n *api.Node) { n.Path += "x" }), changed(func(n *api.Node) { n.Path = wide("b", 100) }), changed(func(n *api.Node) { n.Path = "a/" + n.Path[2:] }),
		changed(func(n *api.Node) { n.Mode++ }), changed(func(n *api.Node) { n.Mode = 0 }), changed(func(n *api.Node) { n.Uid-- }), changed(func(n *api.Node) { n.Gid = most }), changed(func(n *api.Node) { n.Mtime++ }), changed(func(n *api.Node) { n.Uid, n.Gid = n.Gid, n.Uid }),
		changed(func(n *api.Node) { n.Data += "x" }), changed(func(n *api.Node) { n.Data = n.Data[1:] }), changed(func(n *api.Node) { n.Data = numbers(4000) }), changed(func(n *api.Node) { n.Data = numbers(1537) }),
	}
	own := labelOf(t, "full", 3)
	for off := 0; off < 2000; off += 512 {
		s := api.State{Phase: api.PhData, Node: bare, Size: 2000, Left: 2000 - off}
		for at := 0; at < 2000; at += 512 {
			want, err := 0, api.ErrCont
			if at == off {
				want, err = 2, api.OK
			}
			checkIs(t, s, "full", 3, vol(own, moreOf(t, n, at)), want, err)
			for _, other := range others {
				checkIs(t, s, "full", 3, vol(own, moreOf(t, other, at)), 0, api.ErrCont)
			}
		}
		// The bytes themselves are not told: only how many there are.
		same := n
		same.Data = strings.Repeat("x", 2000)
		checkIs(t, s, "full", 3, vol(own, moreOf(t, same, off)), 2, api.OK)
	}
}

// A long name ahead is the path's: a header with the beginning alone is another file's.
func TestLongNamesThatGoOn(t *testing.T) {
	n := file(wide("a", 101), 1000)
	bare := n
	bare.Data = ""
	s := api.State{Phase: api.PhData, Node: bare, Size: 1000, Left: 488}
	own, more := labelOf(t, "full", 2), moreOf(t, n, 512)
	other := moreOf(t, file(wide("a", 100)+"y", 1000), 512)
	checkIs(t, s, "full", 2, vol(own, more), 4, api.OK)
	checkIs(t, s, "full", 2, vol(own, more[2]), 0, api.ErrCont)
	checkIs(t, s, "full", 2, vol(own, other), 0, api.ErrCont)
	checkIs(t, s, "full", 2, vol(own, other[:2], more[2]), 0, api.ErrCont)
	checkIs(t, s, "full", 2, vol(own, moreOf(t, file(wide("a", 100), 1000), 512)), 0, api.ErrCont)
	short := file(wide("a", 100), 1000)
	s.Node.Path = short.Path
	checkIs(t, s, "full", 2, vol(own, moreOf(t, short, 512)), 2, api.OK)
	checkIs(t, s, "full", 2, vol(own, more[:2], moreOf(t, short, 512)), 0, api.ErrCont)
}

// P17.2: Strip, Left

func TestTheExample(t *testing.T) {
	two := [][]byte{make([]byte, 512), make([]byte, 512)}
	end := api.State{Phase: api.PhEnd}
	for _, s := range []api.Set{setOf(2, 2), setOf(1, 3), setOf(1, 2, 2), setOf(20, 1), setOf(4, 200)} {
		checkEnds(t, "full", volumesOf(t, nil, s), two, end, api.OK)
	}
}

// The document's examples of the whole, their blocks written out here.
func TestTheExamplesOfTheWhole(t *testing.T) {
	stands := func(parts ...string) []byte {
		b := make([]byte, 512)
		at := 0
		for _, p := range parts {
			at += copy(b[at:], p)
		}
		return b
	}
	zeros := func(n int) string { return strings.Repeat("\x00", n) }
	three := strings.Repeat("0000000\x00", 3)
	first := stands("full Volume 1", zeros(87), three, "00000000000\x0000000000000\x00", "010221\x00 ", "V", zeros(100), "ustar\x0000")
	second := stands("full Volume 2", zeros(87), three, "00000000000\x0000000000000\x00", "010222\x00 ", "V", zeros(100), "ustar\x0000")
	all := [][]byte{
		stands("a", zeros(99), three, "00000000000\x0000000000000\x00", "006065\x00 ", "5", zeros(100), "ustar\x0000"),
		stands("a/b", zeros(97), three, "00000000005\x0000000000000\x00", "006306\x00 ", "0", zeros(100), "ustar\x0000"),
		stands("bytes"), stands(), stands(),
	}
	a, b := vol(first, all[:3]), vol(second, all[3:])
	end := api.State{Phase: api.PhEnd}
	checkEnds(t, "full", [][][]byte{a, b}, all, end, api.OK)
	checkEnds(t, "full", [][][]byte{b, a}, nil, api.State{}, api.ErrLabel)
	checkEnds(t, "full", [][][]byte{a, a, b}, nil, api.State{}, api.ErrLabel)
	checkEnds(t, "full", [][][]byte{a}, nil, api.State{}, api.ErrMore)

	goesOn := stands("a", zeros(99), three, "00000000750\x0000000000000\x00", "010207\x00 ", "M", zeros(100), "ustar\x0000", zeros(104), "00000001000\x00", zeros(102), "00000001750\x00")
	whole := streamOf(t, tree{file("a", 1000)})
	a, b = vol(first, whole[:2]), vol(second, goesOn, whole[2:])
	checkEnds(t, "full", [][][]byte{a, b}, whole, end, api.OK)
	checkEnds(t, "full", [][][]byte{a}, nil, api.State{Phase: api.PhData, Node: file("a", 0), Size: 1000, Left: 488}, api.ErrMore)
	checkEnds(t, "full", [][][]byte{a, vol(second, whole[2:])}, nil, api.State{Phase: api.PhData, Node: file("a", 0), Size: 1000, Left: 488}, api.ErrCont)
}

func TestNoVolumes(t *testing.T) {
	for _, name := range []string{"full", "", "\x00", letters(88), letters(89)} {
		checkFault(t, name, nil, api.State{}, api.ErrMore)
		checkFault(t, name, [][][]byte{}, api.State{}, api.ErrMore)
		checkFault(t, name, [][][]byte{nil}, api.State{}, api.ErrMore)
		checkFault(t, name, [][][]byte{{}, nil}, api.State{}, api.ErrMore)
		checkFault(t, name, [][][]byte{{nil}}, api.State{}, api.ErrLabel)
	}
}

// A volume ends, and the next one begins, at each place of the stream: behind a header, with a header, with a long name's blocks, at the first block of bytes, at the last one, ahead of the noughts, and between them.
func TestTwoVolumesCutAtEachPlace(t *testing.T) {
	for _, nodes := range allTrees() {
		all := streamOf(t, nodes)
		for at := range len(all) + 1 {
			begin := vol(labelOf(t, "full", 2))
			s := behind(nodes, at)
			if s.Phase == api.PhData {
				which, data := stream.Where(nodes, at)
				begin = vol(begin, moreOf(t, nodes[which], data*512))
			}
			first, second := vol(labelOf(t, "full", 1), all[:at]), vol(begin, all[at:])
			checkEnds(t, "full", [][][]byte{first, second}, all, api.State{Phase: api.PhEnd}, api.OK)
			if at < len(all) {
				checkFault(t, "full", [][][]byte{first}, s, api.ErrMore)
				checkFault(t, "full", [][][]byte{first, first}, s, api.ErrLabel)
				checkFault(t, "full", [][][]byte{first, nil}, s, api.ErrMore)
				checkFault(t, "full", [][][]byte{first, second[1:]}, s, api.ErrLabel)
				checkFault(t, "full", [][][]byte{second, first}, api.State{}, api.ErrLabel)
				checkFault(t, "other", [][][]byte{first, second}, api.State{}, api.ErrLabel)
				checkIs(t, s, "full", 2, second, len(begin), api.OK)
			}
			if s.Phase == api.PhData {
				checkFault(t, "full", [][][]byte{first, vol(begin[0], all[at:])}, s, api.ErrCont)
				checkFault(t, "full", [][][]byte{first, vol(begin[0])}, s, api.ErrCont)
				checkFault(t, "full", [][][]byte{first, begin}, s, api.ErrMore)
			}
		}
	}
}

// What says that a file goes on has no place where none does: it is no header of the stream's, nor are they a long name's blocks alone.
func TestWhatGoesOnWhereNothingDoes(t *testing.T) {
	n := file("a", 1000)
	all := streamOf(t, tree{n, file("b", 5)}) // 0 a, 1 and 2 its bytes, 3 b, 4 its bytes, 5 and 6 noughts
	own := [][]byte{nil, labelOf(t, "full", 1), labelOf(t, "full", 2), labelOf(t, "full", 3)}
	more := moreOf(t, n, 512)
	checkFault(t, "full", [][][]byte{vol(own[1], moreOf(t, n, 0), all)}, api.State{}, api.ErrType)
	checkFault(t, "full", [][][]byte{vol(own[1], more, all[2:])}, api.State{}, api.ErrType)
	checkFault(t, "full", [][][]byte{vol(own[1], all[:3]), vol(own[2], more, all[3:])}, api.State{}, api.ErrType)
	checkFault(t, "full", [][][]byte{vol(own[1], all[:4]), vol(own[2], more, all[4:])}, api.State{Phase: api.PhData, Node: file("b", 0), Size: 5, Left: 5}, api.ErrCont)
	checkFault(t, "full", [][][]byte{vol(own[1], all[:5]), vol(own[2], more, all[5:])}, api.State{}, api.ErrType)
	checkFault(t, "full", [][][]byte{vol(own[1], all[:6]), vol(own[2], more, all[6:])}, api.State{Phase: api.PhZero}, api.ErrForm)
	// In a volume's midst it is no more than bytes, where bytes come, and nothing, where a header comes.
	within := vol(own[1], all[:1], more, all[2:])
	checkEnds(t, "full", [][][]byte{within}, within[1:], api.State{Phase: api.PhEnd}, api.OK)
	checkFault(t, "full", [][][]byte{vol(own[1], all[:3], more, all[3:])}, api.State{}, api.ErrType)
	// The label likewise.
	within = vol(own[1], all[:1], own[2], all[2:])
	checkEnds(t, "full", [][][]byte{within}, within[1:], api.State{Phase: api.PhEnd}, api.OK)
	checkFault(t, "full", [][][]byte{vol(own[1], all[:3], own[2], all[3:])}, api.State{}, api.ErrType)
	checkFault(t, "full", [][][]byte{vol(own[1], own[1], all)}, api.State{}, api.ErrType)
	named := file(wide("a", 101), 1000)
	all = streamOf(t, tree{named}) // 0 and 1 its name, 2 its header
	checkFault(t, "full", [][][]byte{vol(own[1], moreOf(t, named, 0), all)}, api.State{Name: named.Path}, api.ErrType)
	checkFault(t, "full", [][][]byte{vol(own[1], all[:2]), vol(own[2], moreOf(t, named, 0), all[2:])}, api.State{Name: named.Path}, api.ErrType)
}

// Volumes that have nothing of the stream.
func TestVolumesOfTheLabelAlone(t *testing.T) {
	n := file("a", 1000)
	all := streamOf(t, tree{n})
	own := [][]byte{nil, labelOf(t, "full", 1), labelOf(t, "full", 2), labelOf(t, "full", 3), labelOf(t, "full", 4)}
	more := moreOf(t, n, 512)
	end := api.State{Phase: api.PhEnd}
	data := api.State{Phase: api.PhData, Node: file("a", 0), Size: 1000, Left: 488}
	checkEnds(t, "full", [][][]byte{vol(own[1]), vol(own[2], all)}, all, end, api.OK)
	checkEnds(t, "full", [][][]byte{vol(own[1]), vol(own[2]), vol(own[3], all)}, all, end, api.OK)
	checkEnds(t, "full", [][][]byte{vol(own[1], all[:3]), vol(own[2]), vol(own[3], all[3:])}, all, end, api.OK)
	checkEnds(t, "full", [][][]byte{vol(own[1], all[:4]), vol(own[2]), vol(own[3], all[4:])}, all, end, api.OK)
	checkFault(t, "full", [][][]byte{vol(own[1], all[:2]), vol(own[2]), vol(own[3], more, all[2:])}, data, api.ErrCont)
	checkEnds(t, "full", [][][]byte{vol(own[1], all[:2]), vol(own[2], more), vol(own[3], more, all[2:])}, all, end, api.OK)
	checkEnds(t, "full", [][][]byte{vol(own[1], all[:2]), vol(own[2], more), vol(own[3], more, all[2:4]), vol(own[4], all[4:])}, all, end, api.OK)
	checkFault(t, "full", [][][]byte{vol(own[1], all[:2]), vol(own[2], more)}, data, api.ErrMore)
	checkFault(t, "full", [][][]byte{vol(own[1]), vol(own[2])}, api.State{}, api.ErrMore)
	checkFault(t, "full", [][][]byte{vol(own[1]), vol(own[1])}, api.State{}, api.ErrLabel)
	checkFault(t, "full", [][][]byte{vol(own[1]), nil, vol(own[3], all)}, api.State{}, api.ErrMore)
	checkFault(t, "full", [][][]byte{nil, vol(own[2], all)}, api.State{}, api.ErrMore)
}

// There are 999 numbers: a volume behind has none.
func TestAsManyVolumesAsThereAreNumbers(t *testing.T) {
	all := streamOf(t, full())
	var empty [][][]byte
	for n := 1; n <= 999; n++ {
		empty = append(empty, vol(labelOf(t, "full", n)))
	}
	checkFault(t, "full", empty, api.State{}, api.ErrMore)
	for _, n := range []int{1, 2, 9, 10, 99, 100, 998, 999} {
		vols := slices.Clone(empty)
		vols[n-1] = vol(vols[n-1], all)
		checkEnds(t, "full", vols, all, api.State{Phase: api.PhEnd}, api.OK)
		checkEnds(t, "full", vols[:n], all, api.State{Phase: api.PhEnd}, api.OK)
		checkFault(t, "full", vols[:n-1], api.State{}, api.ErrMore)
		checkFault(t, "full", vols[1:], api.State{}, api.ErrLabel)
	}
	for _, v := range [][][]byte{vol(labelOf(t, "full", 1), all), vol(labelOf(t, "full", 999), all), vol(labelOf(t, "full", 100), all), all} {
		checkFault(t, "full", append(slices.Clone(empty), v), api.State{}, api.ErrLabel)
	}
	checkFault(t, "full", append(slices.Clone(empty), nil), api.State{}, api.ErrMore)
}

// Behind the stream's end nothing is looked at, neither in its volume, nor the volumes there.
func TestBehindTheEnd(t *testing.T) {
	end := api.State{Phase: api.PhEnd}
	for _, nodes := range []tree{nil, {file("a", 1000)}, full()} {
		all := streamOf(t, nodes)
		first := vol(labelOf(t, "full", 1), all)
		for _, junk := range [][]byte{nil, {}, {1}, make([]byte, 511), make([]byte, 512), make([]byte, 513), bytes.Repeat([]byte{'x'}, 512), labelOf(t, "full", 2), all[0]} {
			checkEnds(t, "full", [][][]byte{append(slices.Clone(first), junk)}, all, end, api.OK)
			checkEnds(t, "full", [][][]byte{append(slices.Clone(first), junk, nil, junk, all[0])}, all, end, api.OK)
			checkEnds(t, "full", [][][]byte{first, {junk}}, all, end, api.OK)
			checkEnds(t, "full", [][][]byte{first, {labelOf(t, "full", 2), junk}, {}, nil, {junk, junk}}, all, end, api.OK)
		}
		for _, v := range [][][]byte{nil, {}, first, vol(labelOf(t, "full", 2)), vol(labelOf(t, "full", 2), all), vol(labelOf(t, "full", 2), moreOf(t, file("a", 1000), 512)), vol(labelOf(t, "other", 1))} {
			checkEnds(t, "full", [][][]byte{first, v}, all, end, api.OK)
			checkEnds(t, "full", [][][]byte{first, v, v}, all, end, api.OK)
		}
	}
	// A fault ahead of it is told, though.
	all := streamOf(t, nil)
	checkFault(t, "full", [][][]byte{vol(labelOf(t, "full", 1), all[0]), nil, vol(labelOf(t, "full", 2), all[1])}, api.State{Phase: api.PhZero}, api.ErrMore)
}

// Blocks that are none where a header comes, a file's bytes, a long text, or noughts: parse tells why, and the state is that ahead of them.
func TestFaultsOfTheStream(t *testing.T) {
	n := file("a", 1000)
	nodes := tree{n, dir("b"), file("b/c", 5)}
	all := streamOf(t, nodes) // 0 a, 1 and 2 its bytes, 3 b, 4 b/c, 5 its bytes, 6 and 7 noughts
	sum := bytes.Clone(all[4])
	sum[0] ^= 1
	unsafe, _ := head.Put(api.Head{Name: "a/../b", Size: 5, Type: '0'})
	great, _ := head.Put(api.Head{Name: "a", Size: 4001, Type: '0'})
	strange, _ := head.Put(api.Head{Name: "a", Type: 'M'})
	for _, x := range []struct {
		b    []byte
		want api.Errno
	}{{nil, api.ErrArg}, {all[4][:511], api.ErrArg}, {append(bytes.Clone(all[4]), 0), api.ErrArg}, {sum, api.ErrSum}, {unsafe, api.ErrName}, {great, api.ErrForm}, {strange, api.ErrType}, {labelOf(t, "full", 2), api.ErrType}, {[]byte(n.Data[:512]), api.ErrSum}} {
		// In the midst of a volume, first behind the label, and last.
		checkFault(t, "full", [][][]byte{vol(labelOf(t, "full", 1), all[:4], [][]byte{x.b}, all[5:])}, api.State{}, x.want)
		checkFault(t, "full", [][][]byte{vol(labelOf(t, "full", 1), all[:4]), vol(labelOf(t, "full", 2), [][]byte{x.b}, all[5:])}, api.State{}, x.want)
		checkFault(t, "full", [][][]byte{vol(labelOf(t, "full", 1), all[:4], [][]byte{x.b}), vol(labelOf(t, "full", 2), all[5:])}, api.State{}, x.want)
	}
	data := api.State{Phase: api.PhData, Node: file("a", 0), Size: 1000, Left: 488}
	for _, b := range [][]byte{nil, {}, all[2][:511], append(bytes.Clone(all[2]), 0), make([]byte, 1024)} {
		checkFault(t, "full", [][][]byte{vol(labelOf(t, "full", 1), all[:2], [][]byte{b}, all[3:])}, data, api.ErrArg)
		checkFault(t, "full", [][][]byte{vol(labelOf(t, "full", 1), all[:2]), vol(labelOf(t, "full", 2), moreOf(t, n, 512), [][]byte{b}, all[3:])}, data, api.ErrArg)
		checkFault(t, "full", [][][]byte{vol(labelOf(t, "full", 1), all[:6], [][]byte{b})}, api.State{}, api.ErrArg)
		checkFault(t, "full", [][][]byte{vol(labelOf(t, "full", 1), all[:7], [][]byte{b})}, api.State{Phase: api.PhZero}, api.ErrArg)
	}
	checkFault(t, "full", [][][]byte{vol(labelOf(t, "full", 1), all[:7], all[0])}, api.State{Phase: api.PhZero}, api.ErrForm)
	checkFault(t, "full", [][][]byte{vol(labelOf(t, "full", 1), all[:7]), vol(labelOf(t, "full", 2), all[0])}, api.State{Phase: api.PhZero}, api.ErrForm)
	// Without the end of its bytes, what comes next is taken for them.
	checkStrip(t, "full", [][][]byte{vol(labelOf(t, "full", 1), all[:2], all[3:])})
	named := streamOf(t, tree{sym(wide("a", 150), letters(150))}) // 0 and 1 the link, 2 and 3 the name, 4 the header
	for i := range 5 {
		spoilt := slices.Clone(named)
		spoilt[i] = bytes.Repeat([]byte{'x'}, 512)
		err := api.ErrSum
		if i == 1 || i == 3 {
			err = api.ErrForm
		}
		s := behind(tree{sym(wide("a", 150), letters(150))}, i)
		checkFault(t, "full", [][][]byte{vol(labelOf(t, "full", 1), spoilt)}, s, err)
		checkFault(t, "full", [][][]byte{vol(labelOf(t, "full", 1), spoilt[:i]), vol(labelOf(t, "full", 2), spoilt[i:])}, s, err)
	}
}

// Each byte of a stream on three volumes, and each block's length.
func TestEachSpoiltByte(t *testing.T) {
	nodes := tree{file(wide("a", 101), 1000), sym("b", letters(101))}
	vols := volumesOf(t, nodes, setOf(1, 5, 7, 200))
	if got := layout(vols); got != "V1 L d 0 d | V2 L d M512 d K d | V3 2 - -" {
		t.Fatalf("the volumes are %s", got)
	}
	counts := map[api.Errno]int{}
	for i, v := range vols {
		for j, b := range v {
			for _, c := range spoilt(b) {
				changed := slices.Clone(vols)
				changed[i] = slices.Clone(v)
				changed[i][j] = c
				counts[checkStrip(t, "full", changed)]++
			}
		}
	}
	for _, e := range []api.Errno{api.OK, api.ErrArg, api.ErrForm, api.ErrSum, api.ErrLabel, api.ErrCont} {
		if counts[e] == 0 {
			t.Errorf("no answer was %d", e)
		}
	}
}

// Volumes of other trees, of the same label: each takes another's place only where it goes on behind the same state.
func TestVolumesOfOtherTrees(t *testing.T) {
	numbered := file("a", 1000)
	numbered.Mode = 1
	longer := file("a", 1001)
	a := volumesOf(t, tree{file("a", 1000)}, setOf(1, 3, 200))
	data := api.State{Phase: api.PhData, Node: file("a", 0), Size: 1000, Left: 488}
	for _, other := range []api.Node{numbered, longer, file("b", 1000), file(wide("a", 101), 1000), file("a", 600)} {
		for _, caps := range [][]int{{3, 200}, {2, 200}, {5, 200}, {4, 200}} {
			b, e := volume.Split(tree{other}, setOf(1, caps...))
			if e != api.OK || len(b) < 2 {
				continue
			}
			checkGoesOnNowhere(t, a[0], b[1], data)
		}
	}
	// The second volume of the same file, with other bytes.
	other := api.Node{Path: "a", Kind: '0', Data: strings.Repeat("x", 1000)}
	b := volumesOf(t, tree{other}, setOf(1, 3, 200))
	checkEnds(t, "full", [][][]byte{a[0], b[1]}, vol(a[0][1:], b[1][2:]), api.State{Phase: api.PhEnd}, api.OK)
	// Behind a whole file, each volume that begins by a header goes on.
	a = volumesOf(t, tree{file("a", 5), file("b", 5)}, setOf(1, 3, 200))
	b = volumesOf(t, tree{file("c", 5), file("d", 5)}, setOf(1, 3, 200))
	checkEnds(t, "full", [][][]byte{a[0], b[1]}, vol(a[0][1:], b[1][1:]), api.State{Phase: api.PhEnd}, api.OK)
	b = volumesOf(t, tree{file("a", 5), file("b", 5)}, api.Set{Label: "fuller", B: 1, Caps: []int{3, 200}})
	checkFault(t, "full", [][][]byte{a[0], b[1]}, api.State{}, api.ErrLabel)
	checkFault(t, "fuller", [][][]byte{a[0], b[1]}, api.State{}, api.ErrLabel)
	checkFault(t, "full", [][][]byte{b[0], a[1]}, api.State{}, api.ErrLabel)
}

// checkGoesOnNowhere fails if a second volume goes on behind a state in a file's bytes.
func checkGoesOnNowhere(t *testing.T, a, b [][]byte, s api.State) {
	t.Helper()
	if e := checkOne(t, s, "full", 2, b); e != api.ErrCont {
		t.Errorf("One of %s = %d", layout([][][]byte{b}), e)
	}
	checkFault(t, "full", [][][]byte{a, b}, s, api.ErrCont)
}

// change does something to volumes, by chance.
func change(r *rand.Rand, vols, others [][][]byte) [][][]byte {
	vols = cloned(vols)
	i, k := r.Intn(len(vols)), r.Intn(len(vols))
	v := vols[i]
	j := r.Intn(len(v))
	switch r.Intn(12) {
	case 0:
		vols[i], vols[k] = vols[k], vols[i]
	case 1:
		return slices.Insert(vols, i, vols[k])
	case 2:
		return slices.Delete(vols, i, i+1)
	case 3:
		vols[i] = others[r.Intn(len(others))]
	case 4, 5:
		v[j][r.Intn(512)] ^= byte(1 + r.Intn(255))
	case 6:
		v[j] = v[j][:r.Intn(512)]
	case 7:
		vols[i] = slices.Delete(v, j, j+1)
	case 8:
		vols[i] = slices.Insert(v, j, v[r.Intn(len(v))])
	case 9:
		vols[i] = v[:j]
	case 10:
		w := vols[k]
		v[j] = w[r.Intn(len(w))]
	case 11:
		return vols[:i]
	}
	return vols
}

func TestAllSortsOfVolumes(t *testing.T) {
	r := rand.New(rand.NewSource(17))
	counts := map[api.Errno]int{}
	for range 2000 {
		nodes := someTree(r)
		vols := someVolumes(r, nodes)
		counts[checkStrip(t, "full", vols)]++
		others := someVolumes(r, someTree(r))
		for range 4 {
			counts[checkStrip(t, "full", change(r, vols, others))]++
		}
	}
	for _, e := range []api.Errno{api.OK, api.ErrArg, api.ErrMore, api.ErrLabel, api.ErrCont, api.ErrSum} {
		if counts[e] < 50 {
			t.Errorf("only %d of the answers were %d", counts[e], e)
		}
	}
}

// P17.3

// sets are sets of all sorts, often with several small volumes.
func sets() []api.Set {
	list := []api.Set{setOf(1, 200, 200), setOf(20, 200), setOf(20, repeated(12, 2)...), setOf(20, repeated(12, 1)...), setOf(1, repeated(12, 5)...), setOf(1, 6, 2, 9, 30, 5, 5, 5, 200, 200, 1), setOf(3, 2, 3, 2, 3, 5, 5, 200, 2, 2, 200, 200), setOf(7, 200), setOf(5, 1, 2, 3, 4, 5, 6, 7, 8, 9, 10, 11, 12)}
	for _, records := range []int{2, 3, 4, 5, 7, 30} {
		list = append(list, setOf(1, append(repeated(11, records), 200)...), setOf(2, repeated(12, records)...))
	}
	return list
}

// checkFollows holds the volumes of a tree against what follows.
func checkFollows(t *testing.T, nodes tree, s api.Set) {
	t.Helper()
	vols, e := volume.Split(nodes, s)
	all := streamOf(t, nodes)
	if e == api.OK {
		checkEnds(t, s.Label, vols, all, api.State{Phase: api.PhEnd}, api.OK)
	}
	pos := 0
	for k, v := range vols {
		state := behind(nodes, pos)
		begin, _ := volume.Begin(nodes, s, pos, k+1)
		if state.Phase == api.PhEnd {
			t.Fatalf("volume %d of %s, %v has noughts alone", k+1, nodes.show(), s)
		}
		// Those ahead are too few, and of all of them this one alone goes on there.
		checkEnds(t, s.Label, vols[:k], nil, state, api.ErrMore)
		for i, w := range vols {
			err := api.ErrLabel
			if i == k {
				err = api.OK
			}
			if n, e := One(state, s.Label, k+1, w); e != err || e == api.OK && n != len(begin) {
				t.Errorf("One of volume %d in the place of %d of %s, %v = %d, %d", i+1, k+1, nodes.show(), s, n, e)
			}
			if i != k {
				changed := slices.Clone(vols)
				changed[k] = w
				checkEnds(t, s.Label, changed, nil, state, api.ErrLabel)
				changed[i] = v
				checkEnds(t, s.Label, changed, nil, behindFirst(nodes, vols, s, min(i, k)), api.ErrLabel)
			}
		}
		twice := slices.Insert(slices.Clone(vols), k, v)
		if k+1 < len(vols) {
			checkEnds(t, s.Label, twice, nil, behind(nodes, pos+len(v)-len(begin)), api.ErrLabel)
			checkEnds(t, s.Label, slices.Delete(slices.Clone(vols), k, k+1), nil, state, api.ErrLabel)
		}
		pos += len(v) - len(begin)
	}
}

// behindFirst is the state behind so many of a tree's volumes, not all.
func behindFirst(nodes tree, vols [][][]byte, s api.Set, many int) api.State {
	pos := 0
	for k, v := range vols[:many] {
		begin, _ := volume.Begin(nodes, s, pos, k+1)
		pos += len(v) - len(begin)
	}
	return behind(nodes, pos)
}

func TestWhatFollows(t *testing.T) {
	for _, nodes := range allTrees() {
		for _, s := range sets() {
			checkFollows(t, nodes, s)
		}
	}
	r := rand.New(rand.NewSource(18))
	for range 150 {
		s := setOf(1+r.Intn(5), repeated(12, 1+r.Intn(9))...)
		s.Label = letters(1 + r.Intn(88))
		checkFollows(t, someTree(r), s)
	}
}

// R3

// checkUnshared writes over one block at a time, and behind it, and holds all others, and the volumes, against what they were.
func checkUnshared(t *testing.T, vols [][][]byte) {
	t.Helper()
	was := cloned(vols)
	want, e := Strip("full", vols)
	if e != api.OK {
		t.Fatalf("Strip of %s = %d", layout(vols), e)
	}
	for i := range want {
		got, _ := Strip("full", vols)
		whole := got[i][:cap(got[i])]
		for at := range whole {
			whole[at] = 'x'
		}
		got[i] = want[i]
		if !block.Same(got, want) {
			t.Fatalf("other blocks have changed with block %d", i)
		}
		if !volume.Same(vols, was) {
			t.Fatalf("the volumes have changed with block %d", i)
		}
		got = got[:cap(got)]
		for at := range got {
			got[at] = nil
		}
		if !volume.Same(vols, was) {
			t.Fatal("the volumes have changed with the list")
		}
	}
	for _, v := range vols {
		for _, b := range v {
			clear(b)
		}
		clear(v)
	}
	again, _ := Strip("full", was)
	if !block.Same(again, want) {
		t.Fatal("the blocks have changed with the volumes")
	}
}

func TestTheBlocksAreOfMemoryOfTheirOwn(t *testing.T) {
	for _, nodes := range []tree{nil, {file("a", 1000)}, {file(wide("a", 101), 1000), dir("b")}, full()} {
		checkUnshared(t, volumesOf(t, nodes, setOf(1, 200)))
		checkUnshared(t, volumesOf(t, nodes, setOf(3, 2, 3, 2, 3, 5, 5, 200, 2, 2, 200, 200)))
		checkUnshared(t, volumesOf(t, nodes, setOf(20, repeated(12, 1)...)))
	}
}

// One block given at several places of the volumes is several ones in the answer.
func TestOneBlockGivenTwice(t *testing.T) {
	zero := make([]byte, 512)
	got, e := Strip("full", [][][]byte{{labelOf(t, "full", 1), zero, zero}})
	if e != api.OK || len(got) != 2 {
		t.Fatalf("Strip = %d blocks, %d", len(got), e)
	}
	got[0][0] = 1
	if got[1][0] != 0 || zero[0] != 0 {
		t.Error("two blocks of the answer are one")
	}
}

// roomy are the same volumes; behind each block, each volume and all of them lies something else.
func roomy(vols [][][]byte) [][][]byte {
	list := make([][][]byte, 0, len(vols)+3)
	for _, v := range vols {
		blocks := make([][]byte, 0, len(v)+3)
		for _, b := range v {
			whole := append(bytes.Clone(b), "something else"...)
			blocks = append(blocks, whole[:len(b)])
		}
		copy(blocks[len(v):len(v)+2], [][]byte{[]byte("one"), []byte("two")})
		list = append(list, blocks)
	}
	copy(list[len(vols):len(vols)+1], [][][]byte{{[]byte("three")}})
	return list
}

// spread are volumes with all that lies behind, in one text.
func spread(vols [][][]byte) string {
	var all []string
	for _, v := range vols[:cap(vols)] {
		for _, b := range v[:cap(v)] {
			all = append(all, fmt.Sprintf("%d:%s", len(b), b[:cap(b)]))
		}
	}
	return strings.Join(all, "\n")
}

func TestWhatIsHandedInStaysAsItWas(t *testing.T) {
	for _, nodes := range allTrees() {
		for _, s := range []api.Set{setOf(1, 200, 200), setOf(2, 6, 2, 9, 30, 200), setOf(20, repeated(12, 2)...)} {
			vols, e := volume.Split(nodes, s)
			given := roomy(vols)
			was := spread(given)
			want, _, _ := wantStrip("full", vols)
			got, err := Strip("full", given)
			if e == api.OK && (err != api.OK || !block.Same(got, want)) {
				t.Errorf("Strip of volumes among other things = %d blocks, %d", len(got), err)
			}
			Strip("full", given[:max(len(given)-1, 0)])
			Strip("other", given)
			Left("full", given)
			for i, v := range given {
				for _, state := range states() {
					before := state
					One(state, "full", i+1, v)
					One(state, "full", i+2, v)
					if state != before {
						t.Error("a state has changed")
					}
				}
			}
			if spread(given) != was {
				t.Errorf("volumes of %s, %v have changed", nodes.show(), s)
			}
		}
	}
}

// R5

func TestTheSameAgainWhateverWasAsked(t *testing.T) {
	vols := volumesOf(t, full(), setOf(3, 7, 5, 4, 30))
	all := streamOf(t, full())
	short := vols[:2]
	for _, other := range [][][][]byte{nil, {nil}, {{nil}}, vols[1:], vols[:1], volumesOf(t, greatest(), setOf(20, 200)), {vols[0], vols[0]}, {vols[0], {vols[1][0], nil}}} {
		Strip("full", other)
		Left("full", other)
		Strip("other", vols)
		One(api.State{}, "full", 3, vols[1])
		checkEnds(t, "full", vols, all, api.State{Phase: api.PhEnd}, api.OK)
		checkStrip(t, "full", short)
		checkIs(t, api.State{}, "full", 1, vols[0], 1, api.OK)
	}
}

// R6

// Lists without elements are the same, whether they are nil or empty.
func TestNilAndEmpty(t *testing.T) {
	for _, s := range states() {
		a, e := One(s, "full", 1, nil)
		b, f := One(s, "full", 1, [][]byte{})
		if a != b || e != f {
			t.Errorf("One of %s = %d, %d of nil, %d, %d of an empty volume", tell(s), a, e, b, f)
		}
	}
	own := labelOf(t, "full", 1)
	for _, b := range [][]byte{nil, {}} {
		checkFault(t, "full", [][][]byte{{b}}, api.State{}, api.ErrLabel)
		checkFault(t, "full", [][][]byte{{own, b}}, api.State{}, api.ErrArg)
	}
}
