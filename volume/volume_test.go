package volume

import (
	"bytes"
	"encoding/binary"
	"fmt"
	"math"
	"math/rand"
	"slices"
	"strings"
	"testing"

	"reelkeeper/api"
	"reelkeeper/block"
	"reelkeeper/entry"
	"reelkeeper/head"
	"reelkeeper/label"
	"reelkeeper/read"
	"reelkeeper/stream"
	"reelkeeper/tree"
)

const most = 1099511627776 // 2^40

// letters is a text of so many bytes, without a slash. Those beside each other differ, so that one left out or told twice is seen.
func letters(n int) string {
	return strings.Repeat("abcdefghijklmnopqrstuvwxyz", n/26+1)[:n]
}

// numbers is likewise, of the numbers of its own pieces of 8 bytes: each of its blocks differs from the others.
func numbers(n int) string {
	var s strings.Builder
	for i := 0; s.Len() < n; i++ {
		fmt.Fprintf(&s, "%7d,", i)
	}
	return s.String()[:n]
}

// wide is a path of so many bytes that begins by a text.
func wide(first string, n int) string {
	return first + letters(n-len(first))
}

func file(p string, size int) api.Node { return api.Node{Path: p, Kind: '0', Data: numbers(size)} }

func hard(p, link string) api.Node { return api.Node{Path: p, Link: link, Kind: '1'} }

func sym(p, link string) api.Node { return api.Node{Path: p, Link: link, Kind: '2'} }

func dir(p string) api.Node { return api.Node{Path: p, Kind: '5'} }

func setOf(b int, caps ...int) api.Set { return api.Set{Label: "full", B: b, Caps: caps} }

// repeated are so many capacities alike.
func repeated(n, records int) []int {
	return slices.Repeat([]int{records}, n)
}

// sample is a node, and how many blocks it takes: ahead of its header, and for its bytes.
type sample struct {
	node        api.Node
	ahead, data int
}

func nodesOf(list []sample) []api.Node {
	var nodes []api.Node
	for _, x := range list {
		nodes = append(nodes, x.node)
	}
	return nodes
}

// many is how many blocks the stream of samples has.
func many(list []sample) int {
	n := 2
	for _, x := range list {
		n += x.ahead + 1 + x.data
	}
	return n
}

// show tells nodes in a line, long texts by their beginning.
func show(list []api.Node) string {
	var all []string
	for _, n := range list {
		all = append(all, fmt.Sprintf("{%.20q (%d) kind %q link %.20q (%d) %d %d %d %d data (%d)}", n.Path, len(n.Path), n.Kind, n.Link, len(n.Link), n.Mode, n.Uid, n.Gid, n.Mtime, len(n.Data)))
	}
	return fmt.Sprint(len(list), " nodes ", strings.Join(all, " "))
}

// word tells a block: a label's number, what goes on and where, a header's type, bytes, or noughts.
func word(b []byte) string {
	h, e := head.Get(b)
	switch {
	case e == api.ErrZero:
		return "-"
	case e != api.OK:
		return "d"
	case h.Type == 'V':
		return "V" + h.Name[strings.LastIndex(h.Name, " ")+1:]
	case h.Type == 'M':
		return fmt.Sprintf("M%d", h.Off)
	}
	return string([]byte{h.Type})
}

// layout tells volumes, block by block.
func layout(vols [][][]byte) string {
	var all []string
	for _, v := range vols {
		var words []string
		for _, b := range v {
			words = append(words, word(b))
		}
		all = append(all, strings.Join(words, " "))
	}
	return strings.Join(all, " | ")
}

// wantField is a number's field.
func wantField(n, wide int) []byte {
	if digits := fmt.Sprintf("%0*o", wide-1, n); len(digits) < wide {
		return append([]byte(digits), 0)
	}
	whole := binary.BigEndian.AppendUint64(make([]byte, 12), uint64(n))
	field := whole[len(whole)-wide:]
	field[0] = 128
	return field
}

// wantBlock is the block of a header without prefix and link.
func wantBlock(h api.Head) []byte {
	b := make([]byte, 512)
	copy(b, h.Name)
	copy(b[100:], wantField(h.Mode, 8))
	copy(b[108:], wantField(h.Uid, 8))
	copy(b[116:], wantField(h.Gid, 8))
	copy(b[124:], wantField(h.Size, 12))
	copy(b[136:], wantField(h.Mtime, 12))
	copy(b[148:], "        ")
	b[156] = h.Type
	copy(b[257:], []byte{'u', 's', 't', 'a', 'r', 0, 48, 48})
	if h.Type == 'M' {
		copy(b[369:], wantField(h.Off, 12))
		copy(b[483:], wantField(h.Real, 12))
	}
	sum := 0
	for _, x := range b {
		sum += int(x)
	}
	copy(b[148:], fmt.Sprintf("%06o\x00 ", sum))
	return b
}

func wantLabel(label string, n int) []byte {
	return wantBlock(api.Head{Name: fmt.Sprintf("%s Volume %d", label, n), Type: 'V'})
}

// wantMore are the blocks which say that a file goes on at a place.
func wantMore(n api.Node, off int) [][]byte {
	h := api.Head{Name: n.Path, Mode: n.Mode, Uid: n.Uid, Gid: n.Gid, Mtime: n.Mtime, Size: len(n.Data) - off, Type: 'M', Off: off, Real: len(n.Data)}
	if len(n.Path) <= 100 {
		return [][]byte{wantBlock(h)}
	}
	h.Name = n.Path[:100]
	text := make([]byte, 512)
	copy(text, n.Path)
	return [][]byte{wantBlock(api.Head{Name: "././@LongLink", Size: len(n.Path) + 1, Type: 'L'}), text, wantBlock(h)}
}

// part is a block of a stream, and what says that a file goes on there.
type part struct {
	block  []byte
	goesOn [][]byte
}

// partsOf are the blocks of the stream of samples that are a tree.
func partsOf(list []sample) []part {
	var parts []part
	for _, x := range list {
		put, _ := entry.Put(x.node)
		for i, b := range put {
			p := part{block: b}
			if j := i - x.ahead - 1; j >= 0 {
				p.goesOn = wantMore(x.node, j*512)
			}
			parts = append(parts, p)
		}
	}
	return append(parts, part{block: make([]byte, 512)}, part{block: make([]byte, 512)})
}

// wantSplit lays block by block into the volume at hand, as a writer does, and takes another one if that has room for no more.
func wantSplit(list []sample, s api.Set) ([][][]byte, api.Errno) {
	var vols [][][]byte
	room := 0
	for _, p := range partsOf(list) {
		if room == 0 {
			if len(vols) == len(s.Caps) {
				return vols, api.ErrMedia
			}
			begin := append([][]byte{wantLabel(s.Label, len(vols)+1)}, p.goesOn...)
			if room = s.B*s.Caps[len(vols)] - len(begin); room <= 0 {
				return vols, api.ErrSmall
			}
			vols = append(vols, begin)
		}
		last := &vols[len(vols)-1]
		*last = append(*last, p.block)
		room--
	}
	last := &vols[len(vols)-1]
	for len(*last)%s.B > 0 {
		*last = append(*last, make([]byte, 512))
	}
	return vols, api.OK
}

// areSame compares volumes, byte by byte.
func areSame(a, b [][][]byte) bool {
	if len(a) != len(b) {
		return false
	}
	for i := range a {
		if len(a[i]) != len(b[i]) {
			return false
		}
		for j := range a[i] {
			if !bytes.Equal(a[i][j], b[i][j]) {
				return false
			}
		}
	}
	return true
}

// cloned are the same volumes, in memory of their own.
func cloned(vols [][][]byte) [][][]byte {
	var list [][][]byte
	for _, v := range vols {
		var blocks [][]byte
		for _, b := range v {
			blocks = append(blocks, bytes.Clone(b))
		}
		list = append(list, blocks)
	}
	return list
}

// checkSplit holds Split and Needs of a tree and a set that may be against what they have to answer.
func checkSplit(t *testing.T, list []sample, s api.Set) ([][][]byte, api.Errno) {
	t.Helper()
	nodes := nodesOf(list)
	want, err := wantSplit(list, s)
	got, e := Split(nodes, s)
	if e != err || !areSame(got, want) {
		t.Errorf("Split of %s, %v = %s, %d; want %s, %d", show(nodes), s, layout(got), e, layout(want), err)
	}
	needs := -1
	if err == api.OK {
		needs = len(want)
	}
	if n := Needs(nodes, s); n != needs {
		t.Errorf("Needs of %s, %v = %d; want %d", show(nodes), s, n, needs)
	}
	return got, e
}

// checkNothing fails if Split or Needs answers anything of a tree or a set that may not be.
func checkNothing(t *testing.T, nodes []api.Node, s api.Set) {
	t.Helper()
	if got, e := Split(nodes, s); e != api.ErrArg || len(got) != 0 {
		t.Errorf("Split of %s, %v = %d volumes, %d; want none, ErrArg", show(nodes), s, len(got), e)
	}
	if n := Needs(nodes, s); n != -1 {
		t.Errorf("Needs of %s, %v = %d; want -1", show(nodes), s, n)
	}
}

// checkBegin holds Begin at all places of a tree's stream against what it has to answer.
func checkBegin(t *testing.T, list []sample, s api.Set, n int) {
	t.Helper()
	nodes := nodesOf(list)
	for pos, p := range partsOf(list) {
		want := append([][]byte{wantLabel(s.Label, n)}, p.goesOn...)
		if got, ok := Begin(nodes, s, pos, n); !ok || !areSame([][][]byte{got}, [][][]byte{want}) {
			t.Errorf("Begin of %s, %v, %d, %d = %q, %t; want %q", show(nodes), s, pos, n, got, ok, want)
		}
	}
}

// checkNoBegin fails if Begin answers anything.
func checkNoBegin(t *testing.T, nodes []api.Node, s api.Set, pos, n int) {
	t.Helper()
	if got, ok := Begin(nodes, s, pos, n); ok || len(got) != 0 {
		t.Errorf("Begin of %s, %v, %d, %d = %d blocks, %t; want none, false", show(nodes), s, pos, n, len(got), ok)
	}
}

// The trees

// full is a tree of 20 nodes, of all kinds and about all edges, those with long texts also first, in the midst and last.
func full() []sample {
	target, folder := "D/"+wide("d", 298), wide("F", 101)
	numbered := file("C", 1)
	numbered.Mode, numbered.Uid, numbered.Gid, numbered.Mtime = 4095, most, most, most
	return []sample{
		{sym(wide("A", 150), letters(101)), 4, 0},
		{file("B", 0), 0, 0},
		{numbered, 0, 1},
		{dir("D"), 0, 0},
		{file("D/a", 512), 0, 1},
		{file("D/b", 513), 0, 2},
		{hard("D/c", "D/b"), 0, 0},
		{file(target, 4000), 2, 8},
		{sym("D/e", letters(100)), 0, 0},
		{sym("D/f", letters(101)), 2, 0},
		{hard(wide("E", 120), target), 4, 0},
		{dir(folder), 2, 0},
		{file(folder+"/x", 1024), 0, 2},
		{dir("G"), 0, 0},
		{dir("G/h"), 0, 0},
		{sym("G/h/i", ".."), 0, 0},
		{file("G/h/j", 511), 0, 1},
		{file(wide("H", 100), 1025), 0, 3},
		{file("I", 0), 0, 0},
		{sym(wide("J", 300), letters(300)), 4, 0},
	}
}

// greatest is a tree of as many blocks as there are.
func greatest() []sample {
	var list []sample
	for i := range 20 {
		list = append(list, sample{file(wide(string(rune('a'+i)), 300), 4000), 2, 8})
	}
	return list
}

// fewer are trees of a few nodes.
func fewer() [][]sample {
	target := wide("a", 101)
	numbered := api.Node{Path: "a", Kind: '0', Mode: 420, Uid: 1000, Gid: 100, Mtime: 1700000000, Data: numbers(1000)}
	return [][]sample{
		nil,
		{{dir("a"), 0, 0}},
		{{sym("a", "b"), 0, 0}},
		{{file("a", 0), 0, 0}},
		{{file("a", 1), 0, 1}},
		{{file("a", 512), 0, 1}},
		{{file("a", 513), 0, 2}},
		{{numbered, 0, 2}},
		{{file("a", 1025), 0, 3}},
		{{file("a", 4000), 0, 8}},
		{{api.Node{Path: "a", Kind: '0', Data: strings.Repeat("\x00", 2000)}, 0, 4}},
		{{file(wide("a", 100), 2000), 0, 4}},
		// Its bytes are blocks that volumes have as well.
		{{api.Node{Path: "a", Kind: '0', Data: string(bytes.Join([][]byte{wantLabel("full", 2), make([]byte, 512), wantMore(numbered, 512)[0], wantLabel("full", 1), nil}, nil))}, 0, 4}},
		{{file(target, 2000), 2, 4}},
		{{file(wide("a", 300), 0), 2, 0}},
		{{file(wide("a", 300), 4000), 2, 8}},
		{{sym(wide("a", 101), letters(101)), 4, 0}},
		{{dir("a"), 0, 0}, {file("a/b", 5), 0, 1}},
		{{dir("a"), 0, 0}, {file("a/"+wide("b", 150), 1500), 2, 3}},
		{{dir(wide("a", 90)), 0, 0}, {file(wide("a", 90)+"/"+wide("b", 90), 1500), 0, 3}},
		{{file("a", 600), 0, 2}, {file("b", 1200), 0, 3}},
		{{file("a", 600), 0, 2}, {hard("b", "a"), 0, 0}, {file("c", 513), 0, 2}},
		{{file(target, 600), 2, 2}, {hard("b", target), 2, 0}, {file(wide("c", 200), 513), 2, 2}},
		{{file("a", 0), 0, 0}, {file("b", 1), 0, 1}, {sym("c", letters(200)), 2, 0}, {dir("d"), 0, 0}},
	}
}

// allTrees are all of these.
func allTrees() [][]sample {
	return append(fewer(), full(), greatest())
}

// noTrees may not be.
func noTrees() [][]api.Node {
	spoilt := func(change func(*api.Node)) []api.Node {
		n := file("a", 1000)
		change(&n)
		return []api.Node{n}
	}
	var many []api.Node
	for i := range 21 {
		many = append(many, file(fmt.Sprintf("f%02d", i), 1))
	}
	return [][]api.Node{
		{{}}, {file("", 5)}, {file("..", 5)}, {file("a/../b", 5)}, {file("/a", 5)}, {file("a\x00", 5)}, {file(wide("a", 301), 5)},
		{file("a/b", 5)}, {file("a", 4001)}, {file("b", 1), file("a", 1)}, {file("a", 1), file("a", 1)}, {file("a", 1), file("a/b", 1)},
		{hard("b", "a")}, {dir("a"), hard("b", "a")}, {sym("a", "")}, {sym("a", letters(301))},
		spoilt(func(n *api.Node) { n.Mode = 4096 }), spoilt(func(n *api.Node) { n.Mode = -1 }), spoilt(func(n *api.Node) { n.Uid = most + 1 }),
		spoilt(func(n *api.Node) { n.Gid = math.MinInt }), spoilt(func(n *api.Node) { n.Mtime = math.MaxInt }), spoilt(func(n *api.Node) { n.Kind = 'M' }), spoilt(func(n *api.Node) { n.Link = "b" }),
		many, slices.Repeat([]api.Node{file("a", 4000)}, 50000),
	}
}

// noSets may not be.
func noSets() []api.Set {
	list := []api.Set{{}, {Label: "full"}, {B: 1}, {B: 1, Caps: []int{10}}, {Label: "full", Caps: []int{10}}}
	for _, label := range []string{"", letters(89), letters(90), letters(500), "\x00", "a\x00", "\x00a", "a\x00b", letters(88) + "\x00"} {
		list = append(list, api.Set{Label: label, B: 1, Caps: []int{10}})
	}
	for _, b := range []int{0, -1, -2, -20, 21, 22, 40, 1 << 32, 1<<32 + 1, math.MinInt, math.MinInt + 1, math.MaxInt, math.MaxInt - 1} {
		list = append(list, setOf(b, 10))
	}
	for _, records := range []int{-1, -2, -200, 201, 202, 400, 1 << 32, 1<<32 + 10, math.MinInt, math.MaxInt} {
		list = append(list, setOf(1, records), setOf(1, records, 10), setOf(1, 10, records), setOf(1, 10, records, 10))
		list = append(list, setOf(1, append(repeated(11, 200), records)...), setOf(20, append([]int{records}, repeated(11, 200)...)...))
	}
	for _, n := range []int{13, 14, 24, 100, 1000000} {
		list = append(list, setOf(1, repeated(n, 10)...), setOf(20, repeated(n, 200)...), setOf(1, repeated(n, 0)...))
	}
	return list
}

// P16.1: May

func TestMayAtItsEdges(t *testing.T) {
	for _, x := range []struct {
		s    api.Set
		want bool
	}{
		{setOf(1), true}, {setOf(20), true}, {setOf(0), false}, {setOf(21), false}, {setOf(-1), false},
		{api.Set{Label: "full", B: 1, Caps: []int{}}, true},
		{setOf(1, 0), true}, {setOf(1, 1), true}, {setOf(1, 200), true}, {setOf(1, 201), false}, {setOf(1, -1), false},
		{setOf(1, 200, 200), true}, {setOf(1, 200, 201), false}, {setOf(1, 0, -1), false}, {setOf(1, -1, 0), false}, {setOf(1, 201, 200), false},
		{setOf(1, repeated(11, 5)...), true}, {setOf(1, repeated(12, 5)...), true}, {setOf(1, repeated(13, 5)...), false},
		{setOf(20, repeated(12, 200)...), true}, {setOf(20, repeated(12, 0)...), true}, {setOf(20, repeated(13, 0)...), false},
		{api.Set{Label: "", B: 1}, false}, {api.Set{Label: "a", B: 1}, true}, {api.Set{Label: letters(88), B: 1}, true}, {api.Set{Label: letters(89), B: 1}, false},
		{api.Set{Label: " ", B: 1}, true}, {api.Set{Label: "a\x00", B: 1}, false}, {api.Set{Label: "\xff\xfe", B: 1}, true}, {api.Set{Label: "a Volume 1", B: 1}, true},
		{api.Set{Label: strings.Repeat("é", 44), B: 1}, true}, {api.Set{Label: strings.Repeat("é", 45), B: 1}, false},
	} {
		if got := May(x.s); got != x.want {
			t.Errorf("May(%v) = %t; want %t", x.s, got, x.want)
		}
	}
	for _, s := range noSets() {
		if May(s) {
			t.Errorf("May of the label %.100q, B %d, %d capacities %.100v = true", s.Label, s.B, len(s.Caps), s.Caps)
		}
	}
}

func TestMayOfAllNumbers(t *testing.T) {
	for b := -30; b < 50; b++ {
		if got, want := May(setOf(b, 3)), b >= 1 && b <= 20; got != want {
			t.Errorf("May with B %d = %t", b, got)
		}
	}
	for records := -250; records < 450; records++ {
		for at := range 12 {
			caps := repeated(12, 7)
			caps[at] = records
			if got, want := May(setOf(7, caps...)), records >= 0 && records <= 200; got != want {
				t.Errorf("May with a capacity of %d at %d = %t", records, at, got)
			}
		}
	}
	for n := range 30 {
		if got, want := May(setOf(20, repeated(n, 200)...)), n <= 12; got != want {
			t.Errorf("May with %d capacities = %t", n, got)
		}
	}
	for n := range 120 {
		for _, label := range []string{letters(n), strings.Repeat(" ", n), strings.Repeat("\xff", n)} {
			if got, want := May(api.Set{Label: label, B: 1}), n >= 1 && n <= 88; got != want {
				t.Errorf("May with a label of %d bytes = %t", n, got)
			}
		}
	}
}

// P16.1: Begin

// The bytes are written out here, with the sums that they have.
func TestBeginByteByByte(t *testing.T) {
	zeros := func(n int) string { return strings.Repeat("\x00", n) }
	three := strings.Repeat("0000000\x00", 3)
	first := "full Volume 12" + zeros(86) + three + "00000000000\x00" + "00000000000\x00" + "010303\x00 " + "V" + zeros(100) + "ustar\x00" + "00" + zeros(247)
	second := "a" + zeros(99) + three + "00000000750\x00" + "00000000000\x00" + "010207\x00 " + "M" + zeros(100) + "ustar\x00" + "00" + zeros(104) + "00000001000\x00" + zeros(102) + "00000001750\x00" + zeros(17)
	nodes := []api.Node{file("a", 1000)}
	for pos, want := range map[int]string{0: first, 2: first + second, 3: first, 4: first} {
		got, ok := Begin(nodes, setOf(2, 10), pos, 12)
		if all := string(bytes.Join(got, nil)); !ok || all != want {
			t.Errorf("Begin at %d = %q, %t; want %q", pos, all, ok, want)
		}
	}
}

func TestBeginOfEachBlock(t *testing.T) {
	for _, list := range allTrees() {
		for _, n := range []int{1, 2, 12, 13, 999} {
			checkBegin(t, list, setOf(2, 10, 10), n)
		}
	}
}

func TestBeginTellsWhoseBlockItIs(t *testing.T) {
	list := []sample{{file("a", 600), 0, 2}, {hard("b", "a"), 0, 0}, {file(wide("c", 101), 513), 2, 2}, {dir("d"), 0, 0}, {sym("e", letters(101)), 2, 0}}
	want := []string{
		"V7", "V7 M0", "V7 M512", // the header, the two blocks of a's bytes
		"V7",
		"V7", "V7", "V7", "V7 L d M0", "V7 L d M512", // a long name's two, the header, the two blocks of c's bytes
		"V7",
		"V7", "V7", "V7", // a long link's two, the header
		"V7", "V7", // the noughts
	}
	for pos, w := range want {
		got, ok := Begin(nodesOf(list), setOf(1), pos, 7)
		if told := layout([][][]byte{got}); !ok || told != w {
			t.Errorf("Begin at %d = %s, %t; want %s", pos, told, ok, w)
		}
	}
	checkNoBegin(t, nodesOf(list), setOf(1), len(want), 7)
}

// Neither B nor the capacities have to do with what a volume begins with, if the set may be: not even how many capacities there are.
func TestBeginWhateverRoomThereIs(t *testing.T) {
	list := []sample{{file("a", 600), 0, 2}, {file(wide("c", 101), 513), 2, 2}}
	for b := 1; b <= 20; b++ {
		for _, caps := range [][]int{nil, {}, {0}, {1}, {200}, repeated(12, 0), repeated(12, 200)} {
			for _, n := range []int{1, 5, 12, 13, 999} {
				checkBegin(t, list, setOf(b, caps...), n)
			}
		}
	}
}

func TestBeginOfAllLabelsAndNumbers(t *testing.T) {
	list := []sample{{file("a", 600), 0, 2}}
	for n := 1; n <= 999; n++ {
		checkBegin(t, list, setOf(1), n)
	}
	for size := 1; size <= 88; size++ {
		for _, n := range []int{1, 10, 999} {
			checkBegin(t, list, api.Set{Label: letters(size), B: 1}, n)
			checkBegin(t, list, api.Set{Label: strings.Repeat("\xff", size), B: 1}, n)
		}
	}
	for _, label := range []string{" ", "a Volume 2", " Volume ", "é", "1", "\x01"} {
		checkBegin(t, list, api.Set{Label: label, B: 20}, 2)
	}
}

// noNumbers are of no volume.
func noNumbers() []int {
	return []int{0, -1, -2, -12, -999, 1000, 1001, 9999, 1 << 32, 1<<32 + 1, math.MinInt, math.MinInt + 1, math.MaxInt, math.MaxInt - 1}
}

func TestNumbersOfNoVolume(t *testing.T) {
	for _, list := range fewer() {
		for pos := -1; pos <= many(list); pos++ {
			for _, n := range noNumbers() {
				checkNoBegin(t, nodesOf(list), setOf(1, 10), pos, n)
			}
		}
	}
}

func TestPlacesOfNoBlock(t *testing.T) {
	for _, list := range allTrees() {
		all := many(list)
		for _, pos := range []int{-1, -2, -all, -512, all, all + 1, all + 2, 2 * all, all + 512, 1 << 32, 1<<32 + 1, math.MinInt, math.MinInt + 1, math.MaxInt, math.MaxInt - 1} {
			for _, n := range []int{1, 2, 999} {
				checkNoBegin(t, nodesOf(list), setOf(1, 10), pos, n)
			}
		}
		if got, ok := Begin(nodesOf(list), setOf(1, 10), all-1, 1); !ok || layout([][][]byte{got}) != "V1" {
			t.Errorf("Begin of %s at its last block = %s, %t", show(nodesOf(list)), layout([][][]byte{got}), ok)
		}
	}
}

func TestBeginOfWhatMayNotBe(t *testing.T) {
	for _, nodes := range noTrees() {
		for pos := -1; pos < 8; pos++ {
			checkNoBegin(t, nodes, setOf(1, 10), pos, 1)
		}
	}
	for _, s := range noSets() {
		for pos := -1; pos < 8; pos++ {
			checkNoBegin(t, []api.Node{file("a", 1000)}, s, pos, 1)
			checkNoBegin(t, nil, s, pos, 2)
		}
	}
}

// P16.2

func TestTheExample(t *testing.T) {
	got, e := Split(nil, setOf(2, 2))
	want := [][][]byte{{wantLabel("full", 1), make([]byte, 512), make([]byte, 512), make([]byte, 512)}}
	if e != api.OK || !areSame(got, want) {
		t.Errorf("Split of the empty tree = %s, %d", layout(got), e)
	}
}

// The document's examples of the whole.
func TestTheExamplesOfTheWhole(t *testing.T) {
	nodes := []api.Node{dir("a"), {Path: "a/b", Kind: '0', Data: "bytes"}}
	stands := func(parts ...string) []byte {
		b := make([]byte, 512)
		at := 0
		for _, p := range parts {
			at += copy(b[at:], p)
		}
		return b
	}
	zeros := func(n int) string { return strings.Repeat("\x00", n) }
	three := strings.Repeat("0000000\x00", 3)
	want := [][][]byte{
		{
			stands("full Volume 1", zeros(87), three, "00000000000\x0000000000000\x00", "010221\x00 ", "V", zeros(100), "ustar\x0000"),
			stands("a", zeros(99), three, "00000000000\x0000000000000\x00", "006065\x00 ", "5", zeros(100), "ustar\x0000"),
			stands("a/b", zeros(97), three, "00000000005\x0000000000000\x00", "006306\x00 ", "0", zeros(100), "ustar\x0000"),
			stands("bytes"),
		},
		{
			stands("full Volume 2", zeros(87), three, "00000000000\x0000000000000\x00", "010222\x00 ", "V", zeros(100), "ustar\x0000"),
			stands(), stands(),
		},
	}
	if got, e := Split(nodes, setOf(1, 4, 4)); e != api.OK || !areSame(got, want) {
		t.Errorf("Split = %q, %d; want %q", got, e, want)
	}
	second := stands("a", zeros(99), three, "00000000750\x0000000000000\x00", "010207\x00 ", "M", zeros(100), "ustar\x0000", zeros(104), "00000001000\x00", zeros(102), "00000001750\x00")
	got, e := Split([]api.Node{file("a", 1000)}, setOf(1, 3, 5))
	if e != api.OK || len(got) != 2 || len(got[1]) != 5 || !bytes.Equal(got[1][1], second) {
		t.Errorf("Split of a file of 1000 bytes = %q, %d; want %q behind the second label", got, e, second)
	}
}

// splitCase is a tree, a set, and what its volumes are, block by block.
type splitCase struct {
	list []sample
	s    api.Set
	want string
	e    api.Errno
}

func checkCases(t *testing.T, cases []splitCase) {
	t.Helper()
	for _, x := range cases {
		got, e := checkSplit(t, x.list, x.s)
		if told := layout(got); told != x.want || e != x.e {
			t.Errorf("Split of %s, %v = %s, %d; want %s, %d", show(nodesOf(x.list)), x.s, told, e, x.want, x.e)
		}
	}
}

func TestTheEmptyTree(t *testing.T) {
	const ok, small, media = api.OK, api.ErrSmall, api.ErrMedia
	checkCases(t, []splitCase{
		{nil, setOf(1), "", media},
		{nil, setOf(20), "", media},
		{nil, setOf(1, 0), "", small},
		{nil, setOf(1, 1), "", small},
		{nil, setOf(1, 2), "V1 -", media},
		{nil, setOf(1, 2, 0), "V1 -", small},
		{nil, setOf(1, 2, 1), "V1 -", small},
		{nil, setOf(1, 2, 2), "V1 - | V2 -", ok},
		{nil, setOf(1, 2, 200), "V1 - | V2 -", ok},
		{nil, setOf(1, 3), "V1 - -", ok},
		{nil, setOf(1, 3, 0), "V1 - -", ok},
		{nil, setOf(1, 200), "V1 - -", ok},
		{nil, setOf(2, 0), "", small},
		{nil, setOf(2, 1), "V1 -", media},
		{nil, setOf(2, 1, 1), "V1 - | V2 -", ok},
		{nil, setOf(2, 2), "V1 - - -", ok},
		{nil, setOf(3, 1), "V1 - -", ok},
		{nil, setOf(4, 1), "V1 - - -", ok},
		{nil, setOf(5, 200), "V1 - - - -", ok},
		{nil, setOf(20, 0), "", small},
		{nil, setOf(20, 1), "V1" + strings.Repeat(" -", 19), ok},
		{nil, setOf(20, 0, 200), "", small},
	})
}

// A volume ends just behind a file's header, in the midst of its bytes, at its last block, just ahead of the noughts, and between them.
func TestWhereVolumesEnd(t *testing.T) {
	const ok, small, media = api.OK, api.ErrSmall, api.ErrMedia
	a := []sample{{file("a", 1000), 0, 2}}
	checkCases(t, []splitCase{
		{a, setOf(1, 6), "V1 0 d d - -", ok},
		{a, setOf(1, 5), "V1 0 d d -", media},
		{a, setOf(1, 5, 2), "V1 0 d d - | V2 -", ok},
		{a, setOf(1, 4, 3), "V1 0 d d | V2 - -", ok},
		{a, setOf(1, 4, 2), "V1 0 d d | V2 -", media},
		{a, setOf(1, 3, 5), "V1 0 d | V2 M512 d - -", ok},
		{a, setOf(1, 3, 2), "V1 0 d", small},
		{a, setOf(1, 3, 3), "V1 0 d | V2 M512 d", media},
		{a, setOf(1, 3, 3, 3), "V1 0 d | V2 M512 d | V3 - -", ok},
		{a, setOf(1, 2, 6), "V1 0 | V2 M0 d d - -", ok},
		{a, setOf(1, 2, 3, 3, 3), "V1 0 | V2 M0 d | V3 M512 d | V4 - -", ok},
		{a, setOf(1, 2, 3, 3, 2, 2), "V1 0 | V2 M0 d | V3 M512 d | V4 - | V5 -", ok},
		{a, setOf(1, 2, 3, 3, 2, 1), "V1 0 | V2 M0 d | V3 M512 d | V4 -", small},
		{a, setOf(2, 1, 2, 2), "V1 0 | V2 M0 d d | V3 - - -", ok},
		{a, setOf(2, 2, 2), "V1 0 d d | V2 - - -", ok},
		{a, setOf(2, 3), "V1 0 d d - -", ok},
		{a, setOf(3, 1, 1, 1), "V1 0 d | V2 M512 d | V3 - -", ok},
		{a, setOf(3, 1, 2), "V1 0 d | V2 M512 d - - -", ok},
		{a, setOf(5, 1, 1), "V1 0 d d - | V2 - - - -", ok},
	})
}

func TestLongNamesAndVolumes(t *testing.T) {
	const ok, small, media = api.OK, api.ErrSmall, api.ErrMedia
	a := []sample{{file(wide("a", 101), 1000), 2, 2}}
	parted := []sample{{dir(wide("a", 90)), 0, 0}, {file(wide("a", 90)+"/"+wide("b", 90), 1000), 0, 2}}
	link := []sample{{sym(wide("a", 150), letters(150)), 4, 0}}
	checkCases(t, []splitCase{
		{a, setOf(1, 8), "V1 L d 0 d d - -", ok},
		{a, setOf(1, 2, 7), "V1 L | V2 d 0 d d - -", ok},
		{a, setOf(1, 3, 6), "V1 L d | V2 0 d d - -", ok},
		{a, setOf(1, 4, 8), "V1 L d 0 | V2 L d M0 d d - -", ok},
		{a, setOf(1, 5, 7), "V1 L d 0 d | V2 L d M512 d - -", ok},
		{a, setOf(1, 5, 5, 3), "V1 L d 0 d | V2 L d M512 d | V3 - -", ok},
		{a, setOf(1, 5, 4), "V1 L d 0 d", small},
		{a, setOf(1, 5, 3), "V1 L d 0 d", small},
		{a, setOf(1, 5, 5), "V1 L d 0 d | V2 L d M512 d", media},
		{a, setOf(2, 2, 2), "V1 L d 0", small},
		{a, setOf(2, 2, 3, 3, 2), "V1 L d 0 | V2 L d M0 d d | V3 - - -", ok},
		{a, setOf(4, 1, 1), "V1 L d 0", small},
		{a, setOf(4, 1, 2), "V1 L d 0 | V2 L d M0 d d - -", ok},
		{a, setOf(4, 2), "V1 L d 0 d d - -", ok},
		// A prefix spares the header a long name, but not what goes on.
		{parted, setOf(1, 7), "V1 5 0 d d - -", ok},
		{parted, setOf(1, 3, 8), "V1 5 0 | V2 L d M0 d d - -", ok},
		{parted, setOf(1, 4, 7), "V1 5 0 d | V2 L d M512 d - -", ok},
		{parted, setOf(1, 4, 4), "V1 5 0 d", small},
		{link, setOf(1, 2, 2, 2, 2, 2, 3), "V1 K | V2 d | V3 L | V4 d | V5 2 | V6 - -", ok},
		{link, setOf(3, 1, 1, 1, 1), "V1 K d | V2 L d | V3 2 - | V4 - -", ok},
	})
}

// Each number of blocks that a volume may have room for, about those that it begins with.
func TestVolumesOfAllRooms(t *testing.T) {
	for _, x := range []struct {
		n     sample
		begin int
	}{
		{sample{file("a", 2000), 0, 4}, 2}, {sample{file(wide("a", 100), 2000), 0, 4}, 2}, {sample{file(wide("a", 101), 2000), 2, 4}, 4}, {sample{file(wide("a", 300), 2000), 2, 4}, 4},
	} {
		list := []sample{x.n}
		for data := range 4 {
			// The first volume ends just ahead of this block of bytes.
			first := 2 + x.n.ahead + data
			for room := range 12 {
				got, e := checkSplit(t, list, setOf(1, first, room))
				left := 4 - data + 2
				switch {
				case room <= x.begin && (e != api.ErrSmall || len(got) != 1):
					t.Errorf("Split with room for %d blocks, %d of which it begins with = %s, %d", room, x.begin, layout(got), e)
				case room > x.begin && room < x.begin+left && (e != api.ErrMedia || len(got) != 2 || len(got[1]) != room):
					t.Errorf("Split with room for %d blocks, %d of which it begins with = %s, %d", room, x.begin, layout(got), e)
				case room >= x.begin+left && (e != api.OK || len(got) != 2 || len(got[1]) != x.begin+left):
					t.Errorf("Split with room for %d blocks, %d of which it begins with = %s, %d", room, x.begin, layout(got), e)
				}
			}
		}
	}
}

func TestAllTreesAndOneCapacity(t *testing.T) {
	for _, list := range allTrees() {
		for b := 1; b <= 20; b++ {
			exact := (many(list) + b) / b // the label and the stream, in whole records
			for _, records := range []int{0, 1, 2, exact - 1, exact, exact + 1, 200} {
				if records >= 0 && records <= 200 {
					checkSplit(t, list, setOf(b, records))
				}
			}
		}
	}
}

func TestFewNodesAndAllSmallCapacities(t *testing.T) {
	lists := fewer()
	for _, list := range [][]sample{lists[0], lists[7], lists[13], lists[16], lists[21]} {
		for a := range 8 {
			for b := range 8 {
				for c := range 8 {
					checkSplit(t, list, setOf(1, a, b, c))
					checkSplit(t, list, setOf(3, a, b, c))
				}
			}
		}
	}
}

func TestTwelveCapacities(t *testing.T) {
	for _, list := range allTrees() {
		for _, b := range []int{1, 2, 3, 4, 5, 7, 10, 19, 20} {
			for _, records := range []int{1, 2, 3, 5, 8, 20, 200} {
				checkSplit(t, list, setOf(b, repeated(12, records)...))
				checkSplit(t, list, setOf(b, append(repeated(11, records), 0)...))
				checkSplit(t, list, setOf(b, append(repeated(5, records), 0, 200, 200)...))
			}
			checkSplit(t, list, setOf(b, 1, 2, 3, 4, 5, 6, 7, 8, 9, 10, 11, 12))
			checkSplit(t, list, setOf(b, 12, 11, 10, 9, 8, 7, 6, 5, 4, 3, 2, 1))
		}
	}
}

// A last volume that is full, and one that lacks one block of that; those of twelve that are all full.
func TestLastVolumes(t *testing.T) {
	for size := range 4001 {
		list := []sample{{file("a", size), 0, (size + 511) / 512}}
		for _, b := range []int{2, 4} {
			got, e := checkSplit(t, list, setOf(b, 1, 1, 1, 1, 1, 1, 1, 1, 1, 1, 1, 1))
			if e == api.OK && len(got[len(got)-1]) != b {
				t.Errorf("Split of a file of %d bytes, B %d = %s", size, b, layout(got))
			}
		}
	}
	const ok = api.OK
	checkCases(t, []splitCase{
		{[]sample{{file("a", 1), 0, 1}}, setOf(5, 1), "V1 0 d - -", ok},
		{[]sample{{file("a", 0), 0, 0}}, setOf(5, 1), "V1 0 - - -", ok},
		{[]sample{{file("a", 1), 0, 1}}, setOf(5, 3), "V1 0 d - -", ok},
		{[]sample{{file("a", 513), 0, 2}}, setOf(5, 3), "V1 0 d d - - - - - -", ok},
		{[]sample{{dir("a"), 0, 0}}, setOf(1, 2, 2, 2), "V1 5 | V2 - | V3 -", ok},
		{[]sample{{file("a", 4000), 0, 8}}, setOf(1, 2, 3, 3, 3, 3, 3, 3, 3, 3, 2, 2), "V1 0 | V2 M0 d | V3 M512 d | V4 M1024 d | V5 M1536 d | V6 M2048 d | V7 M2560 d | V8 M3072 d | V9 M3584 d | V10 - | V11 -", ok},
	})
}

func TestAllLabels(t *testing.T) {
	list := []sample{{file(wide("a", 101), 1000), 2, 2}}
	for size := 1; size <= 88; size++ {
		for _, label := range []string{letters(size), strings.Repeat("\xff", size), strings.Repeat(" ", size)} {
			checkSplit(t, list, api.Set{Label: label, B: 1, Caps: []int{4, 6, 3, 3}})
		}
	}
}

func TestWhatMayNotBe(t *testing.T) {
	for _, nodes := range noTrees() {
		for _, s := range []api.Set{setOf(1), setOf(1, 0), setOf(2, 5, 5), setOf(20, repeated(12, 200)...), setOf(0, 5), {}} {
			checkNothing(t, nodes, s)
		}
	}
	for _, s := range noSets() {
		checkNothing(t, nil, s)
		checkNothing(t, []api.Node{file("a", 1000)}, s)
		checkNothing(t, nodesOf(full()), s)
		checkNothing(t, []api.Node{file("..", 1)}, s)
	}
}

// What is behind the capacities that are needed has to be one that may be, all the same.
func TestCapacitiesThatAreNotNeeded(t *testing.T) {
	for _, records := range []int{-1, 201, math.MinInt, math.MaxInt} {
		checkNothing(t, nil, setOf(1, 200, records))
	}
	checkSplit(t, nil, setOf(1, 200, 0))
	checkSplit(t, nil, setOf(1, 200, 200))
}

func TestAllSortsOfTreesAndSets(t *testing.T) {
	r := rand.New(rand.NewSource(16))
	var counts [3]int
	for range 3000 {
		list := someTree(r)
		_, e := checkSplit(t, list, someSet(r))
		counts[map[api.Errno]int{api.OK: 0, api.ErrSmall: 1, api.ErrMedia: 2}[e]]++
	}
	for i, n := range counts {
		if n < 150 {
			t.Errorf("only %d of the answers were of sort %d", n, i)
		}
	}
}

// someTree is a tree of a few nodes, in one directory.
func someTree(r *rand.Rand) []sample {
	list := []sample{{file("a", 5), 0, 1}, {dir("b"), 0, 0}}
	for i := range r.Intn(7) {
		p := fmt.Sprintf("b/%d", i)
		ahead := 0
		if r.Intn(3) == 0 {
			p, ahead = wide(p, 103+r.Intn(198)), 2
		}
		switch r.Intn(6) {
		case 0:
			list = append(list, sample{hard(p, "a"), ahead, 0})
		case 1:
			list = append(list, sample{sym(p, letters(101)), ahead + 2, 0})
		case 2:
			list = append(list, sample{dir(p), ahead, 0})
		default:
			size := r.Intn(4001)
			list = append(list, sample{file(p, size), ahead, (size + 511) / 512})
		}
	}
	return list
}

// someSet has several capacities, often small ones.
func someSet(r *rand.Rand) api.Set {
	b := 1 + r.Intn(20)
	var caps []int
	for range r.Intn(13) {
		records := 1 + r.Intn(1+16/b)
		if r.Intn(12) == 0 {
			records = []int{0, 1, 200}[r.Intn(3)]
		}
		caps = append(caps, records)
	}
	return api.Set{Label: letters(1 + r.Intn(88)), B: b, Caps: caps}
}

// P16.3

func TestNeeds(t *testing.T) {
	a := []api.Node{file("a", 1000)}
	for _, x := range []struct {
		t    []api.Node
		s    api.Set
		want int
	}{
		{nil, setOf(2, 2), 1}, {nil, setOf(1, 2, 2), 2}, {nil, setOf(1, 2), -1}, {nil, setOf(1, 1), -1}, {nil, setOf(1), -1}, {nil, setOf(0, 2), -1}, {nil, api.Set{}, -1},
		{a, setOf(1, 6), 1}, {a, setOf(1, 6, 6, 6), 1}, {a, setOf(1, 5), -1}, {a, setOf(1, 5, 2), 2}, {a, setOf(1, 3, 3, 3), 3}, {a, setOf(1, 3, 3), -1}, {a, setOf(1, 3, 2), -1},
		{a, setOf(1, 2, 3, 3, 2, 2), 5}, {a, setOf(20, 1), 1}, {a, setOf(21, 1), -1},
		{[]api.Node{file("a", 4001)}, setOf(20, 200), -1},
		{nodesOf(greatest()), setOf(20, repeated(12, 1)...), -1}, {nodesOf(greatest()), setOf(20, repeated(12, 2)...), 6}, {nodesOf(greatest()), setOf(20, repeated(5, 2)...), -1}, {nodesOf(greatest()), setOf(20, 12), 1}, {nodesOf(greatest()), setOf(20, 11), -1},
	} {
		if got := Needs(x.t, x.s); got != x.want {
			t.Errorf("Needs of %s, %v = %d; want %d", show(x.t), x.s, got, x.want)
		}
	}
}

// some are volumes that differ from each other in one thing each.
func some() [][][][]byte {
	base := [][][]byte{{{1, 2}, {3, 4}}, {{5, 6}}}
	changed := func(change func(vols [][][]byte) [][][]byte) [][][]byte { return change(cloned(base)) }
	list := [][][][]byte{
		nil, base, base[:1], base[1:], {base[1], base[0]}, {base[0], base[1], base[1]}, {base[0], base[1], nil}, {nil, base[0], base[1]}, {nil}, {nil, nil}, {{nil}}, {{nil, nil}}, {{nil}, {nil}},
		{{{1, 2}, {3, 4}, {5, 6}}}, {{{1, 2}}, {{3, 4}, {5, 6}}}, {{{1, 2}}, {{3, 4}}, {{5, 6}}}, {{{1, 2, 3, 4}}, {{5, 6}}}, {{{1, 2}, {3, 4}, nil}, {{5, 6}}}, {{{1, 2, 0}, {3, 4}}, {{5, 6}}}, {{{1}, {3, 4}}, {{5, 6}}},
	}
	for i, v := range base {
		list = append(list, changed(func(vols [][][]byte) [][][]byte { return slices.Delete(vols, i, i+1)[:1:1] }))
		for j, b := range v {
			for k := range b {
				list = append(list, changed(func(vols [][][]byte) [][][]byte {
					vols[i][j][k] ^= 128
					return vols
				}))
			}
		}
	}
	return list
}

func TestSame(t *testing.T) {
	all := some()
	for _, a := range all {
		for _, b := range all {
			if got, want := Same(a, b), areSame(a, b); got != want {
				t.Errorf("Same(%v, %v) = %t", a, b, got)
			}
		}
		if !Same(a, cloned(a)) {
			t.Errorf("%v is not the same as its like", a)
		}
	}
}

func TestSameOfNone(t *testing.T) {
	for _, x := range []struct {
		a, b [][][]byte
		want bool
	}{
		{nil, nil, true}, {nil, [][][]byte{}, true}, {[][][]byte{}, nil, true}, {[][][]byte{nil}, [][][]byte{{}}, true}, {[][][]byte{{nil}}, [][][]byte{{{}}}, true},
		{nil, [][][]byte{nil}, false}, {[][][]byte{{}}, nil, false}, {[][][]byte{nil}, [][][]byte{nil, nil}, false}, {[][][]byte{nil}, [][][]byte{{nil}}, false}, {[][][]byte{{nil}}, [][][]byte{{nil, nil}}, false},
		{[][][]byte{{{}}}, [][][]byte{{{0}}}, false}, {[][][]byte{{{0}}}, [][][]byte{{{0, 0}}}, false}, {[][][]byte{{make([]byte, 512)}}, [][][]byte{{make([]byte, 512)}}, true},
	} {
		if got := Same(x.a, x.b); got != x.want {
			t.Errorf("Same(%v, %v) = %t", x.a, x.b, got)
		}
	}
}

func TestSameOfVolumes(t *testing.T) {
	nodes, s := nodesOf(full()), setOf(4, 3, 5, 200)
	vols, e := Split(nodes, s)
	if e != api.OK || len(vols) != 3 {
		t.Fatalf("Split = %d volumes, %d", len(vols), e)
	}
	again, _ := Split(nodes, s)
	if !Same(vols, again) || !Same(again, vols) {
		t.Error("the same volumes again are others")
	}
	for i, v := range again {
		for j, b := range v {
			for _, at := range []int{0, 200, 511} {
				b[at] ^= 1
				if Same(vols, again) || Same(again, vols) {
					t.Errorf("Same, though byte %d of block %d of volume %d is another one", at, j, i)
				}
				b[at] ^= 1
			}
			v[j] = b[:511]
			if Same(vols, again) {
				t.Errorf("Same, though block %d of volume %d is shorter", j, i)
			}
			v[j] = b
		}
		again[i] = v[:len(v)-1]
		if Same(vols, again) || Same(again, vols) {
			t.Errorf("Same, though volume %d is shorter", i)
		}
		again[i] = v
	}
	if Same(vols, again[:2]) || Same(again[:2], vols) || Same(vols, again[1:]) || Same(vols, append(again, nil)) {
		t.Error("Same, though there are more volumes, or fewer")
	}
}

// P16.4

// checkFollows holds volumes, all or the first ones, against what follows, by what the calls tell of each other.
func checkFollows(t *testing.T, list []sample, s api.Set) {
	t.Helper()
	nodes := nodesOf(list)
	vols, e := Split(nodes, s)
	all, _ := stream.All(nodes)
	var joined [][]byte
	for i, v := range vols {
		room := s.B * s.Caps[i]
		if len(v) > room || len(v)%s.B != 0 || (i < len(vols)-1 || e != api.OK) && len(v) != room {
			t.Errorf("volume %d of %s, %v has %d blocks", i+1, show(nodes), s, len(v))
		}
		begin, ok := Begin(nodes, s, len(joined), i+1)
		if !ok || len(begin) >= len(v) || !block.Same(v[:len(begin)], begin) {
			t.Errorf("volume %d of %s, %v doesn't begin as it has to", i+1, show(nodes), s)
			return
		}
		if name, n, e := label.Get(v[0]); name != s.Label || n != i+1 || e != api.OK {
			t.Errorf("volume %d of %s, %v has the label %q, %d, %d", i+1, show(nodes), s, name, n, e)
		}
		joined = append(joined, v[len(begin):]...)
	}
	if !block.May(joined) {
		t.Errorf("volumes of %s, %v have blocks that are none", show(nodes), s)
	}
	if e != api.OK {
		if len(joined) >= len(all) || !block.Same(joined, all[:len(joined)]) {
			t.Errorf("the first volumes of %s, %v have not the stream's first blocks", show(nodes), s)
		}
		return
	}
	if len(joined) < len(all) || len(joined) >= len(all)+s.B || !block.Same(joined[:len(all)], all) {
		t.Errorf("volumes of %s, %v have not the stream's blocks", show(nodes), s)
		return
	}
	for _, b := range joined[len(all):] {
		if !block.Zero(b) {
			t.Errorf("behind the stream of %s, %v stands %q", show(nodes), s, b)
		}
	}
	if got, e := read.Read(joined); e != api.OK || !tree.Same(got, nodes) {
		t.Errorf("volumes of %s, %v are read as %s, %d", show(nodes), s, show(got), e)
	}
}

func TestWhatFollows(t *testing.T) {
	for _, list := range allTrees() {
		for _, b := range []int{1, 2, 3, 4, 7, 20} {
			for _, records := range []int{1, 2, 3, 4, 5, 6, 9, 30, 200} {
				checkFollows(t, list, setOf(b, repeated(12, records)...))
				checkFollows(t, list, setOf(b, records, 2*records%201, records, 200, 1, 200))
			}
		}
	}
	r := rand.New(rand.NewSource(17))
	for range 1000 {
		checkFollows(t, someTree(r), someSet(r))
	}
}

// With more capacities behind, the first volumes are the same.
func TestMoreCapacitiesBehind(t *testing.T) {
	for _, list := range allTrees() {
		nodes := nodesOf(list)
		for _, s := range []api.Set{setOf(1, 6, 2, 9, 30, 5, 5, 5, 200, 200, 1), setOf(3, 2, 3, 2, 3, 5, 5, 200, 2, 2, 200, 200), setOf(20, repeated(12, 2)...), setOf(5, 1, 2, 3, 4, 5, 6, 7, 8, 9, 10, 11, 12)} {
			whole, err := Split(nodes, s)
			for n := range s.Caps {
				fewer := setOf(s.B, s.Caps[:n]...)
				vols, e := Split(nodes, fewer)
				switch {
				case n < len(whole) && (e != api.ErrMedia || !Same(vols, whole[:n])):
					t.Errorf("with %d of the capacities of %v: %s, %d; with all of them: %s, %d", n, s, layout(vols), e, layout(whole), err)
				case n > len(whole) && (e != err || !Same(vols, whole)):
					t.Errorf("with %d of the capacities of %v: %s, %d; with all of them: %s, %d", n, s, layout(vols), e, layout(whole), err)
				}
			}
		}
	}
}

// R3

// checkUnshared writes over all that one volume has, and behind it, and holds the others against what they were.
func checkUnshared(t *testing.T, nodes []api.Node, s api.Set) {
	t.Helper()
	want, _ := Split(nodes, s)
	for i := range want {
		vols, _ := Split(nodes, s)
		for j := range vols[i] {
			whole := vols[i][j][:cap(vols[i][j])]
			for at := range whole {
				whole[at] = 'x'
			}
			for k := range vols[i] {
				if k > j && !bytes.Equal(vols[i][k], want[i][k]) {
					t.Fatalf("block %d of volume %d has changed with block %d", k, i, j)
				}
			}
		}
		spoilt := vols[i][:cap(vols[i])]
		for j := range spoilt {
			spoilt[j] = []byte("another one")
		}
		vols[i] = want[i]
		if !Same(vols, want) {
			t.Fatalf("other volumes have changed with volume %d of %s, %v", i, show(nodes), s)
		}
	}
	if again, _ := Split(nodes, s); !Same(again, want) {
		t.Fatalf("what was written into volumes of %s, %v stands in the next ones", show(nodes), s)
	}
}

func TestTheVolumesAreOfMemoryOfTheirOwn(t *testing.T) {
	for _, list := range append(fewer(), full()) {
		for _, s := range []api.Set{setOf(1, 6, 2, 9, 30, 5, 5, 5, 200, 200, 1), setOf(3, 2, 3, 2, 3, 5, 5, 200, 2, 2, 200, 200), setOf(20, 1, 1, 1, 1, 1, 1), setOf(7, 200), setOf(1, repeated(12, 5)...)} {
			checkUnshared(t, nodesOf(list), s)
		}
	}
}

func TestBeginIsOfMemoryOfItsOwn(t *testing.T) {
	nodes, s := []api.Node{file(wide("a", 101), 1000)}, setOf(1, 10)
	for pos := range 8 {
		want, ok := Begin(nodes, s, pos, 1)
		if !ok {
			continue
		}
		for j := range want {
			got, _ := Begin(nodes, s, pos, 1)
			whole := got[j][:cap(got[j])]
			for at := range whole {
				whole[at] = 'x'
			}
			got[j] = want[j]
			if !block.Same(got, want) {
				t.Errorf("at %d, other blocks have changed with block %d", pos, j)
			}
		}
		if again, _ := Begin(nodes, s, pos, 1); !block.Same(again, want) {
			t.Errorf("at %d, what was written into blocks stands in the next ones", pos)
		}
	}
}

// The nodes and the capacities lie among others: those are neither read nor changed.
func TestWhatIsHandedInStaysAsItWas(t *testing.T) {
	for _, list := range append(fewer(), full()) {
		nodes := append(nodesOf(list), file("~", 4000), file("", 1))
		caps := []int{-5, 6, 2, 9, 30, 1000, -1}
		wasNodes, wasCaps := slices.Clone(nodes), slices.Clone(caps)
		own, s := nodes[:len(list)], setOf(2, caps[1:5]...)
		if !May(s) {
			t.Errorf("May(%v) = false", s)
		}
		vols, e := Split(own, s)
		Needs(own, s)
		Begin(own, s, 1, 1)
		Same(vols, vols)
		if !slices.Equal(nodes, wasNodes) || !slices.Equal(caps, wasCaps) || s.Label != "full" || s.B != 2 || len(s.Caps) != 4 {
			t.Errorf("what was handed in has changed: %s, %v", show(nodes), caps)
		}
		was := cloned(vols)
		clear(nodes)
		clear(caps)
		if !Same(vols, was) {
			t.Error("the volumes have changed with what was handed in")
		}
		if want, err := wantSplit(list, setOf(2, 6, 2, 9, 30)); e != err || !Same(vols, want) {
			t.Errorf("Split of a tree among others = %s, %d; want %s, %d", layout(vols), e, layout(want), err)
		}
	}
}

func TestSameChangesNothing(t *testing.T) {
	for _, a := range some() {
		for _, b := range some() {
			wasA, wasB := cloned(a), cloned(b)
			Same(a, b)
			if !areSame(a, wasA) || !areSame(b, wasB) {
				t.Fatal("Same has changed what it was given")
			}
		}
	}
}

// R5

func TestTheSameAgainWhateverWasAsked(t *testing.T) {
	list, s := full(), setOf(3, 7, 5, 4, 30)
	for _, nodes := range append(noTrees()[:10], nodesOf(greatest()), nil) {
		for _, other := range []api.Set{setOf(20, 200), setOf(1, 2), setOf(0), {}} {
			Split(nodes, other)
			Needs(nodes, other)
			Begin(nodes, other, 3, 2)
			May(other)
			checkSplit(t, list, s)
		}
	}
}
