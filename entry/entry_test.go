package entry

import (
	"bytes"
	"encoding/binary"
	"fmt"
	"math"
	"math/rand"
	"strings"
	"testing"

	"reelkeeper/api"
	"reelkeeper/block"
	"reelkeeper/head"
)

const mostId = 1099511627776 // 2^40

// letters is a text of so many bytes, without a slash. Those beside each other differ, so that one left out or told twice is seen.
func letters(n int) string {
	return strings.Repeat("abcdefghijklmnopqrstuvwxyz", n/26+1)[:n]
}

// upper likewise, of letters that letters has none of: what stands in another one's place is seen.
func upper(n int) string {
	return strings.ToUpper(letters(n))
}

func file(p, data string) api.Node { return api.Node{Path: p, Kind: '0', Data: data} }

func hard(p, link string) api.Node { return api.Node{Path: p, Link: link, Kind: '1'} }

func sym(p, link string) api.Node { return api.Node{Path: p, Link: link, Kind: '2'} }

func dir(p string) api.Node { return api.Node{Path: p, Kind: '5'} }

// eachKind are nodes of a path, one of each kind.
func eachKind(p string) []api.Node {
	return []api.Node{file(p, ""), file(p, letters(600)), hard(p, "b"), sym(p, "b"), dir(p)}
}

// four are a node's numbers.
func four(n *api.Node) []*int {
	return []*int{&n.Mode, &n.Uid, &n.Gid, &n.Mtime}
}

// show tells a node in a line, long texts by their beginning.
func show(n api.Node) string {
	return fmt.Sprintf("{%.60q (%d) kind %q link %.60q (%d) %d %d %d %d data (%d)}", n.Path, len(n.Path), n.Kind, n.Link, len(n.Link), n.Mode, n.Uid, n.Gid, n.Mtime, len(n.Data))
}

// wantText says whether a text may be long.
func wantText(s string) bool {
	return s != "" && len(s) < 301 && !strings.Contains(s, "\x00")
}

// wantSafe says whether a path may be.
func wantSafe(p string) bool {
	for _, part := range strings.Split(p, "/") {
		if part == "" || part == "." || part == ".." {
			return false
		}
	}
	return wantText(p)
}

// wantOne says whether a node may be alone.
func wantOne(n api.Node) bool {
	if !wantSafe(n.Path) || n.Mode < 0 || n.Uid < 0 || n.Gid < 0 || n.Mtime < 0 {
		return false
	}
	if n.Mode >= 4096 || n.Uid > mostId || n.Gid > mostId || n.Mtime > mostId {
		return false
	}
	switch n.Kind {
	case '0':
		return n.Link == "" && len(n.Data) < 4001
	case '1':
		return wantSafe(n.Link) && n.Data == "" && n.Mode == 0 && n.Uid == 0 && n.Gid == 0 && n.Mtime == 0
	case '2':
		return wantText(n.Link) && n.Data == ""
	case '5':
		return n.Link == "" && n.Data == ""
	}
	return false
}

// wantSplit tries all slashes of a path that may be, from the first one on.
func wantSplit(p string) (string, string, bool) {
	if len(p) <= 100 {
		return "", p, true
	}
	for at := range len(p) {
		if p[at] == '/' && len(p)-at-1 <= 100 {
			return p[:at], p[at+1:], at <= 155
		}
	}
	return "", "", false
}

// first100 are the first 100 bytes, byte by byte.
func first100(s string) string {
	var list []byte
	for at := 0; at < len(s) && at < 100; at++ {
		list = append(list, s[at])
	}
	return string(list)
}

// wantField is a number's field.
func wantField(n, wide int) []byte {
	if digits := fmt.Sprintf("%0*o", wide-1, n); len(digits) < wide {
		return append([]byte(digits), 0)
	}
	whole := binary.BigEndian.AppendUint64(make([]byte, 12), uint64(n))
	field := whole[len(whole)-wide:]
	field[0] = 128
	return field
}

// wantBlock is the block of a header that is not of type M.
func wantBlock(h api.Head) []byte {
	b := make([]byte, 512)
	copy(b, h.Name)
	copy(b[100:], wantField(h.Mode, 8))
	copy(b[108:], wantField(h.Uid, 8))
	copy(b[116:], wantField(h.Gid, 8))
	copy(b[124:], wantField(h.Size, 12))
	copy(b[136:], wantField(h.Mtime, 12))
	copy(b[148:], "        ")
	b[156] = h.Type
	copy(b[157:], h.Link)
	copy(b[257:], []byte{'u', 's', 't', 'a', 'r', 0, 48, 48})
	copy(b[345:], h.Prefix)
	sum := 0
	for _, x := range b {
		sum += int(x)
	}
	copy(b[148:], fmt.Sprintf("%06o\x00 ", sum))
	return b
}

// wantCut are the blocks of a text, one by one.
func wantCut(s string) [][]byte {
	var list [][]byte
	for at := 0; at < len(s); at += 512 {
		b := make([]byte, 512)
		copy(b, s[at:])
		list = append(list, b)
	}
	return list
}

// wantLong are the blocks of a long text.
func wantLong(kind byte, s string) [][]byte {
	first := wantBlock(api.Head{Name: "././@LongLink", Size: len(s) + 1, Type: kind})
	return append([][]byte{first}, wantCut(s+"\x00")...)
}

// answer is all that is asked of a node.
type answer struct {
	head       api.Head
	blocks     [][]byte
	ok         bool
	many, data int
}

// wantAnswer says what has to be answered of a node.
func wantAnswer(n api.Node) answer {
	if !wantOne(n) {
		return answer{}
	}
	var a answer
	prefix, name, fits := wantSplit(n.Path)
	if len(n.Link) >= 101 {
		a.blocks = append(a.blocks, wantLong('K', n.Link)...)
	}
	if !fits {
		prefix, name = "", first100(n.Path)
		a.blocks = append(a.blocks, wantLong('L', n.Path)...)
	}
	a.head = api.Head{Name: name, Prefix: prefix, Link: first100(n.Link), Mode: n.Mode, Uid: n.Uid, Gid: n.Gid, Size: len(n.Data), Mtime: n.Mtime, Type: n.Kind}
	a.blocks = append(a.blocks, wantBlock(a.head))
	a.blocks = append(a.blocks, wantCut(n.Data)...)
	a.ok, a.many, a.data = true, len(a.blocks), (len(n.Data)+511)/512
	return a
}

func sameBlocks(a, b [][]byte) bool {
	if len(a) != len(b) {
		return false
	}
	for i := range a {
		if !bytes.Equal(a[i], b[i]) {
			return false
		}
	}
	return true
}

// isAnswer holds all calls of a node against what they have to answer.
func isAnswer(t *testing.T, n api.Node, want answer) {
	t.Helper()
	if h, ok := Head(n); ok != want.ok || h != want.head {
		t.Errorf("Head of %s = %#v, %t; want %#v, %t", show(n), h, ok, want.head, want.ok)
	}
	if l, ok := Put(n); ok != want.ok || !sameBlocks(l, want.blocks) {
		t.Errorf("Put of %s = %q, %t; want %q, %t", show(n), l, ok, want.blocks, want.ok)
	}
	if got := Many(n); got != want.many {
		t.Errorf("Many of %s = %d; want %d", show(n), got, want.many)
	}
	if got := Data(n); got != want.data {
		t.Errorf("Data of %s = %d; want %d", show(n), got, want.data)
	}
}

// checkNode holds all calls of a node, and what follows of them, against what they have to answer.
func checkNode(t *testing.T, n api.Node) {
	t.Helper()
	want := wantAnswer(n)
	isAnswer(t, n, want)
	if want.ok {
		checkFollows(t, n)
	}
}

// checkFollows holds a node that may be alone against P7.3, and its blocks against its header and its bytes.
func checkFollows(t *testing.T, n api.Node) {
	t.Helper()
	l, ok := Put(n)
	h, is := Head(n)
	own := len(l) - 1 - Data(n)
	if !ok || !is || Many(n) < 1 || own < 0 || !head.May(h) || !block.May(l) {
		t.Errorf("of %s there are %d blocks, %t, and the header %#v, %t", show(n), len(l), ok, h, is)
		return
	}
	if got, e := head.Get(l[own]); e != api.OK || got != h {
		t.Errorf("the header among the blocks of %s = %#v, %d; want %#v", show(n), got, e, h)
	}
	if got, ok := block.Text(l[own+1:], len(n.Data)); !ok || got != n.Data {
		t.Errorf("behind the header of %s stands %.60q, %t", show(n), got, ok)
	}
	if own%2 != 0 || own > 4 {
		t.Errorf("%d blocks stand ahead of the header of %s", own, show(n))
	}
}

// isNothing holds all calls of a node that may not be alone against nothing at all.
func isNothing(t *testing.T, n api.Node) {
	t.Helper()
	isAnswer(t, n, answer{})
	checkNode(t, n)
}

// isHead holds Head of a node against a header that is written out.
func isHead(t *testing.T, n api.Node, want api.Head) {
	t.Helper()
	if h, ok := Head(n); !ok || h != want {
		t.Errorf("Head of %s = %#v, %t; want %#v", show(n), h, ok, want)
	}
	checkNode(t, n)
}

// P7.1: Head

func TestHeadOfEachKind(t *testing.T) {
	full := func(n api.Node) api.Node {
		n.Mode, n.Uid, n.Gid, n.Mtime = 420, 1000, 100, 1700000000
		return n
	}
	isHead(t, full(file("a/b", "bytes")), api.Head{Name: "a/b", Mode: 420, Uid: 1000, Gid: 100, Size: 5, Mtime: 1700000000, Type: '0'})
	isHead(t, full(sym("a/b", "../c")), api.Head{Name: "a/b", Link: "../c", Mode: 420, Uid: 1000, Gid: 100, Mtime: 1700000000, Type: '2'})
	isHead(t, full(dir("a/b")), api.Head{Name: "a/b", Mode: 420, Uid: 1000, Gid: 100, Mtime: 1700000000, Type: '5'})
	isHead(t, hard("a/b", "a/a"), api.Head{Name: "a/b", Link: "a/a", Type: '1'})
	isHead(t, file("a", ""), api.Head{Name: "a", Type: '0'})
	isHead(t, sym("a", "b"), api.Head{Name: "a", Link: "b", Type: '2'})
	isHead(t, dir("a"), api.Head{Name: "a", Type: '5'})
}

func TestHeadTellsHowManyBytesThereAre(t *testing.T) {
	for _, size := range []int{0, 1, 2, 511, 512, 513, 1023, 1024, 1025, 3999, 4000} {
		isHead(t, file("a", letters(size)), api.Head{Name: "a", Size: size, Type: '0'})
		isHead(t, file("a", strings.Repeat("\x00", size)), api.Head{Name: "a", Size: size, Type: '0'})
		isHead(t, file(letters(120), upper(size)), api.Head{Name: letters(100), Size: size, Type: '0'})
	}
	// Bytes count, not letters.
	isHead(t, file("a", "éé"), api.Head{Name: "a", Size: 4, Type: '0'})
}

func TestHeadAtTheEdgesOfItsNumbers(t *testing.T) {
	for _, n := range []api.Node{file("a", ""), file("a", "x"), sym("a", "b"), dir("a")} {
		plain := api.Head{Name: "a", Link: n.Link, Size: len(n.Data), Type: n.Kind}
		isHead(t, n, plain)
		for which, most := range []int{4095, mostId, mostId, mostId} {
			for _, x := range []int{0, 1, 7, 8, 511, 4095, 4096, 1<<21 - 1, 1 << 21, 1<<33 - 1, 1 << 33, most - 1, most} {
				if x > most {
					continue
				}
				m, want := n, plain
				*four(&m)[which] = x
				*[]*int{&want.Mode, &want.Uid, &want.Gid, &want.Mtime}[which] = x
				isHead(t, m, want)
			}
		}
		m, want := n, plain
		m.Mode, m.Uid, m.Gid, m.Mtime = 4095, mostId, mostId, mostId
		want.Mode, want.Uid, want.Gid, want.Mtime = 4095, mostId, mostId, mostId
		isHead(t, m, want)
	}
}

func TestHeadOfPaths(t *testing.T) {
	for _, x := range []struct{ p, name, prefix string }{
		{"a", "a", ""},
		{"a/b/c", "a/b/c", ""},
		{letters(99), letters(99), ""},
		{letters(100), letters(100), ""},
		{letters(50) + "/" + letters(49), letters(50) + "/" + letters(49), ""},
		// It can be split.
		{letters(50) + "/" + upper(50), upper(50), letters(50)},
		{"a/" + upper(99), upper(99), "a"},
		{letters(99) + "/b", "b", letters(99)},
		{"a/b/" + upper(98), "b/" + upper(98), "a"},
		{letters(155) + "/" + upper(99), upper(99), letters(155)},
		{letters(155) + "/" + upper(100), upper(100), letters(155)},
		// It can't, and so begins there.
		{letters(101), letters(100), ""},
		{letters(256), letters(100), ""},
		{letters(257), letters(100), ""},
		{letters(300), letters(100), ""},
		{"a/" + upper(101), "a/" + upper(98), ""},
		{letters(155) + "/" + upper(101), letters(100), ""},
		{letters(156) + "/" + upper(99), letters(100), ""},
		{letters(156) + "/" + upper(100), letters(100), ""},
		{letters(199) + "/" + upper(100), letters(100), ""},
		{letters(60) + "/" + upper(239), letters(60) + "/" + upper(39), ""},
		{strings.Repeat("é", 150), strings.Repeat("é", 50), ""},
		{"a" + strings.Repeat("é", 75), "a" + strings.Repeat("é", 49) + "\xc3", ""},
	} {
		for _, n := range eachKind(x.p) {
			isHead(t, n, api.Head{Name: x.name, Prefix: x.prefix, Link: n.Link, Size: len(n.Data), Type: n.Kind})
		}
	}
}

func TestHeadOfLinks(t *testing.T) {
	for _, x := range []struct{ link, want string }{
		{"b", "b"},
		{letters(99), letters(99)},
		{letters(100), letters(100)},
		{letters(101), letters(100)},
		{letters(299), letters(100)},
		{letters(300), letters(100)},
		// A link is never split: it has no prefix.
		{letters(60) + "/" + upper(60), letters(60) + "/" + upper(39)},
		{"a/" + upper(99), "a/" + upper(98)},
		{strings.Repeat("é", 150), strings.Repeat("é", 50)},
	} {
		isHead(t, hard("a", x.link), api.Head{Name: "a", Link: x.want, Type: '1'})
		isHead(t, sym("a", x.link), api.Head{Name: "a", Link: x.want, Type: '2'})
	}
	isHead(t, sym("a", "/"), api.Head{Name: "a", Link: "/", Type: '2'})
	isHead(t, sym("a", "../../etc//x"), api.Head{Name: "a", Link: "../../etc//x", Type: '2'})
	isHead(t, hard("a", "a"), api.Head{Name: "a", Link: "a", Type: '1'})
}

// P7.1: Data; P7.2: Many

func TestHowManyBlocksThereAre(t *testing.T) {
	for _, x := range []struct{ size, data int }{
		{0, 0}, {1, 1}, {2, 1}, {511, 1}, {512, 1}, {513, 2}, {1023, 2}, {1024, 2}, {1025, 3}, {1536, 3}, {1537, 4}, {3584, 7}, {3585, 8}, {3999, 8}, {4000, 8},
	} {
		for _, p := range []struct {
			path  string
			ahead int
		}{{"a", 0}, {letters(100), 0}, {letters(155) + "/" + letters(100), 0}, {letters(101), 2}, {letters(300), 2}} {
			n := file(p.path, letters(x.size))
			if got := Data(n); got != x.data {
				t.Errorf("Data of %s = %d; want %d", show(n), got, x.data)
			}
			if got := Many(n); got != p.ahead+1+x.data {
				t.Errorf("Many of %s = %d; want %d", show(n), got, p.ahead+1+x.data)
			}
			checkNode(t, n)
		}
	}
}

func TestHowManyBlocksAFileOf513BytesHas(t *testing.T) {
	if got := Many(file("a", letters(513))); got != 3 {
		t.Errorf("Many = %d; want 3", got)
	}
}

func TestHowManyBlocksWithoutBytes(t *testing.T) {
	for _, x := range []struct {
		n    api.Node
		many int
	}{
		{dir("a"), 1}, {dir(letters(100)), 1}, {dir(letters(101)), 3}, {dir(letters(300)), 3},
		{sym("a", "b"), 1}, {sym("a", letters(100)), 1}, {sym("a", letters(101)), 3}, {sym("a", letters(300)), 3},
		{sym(letters(101), "b"), 3}, {sym(letters(101), letters(101)), 5}, {sym(letters(300), letters(300)), 5},
		{hard("a", "b"), 1}, {hard("a", letters(100)), 1}, {hard("a", letters(101)), 3}, {hard("a", letters(300)), 3},
		{hard(letters(101), "b"), 3}, {hard(letters(101), letters(101)), 5}, {hard(letters(300), letters(300)), 5},
		{hard(letters(100)+"/"+letters(100), letters(100)+"/"+letters(100)), 3},
	} {
		if got := Many(x.n); got != x.many {
			t.Errorf("Many of %s = %d; want %d", show(x.n), got, x.many)
		}
		if got := Data(x.n); got != 0 {
			t.Errorf("Data of %s = %d; want 0", show(x.n), got)
		}
		checkNode(t, x.n)
	}
}

// P7.2: Put

// written is a block of parts, each with its place ahead of it, and noughts between.
func written(parts ...any) string {
	b := make([]byte, 512)
	for i := 0; i < len(parts); i += 2 {
		copy(b[parts[i].(int):], parts[i+1].(string))
	}
	return string(b)
}

// isPut holds Put of a node against blocks that are written out.
func isPut(t *testing.T, n api.Node, want ...string) {
	t.Helper()
	l, ok := Put(n)
	if !ok || len(l) != len(want) {
		t.Errorf("Put of %s = %d blocks, %t; want %d", show(n), len(l), ok, len(want))
		return
	}
	for i := range l {
		if string(l[i]) != want[i] {
			t.Errorf("block %d of %s = %q; want %q", i, show(n), l[i], want[i])
		}
	}
	checkNode(t, n)
}

// The bytes are written out here, with the sums that they have.
func TestPutOfEachKind(t *testing.T) {
	n := file("dir/file", letters(513))
	n.Mode, n.Uid, n.Gid, n.Mtime = 420, 1000, 100, 1700000000
	isPut(t, n,
		written(0, "dir/file", 100, "0000644\x000001750\x000000144\x0000000001001\x0014524770400\x00007445\x00 0", 257, "ustar\x0000"),
		letters(512),
		written(0, letters(513)[512:]))

	n = sym("b", "../c")
	n.Mode, n.Mtime = 511, 1
	isPut(t, n,
		written(0, "b", 100, "0000777\x000000000\x000000000\x0000000000000\x0000000000001\x00006467\x00 2../c", 257, "ustar\x0000"))

	d, e := strings.Repeat("d", 60), strings.Repeat("e", 60)
	isPut(t, hard(d+"/"+e, "a/b"),
		written(0, e, 100, "0000000\x000000000\x000000000\x0000000000000\x0000000000000\x00035736\x00 1a/b", 257, "ustar\x0000", 345, d))

	n = dir("a")
	n.Mode, n.Uid, n.Mtime = 493, 1<<21-1, 1<<33-1
	isPut(t, n,
		written(0, "a", 100, "0000755\x007777777\x000000000\x0000000000000\x0077777777777\x00006304\x00 5", 257, "ustar\x0000"))
}

func TestPutOfNumbersThatAreTooGreatForDigits(t *testing.T) {
	n := file("a", "")
	n.Mode, n.Uid, n.Gid, n.Mtime = 4095, mostId, mostId, mostId
	const number = "\x80\x00\x01\x00\x00\x00\x00\x00"
	isPut(t, n,
		written(0, "a", 100, "0007777\x00"+number+number+"00000000000\x00"+"\x80\x00\x00\x00\x00\x00\x01\x00\x00\x00\x00\x00"+"004437\x00 0", 257, "ustar\x0000"))
}

// wantOrder says of each block behind the other what it is: a header, by its type and its size, or a text, by its first and its last byte and how many it has.
func wantOrder(t *testing.T, n api.Node, want ...string) {
	t.Helper()
	l, _ := Put(n)
	var got []string
	for _, b := range l {
		if h, e := head.Get(b); e == api.OK {
			got = append(got, fmt.Sprintf("%c %d", h.Type, h.Size))
			continue
		}
		text := strings.TrimRight(string(b), "\x00")
		got = append(got, fmt.Sprintf("%.1s%s (%d)", text, text[len(text)-1:], len(text)))
	}
	if strings.Join(got, ", ") != strings.Join(want, ", ") {
		t.Errorf("the blocks of %s are %q; want %q", show(n), got, want)
	}
	checkNode(t, n)
}

func TestTheOrderOfTheBlocks(t *testing.T) {
	path, link := "<"+letters(199)+">", "["+upper(298)+"]"
	// Neither is too long.
	wantOrder(t, file("a", ""), "0 0")
	wantOrder(t, dir("a"), "5 0")
	wantOrder(t, hard("a", "b"), "1 0")
	wantOrder(t, sym("a", "b"), "2 0")
	wantOrder(t, file("a", "("+letters(510)+")"), "0 512", "() (512)")
	wantOrder(t, file("a", "("+letters(511)+")"), "0 513", "(q (512)", ")) (1)")
	// The name alone.
	wantOrder(t, file(path, ""), "L 202", "<> (201)", "0 0")
	wantOrder(t, file(path, "("+letters(1023)+")"), "L 202", "<> (201)", "0 1025", "(q (512)", "ri (512)", ")) (1)")
	wantOrder(t, dir(path), "L 202", "<> (201)", "5 0")
	wantOrder(t, hard(path, "b"), "L 202", "<> (201)", "1 0")
	wantOrder(t, sym(path, "b"), "L 202", "<> (201)", "2 0")
	// The link alone.
	wantOrder(t, hard("a", link), "K 301", "[] (300)", "1 0")
	wantOrder(t, sym("a", link), "K 301", "[] (300)", "2 0")
	// Both: the link first.
	wantOrder(t, hard(path, link), "K 301", "[] (300)", "L 202", "<> (201)", "1 0")
	wantOrder(t, sym(path, link), "K 301", "[] (300)", "L 202", "<> (201)", "2 0")
}

func TestTheBytesAndTheNoughtsBehind(t *testing.T) {
	for _, size := range []int{0, 1, 2, 511, 512, 513, 1023, 1024, 1025, 3999, 4000} {
		for _, data := range []string{letters(size), strings.Repeat("\x00", size), strings.Repeat("\xff", size)} {
			l, ok := Put(file("a", data))
			if !ok || len(l) < 1 {
				t.Fatalf("Put of a file of %d bytes = %d blocks, %t", size, len(l), ok)
			}
			behind := string(bytes.Join(l[1:], nil))
			if len(behind)%512 != 0 || len(behind) < size || len(behind) >= size+512 {
				t.Fatalf("behind the header of %d bytes stand %d", size, len(behind))
			}
			if behind[:size] != data || strings.Trim(behind[size:], "\x00") != "" {
				t.Errorf("behind the header of %d bytes stands %q", size, behind)
			}
		}
	}
}

// P7.1, P7.2, P7.3: all edges together

// edgePaths are paths that may be, about all edges of what a header has room for.
func edgePaths() []string {
	return []string{
		"a", "...", "a/b", "\xff", letters(99), letters(100), letters(101), letters(120), letters(255), letters(256), letters(257), letters(299), letters(300),
		letters(50) + "/" + upper(49), letters(50) + "/" + upper(50), "a/" + upper(99), "a/" + upper(100), "a/" + upper(101),
		letters(155) + "/" + upper(99), letters(155) + "/" + upper(100), letters(155) + "/" + upper(101),
		letters(156) + "/" + upper(98), letters(156) + "/" + upper(99), letters(156) + "/" + upper(100), letters(199) + "/" + upper(100), letters(298) + "/b",
		strings.Repeat("é", 150), strings.Repeat("a/", 149) + "b", strings.Repeat("a/", 127) + "b",
	}
}

func TestAllEdgesTogether(t *testing.T) {
	for _, p := range edgePaths() {
		for _, size := range []int{0, 1, 511, 512, 513, 1024, 1025, 3999, 4000} {
			n := file(p, upper(size))
			checkNode(t, n)
			n.Mode, n.Uid, n.Gid, n.Mtime = 4095, mostId, mostId-1, mostId
			checkNode(t, n)
		}
		for _, link := range edgePaths() {
			checkNode(t, hard(p, link))
			n := sym(p, link)
			checkNode(t, n)
			n.Mode, n.Uid, n.Gid, n.Mtime = 511, 1<<21, 1<<21-1, 1<<33
			checkNode(t, n)
		}
		checkNode(t, dir(p))
	}
}

func TestFollowsOfNodesThatMayBeAlone(t *testing.T) {
	for _, p := range edgePaths() {
		for _, n := range eachKind(p) {
			if !wantOne(n) {
				t.Errorf("%s should be one that may be alone", show(n))
			}
			checkFollows(t, n)
		}
	}
}

// Wrong inputs

func TestKindsThatMayNotBe(t *testing.T) {
	for kind := range 256 {
		if strings.IndexByte("0125", byte(kind)) >= 0 {
			continue
		}
		for _, n := range eachKind("a") {
			n.Kind = byte(kind)
			isNothing(t, n)
		}
	}
}

func TestNumbersThatMayNotBe(t *testing.T) {
	for _, n := range eachKind("a") {
		for which, most := range []int{4095, mostId, mostId, mostId} {
			for _, x := range []int{math.MinInt, -2, -1, most + 1, most + 2, math.MaxInt} {
				m := n
				*four(&m)[which] = x
				isNothing(t, m)
			}
			if n.Kind == '1' {
				m := n
				*four(&m)[which] = 1
				isNothing(t, m)
			}
		}
	}
}

func TestPathsThatMayNotBe(t *testing.T) {
	for _, p := range []string{
		"", "/", "/a", "a/", "a//b", ".", "..", "./a", "../a", "a/.", "a/..", "a/../b", "\x00", "a\x00", letters(99) + "\x00",
		letters(301), letters(302), letters(200) + "/" + letters(100), letters(120) + "/..", letters(120) + "/", letters(120) + "\x00", letters(5000),
	} {
		for _, n := range eachKind(p) {
			isNothing(t, n)
		}
	}
}

func TestBytesThatMayNotBe(t *testing.T) {
	for _, size := range []int{4001, 4002, 4096, 4097, 8000, 1 << 20} {
		isNothing(t, file("a", letters(size)))
		isNothing(t, file("a", strings.Repeat("\x00", size)))
	}
	for _, n := range []api.Node{hard("a", "b"), sym("a", "b"), dir("a")} {
		for _, data := range []string{"x", "\x00", letters(512), letters(4000), letters(4001)} {
			n.Data = data
			isNothing(t, n)
		}
	}
}

func TestLinksThatMayNotBe(t *testing.T) {
	for _, n := range []api.Node{file("a", ""), file("a", "x"), dir("a")} {
		for _, link := range []string{"b", "a", "\x00", letters(100), letters(101), letters(300), letters(301)} {
			n.Link = link
			isNothing(t, n)
		}
	}
	for _, link := range []string{"", "\x00", "b\x00", letters(99) + "\x00", letters(120) + "\x00", letters(301), letters(5000)} {
		isNothing(t, sym("a", link))
		isNothing(t, hard("a", link))
	}
	for _, link := range []string{"/", "/b", "b/", "b//c", ".", "..", "../b", "b/..", letters(120) + "/", letters(120) + "/../b"} {
		isNothing(t, hard("a", link))
	}
}

func TestNoNodeAtAll(t *testing.T) {
	isNothing(t, api.Node{})
	isNothing(t, api.Node{Path: "a"})
	isNothing(t, api.Node{Kind: '0'})
	isNothing(t, api.Node{Path: "a/../b", Link: "\x00", Kind: 'M', Mode: -1, Uid: -1, Gid: math.MaxInt, Mtime: math.MinInt, Data: letters(5000)})
}

// R1

func TestAllSortsOfNodes(t *testing.T) {
	r := rand.New(rand.NewSource(7))
	some := func() string {
		text := make([]byte, []int{0, 1, 2, 3, 95, 98, 150, 252, 296}[r.Intn(9)]+r.Intn(6))
		for at := range text {
			text[at] = "aaabbbccc\xff/."[r.Intn(12)]
		}
		if len(text) > 0 && r.Intn(10) == 0 {
			text[r.Intn(len(text))] = 0
		}
		return string(text)
	}
	safe := func() string {
		parts := strings.FieldsFunc(some(), func(x rune) bool { return x == '.' || x == '/' || x == 0 })
		return strings.Join(parts, []string{"", "/", "_", "__________"}[r.Intn(4)])
	}
	number := func() int {
		return []int{0, 0, 0, 0, 0, 0, 1, 420, 4095, 4096, mostId, mostId + 1, -1, math.MinInt, math.MaxInt}[r.Intn(15)]
	}
	yes := 0
	for range 20000 {
		n := api.Node{Path: safe(), Kind: "00112255K"[r.Intn(9)]}
		if r.Intn(3) == 0 {
			n.Mode, n.Uid, n.Gid, n.Mtime = number(), number(), number(), number()
		}
		if r.Intn(10) == 0 {
			n.Path = some()
		}
		if r.Intn(2) == 0 {
			n.Link = safe()
		}
		if r.Intn(5) == 0 {
			n.Data = letters(r.Intn(4003))
		}
		checkNode(t, n)
		if wantOne(n) {
			yes++
		}
	}
	if yes < 4000 {
		t.Errorf("only %d of the nodes may be alone", yes)
	}
}

// R3

func TestAnswersAreNewMemory(t *testing.T) {
	for _, n := range []api.Node{file(letters(150), upper(2000)), sym(letters(150), upper(200)), hard(letters(150), upper(200)), dir("a")} {
		want := wantAnswer(n)
		for range 2 {
			l, _ := Put(n)
			for i, b := range l {
				_ = append(b, "behind"...)
				for at := range b {
					b[at] = 'x'
				}
				if !sameBlocks(l[i+1:], want.blocks[i+1:]) {
					t.Errorf("what was written into block %d of %s stands in one behind it", i, show(n))
				}
			}
			clear(l)
			_ = append(l, []byte("behind"))
			isAnswer(t, n, want)
		}
	}
}

func TestWhatIsHandedInStays(t *testing.T) {
	for _, n := range []api.Node{file(letters(150), upper(2000)), sym(letters(150), upper(200)), {Path: "/", Kind: 'x', Mode: -1}} {
		was := n
		checkNode(t, n)
		if n != was {
			t.Errorf("%s has changed; it was %s", show(n), show(was))
		}
	}
}

// R5

func TestTheSameAgainWhateverWasAsked(t *testing.T) {
	n := sym(letters(101), upper(101))
	checkNode(t, n)
	for _, other := range []api.Node{{}, file("a", letters(4000)), file("a", letters(4001)), dir(letters(300)), hard("a", letters(300)), sym("a", "")} {
		checkNode(t, other)
		checkNode(t, n)
	}
}
