package cont

import (
	"bytes"
	"encoding/binary"
	"fmt"
	"math"
	"math/rand"
	"slices"
	"strings"
	"testing"

	"reelkeeper/api"
	"reelkeeper/block"
	"reelkeeper/head"
	"reelkeeper/long"
)

const most = 1099511627776 // 2^40

// letters is a text of so many bytes, without a slash. Those beside each other differ, so that one left out or told twice is seen.
func letters(n int) string {
	return strings.Repeat("abcdefghijklmnopqrstuvwxyz", n/26+1)[:n]
}

// with is a text with another byte at a place.
func with(s string, at int, x byte) string {
	return s[:at] + string([]byte{x}) + s[at+1:]
}

// slashed is a path of so many bytes with slashes at these places.
func slashed(n int, at ...int) string {
	p := letters(n)
	for _, i := range at {
		p = with(p, i, '/')
	}
	return p
}

func file(p string, size int) api.Node {
	return api.Node{Path: p, Kind: '0', Data: letters(size)}
}

// four are a node's numbers.
func four(n *api.Node) []*int {
	return []*int{&n.Mode, &n.Uid, &n.Gid, &n.Mtime}
}

// show tells a node in a line, long texts by their beginning.
func show(n api.Node) string {
	return fmt.Sprintf("{%.60q (%d) kind %q link %.60q (%d) %d %d %d %d data (%d)}", n.Path, len(n.Path), n.Kind, n.Link, len(n.Link), n.Mode, n.Uid, n.Gid, n.Mtime, len(n.Data))
}

// shortPaths need no long name ahead.
func shortPaths() []string {
	return []string{
		"a", "a/b", "a/b/c", "x/y/z/long.name", "..a", "...", "a..b/.c", " ", "\x01", "\xff\xfe", "é/ü", "a Volume 1", "@LongLink",
		letters(98), letters(99), letters(100), slashed(99, 50), slashed(100, 1), slashed(100, 50), slashed(100, 98), strings.Repeat("a/", 49) + "bc", strings.Repeat("\xff", 100),
	}
}

// longPaths need one, whether path's Split has an answer for them or not.
func longPaths() []string {
	return []string{
		letters(101), letters(102), letters(154), letters(155), letters(156), letters(255), letters(256), letters(257), letters(299), letters(300),
		slashed(101, 1), slashed(101, 50), slashed(101, 99), slashed(120, 99, 101), slashed(120, 98, 100), slashed(200, 110),
		slashed(256, 155), slashed(256, 100), slashed(257, 155), slashed(257, 156), slashed(300, 99), slashed(300, 10, 199), slashed(300, 150, 250),
		strings.Repeat("a/", 50) + "b", strings.Repeat("a/", 149) + "bc", strings.Repeat("\xff", 300), strings.Repeat("é", 150), strings.Repeat("x", 300),
	}
}

func allPaths() []string {
	return append(shortPaths(), longPaths()...)
}

// noPaths are none that may be.
func noPaths() []string {
	return []string{
		"", "/", "//", "/a", "a/", "a//b", ".", "..", "./a", "a/.", "../a", "a/..", "a/../b", "a/./b", "\x00", "a\x00", "\x00a", "a\x00b", "././@LongLink",
		letters(301), letters(302), letters(512), letters(5000), letters(100) + "/", "/" + letters(100), letters(299) + "/", slashed(120, 100, 101), letters(100) + "/../a", letters(110) + "\x00",
	}
}

// sizes are of one, several and many blocks.
func sizes() []int {
	return []int{1, 2, 100, 510, 511, 512, 513, 514, 1000, 1023, 1024, 1025, 1536, 2048, 3071, 3072, 3073, 3583, 3584, 3585, 3999, 4000}
}

// places are those where a file of so many bytes goes on.
func places(size int) []int {
	var list []int
	for at := 0; at < size; at += 512 {
		list = append(list, at)
	}
	return list
}

// noPlaces are none where a file of so many bytes goes on.
func noPlaces(size int) []int {
	behind := (size + 511) / 512 * 512
	list := []int{
		behind, behind + 512, behind + 5120, 1 << 20, 1 << 32, 1 << 40, 1<<32 + 512, 1 << 62,
		-1, -2, -511, -512, -513, -1024, -4096, -1 << 32, -1<<32 + 512,
		math.MinInt, math.MinInt + 1, math.MinInt + 512, math.MaxInt, math.MaxInt - 1, math.MaxInt - 511, math.MaxInt - 1023,
	}
	for _, at := range append(places(size), behind) {
		list = append(list, at+1, at+2, at+100, at+256, at+511)
	}
	if size%512 != 0 {
		list = append(list, size, size-1+behind)
	}
	return slices.DeleteFunc(list, func(at int) bool { return at >= 0 && at < size && at%512 == 0 })
}

// numbered are a file with its numbers at nought, as great as they may be, and where a header spells them another way.
func numbered(n api.Node) []api.Node {
	list := []api.Node{n}
	add := func(mode, uid, gid, mtime int) {
		n.Mode, n.Uid, n.Gid, n.Mtime = mode, uid, gid, mtime
		list = append(list, n)
	}
	add(420, 1000, 100, 1700000000)
	add(4095, most, most, most)
	add(4095, 0, 0, 0)
	add(0, most, 0, 0)
	add(0, 0, most, 0)
	add(0, 0, 0, most)
	add(1, 2, 3, 4)
	add(8, 1<<21-1, 1<<21, 1<<33-1)
	add(7, 1<<21, 1<<21-1, 1<<33)
	return list
}

// noFiles may not be alone, or are no files, though each has bytes enough, or a path that may be.
func noFiles() []api.Node {
	list := []api.Node{
		{}, {Path: "a"}, {Path: "a", Data: letters(1000)}, {Kind: '0'}, {Kind: '0', Data: letters(1000)},
		{Path: "a", Kind: '1', Link: "b"}, {Path: "a", Kind: '1', Link: "b", Data: letters(1000)},
		{Path: "a", Kind: '2', Link: "b"}, {Path: "a", Kind: '2', Link: "b", Data: letters(1000)},
		{Path: "a", Kind: '5'}, {Path: "a", Kind: '5', Data: letters(1000)},
		{Path: letters(200), Kind: '1', Link: "b"}, {Path: letters(200), Kind: '2', Link: "b"}, {Path: letters(200), Kind: '5'},
		{Path: "a", Kind: '0', Link: "b", Data: letters(1000)}, {Path: "a", Kind: '0', Link: letters(200), Data: letters(1000)},
		file("a", 4001), file("a", 4096), file("a", 4608), file("a", 50000), file(letters(200), 4001),
	}
	for kind := range 256 {
		if kind != '0' {
			list = append(list, api.Node{Path: "a/b", Kind: byte(kind), Data: letters(1000)})
		}
	}
	for _, p := range noPaths() {
		list = append(list, file(p, 1000))
	}
	for _, p := range []string{"a", letters(200)} {
		for i := range 4 {
			for _, x := range []int{-1, most + 1, math.MinInt, math.MaxInt} {
				n := file(p, 1000)
				*four(&n)[i] = x
				list = append(list, n)
			}
		}
		n := file(p, 1000)
		n.Mode = 4096
		list = append(list, n)
	}
	return list
}

// wantSafe says whether a path may be.
func wantSafe(p string) bool {
	for _, part := range strings.Split(p, "/") {
		if part == "" || part == "." || part == ".." {
			return false
		}
	}
	return len(p) < 301 && !strings.Contains(p, "\x00")
}

// wantFile says whether a node may be alone, and is a file.
func wantFile(n api.Node) bool {
	return wantSafe(n.Path) && n.Kind == '0' && n.Link == "" && len(n.Data) < 4001 &&
		n.Mode >= 0 && n.Mode < 4096 && n.Uid >= 0 && n.Uid <= most && n.Gid >= 0 && n.Gid <= most && n.Mtime >= 0 && n.Mtime <= most
}

// wantMay counts the places.
func wantMay(n api.Node, off int) bool {
	return wantFile(n) && slices.Contains(places(len(n.Data)), off)
}

// wantField is a number's field.
func wantField(n, wide int) []byte {
	if digits := fmt.Sprintf("%0*o", wide-1, n); len(digits) < wide {
		return append([]byte(digits), 0)
	}
	whole := binary.BigEndian.AppendUint64(make([]byte, 12), uint64(n))
	field := whole[len(whole)-wide:]
	field[0] = 128
	return field
}

// wantBlock is a header's block.
func wantBlock(h api.Head) []byte {
	b := make([]byte, 512)
	copy(b, h.Name)
	copy(b[100:], wantField(h.Mode, 8))
	copy(b[108:], wantField(h.Uid, 8))
	copy(b[116:], wantField(h.Gid, 8))
	copy(b[124:], wantField(h.Size, 12))
	copy(b[136:], wantField(h.Mtime, 12))
	b[156] = h.Type
	copy(b[157:], h.Link)
	copy(b[257:], []byte{'u', 's', 't', 'a', 'r', 0, 48, 48})
	copy(b[345:], h.Prefix)
	if h.Type == 'M' {
		copy(b[369:], wantField(h.Off, 12))
		copy(b[483:], wantField(h.Real, 12))
	}
	return summed(b)
}

// summed is the block b with its sum as it has to be.
func summed(b []byte) []byte {
	b = bytes.Clone(b)
	copy(b[148:], "        ")
	sum := 0
	for _, x := range b {
		sum += int(x)
	}
	copy(b[148:], fmt.Sprintf("%06o\x00 ", sum))
	return b
}

// laid is a block with text at a place, and the right sum again.
func laid(b []byte, at int, text string) []byte {
	b = bytes.Clone(b)
	copy(b[at:], text)
	return summed(b)
}

// wantAhead are the two blocks of a long name.
func wantAhead(p string) [][]byte {
	text := make([]byte, 512)
	copy(text, p)
	return [][]byte{wantBlock(api.Head{Name: "././@LongLink", Size: len(p) + 1, Type: 'L'}), text}
}

// wantHead is the header of a file that goes on.
func wantHead(n api.Node, off int) api.Head {
	name := n.Path
	if len(name) > 100 {
		name = name[:100]
	}
	return api.Head{Name: name, Mode: n.Mode, Uid: n.Uid, Gid: n.Gid, Mtime: n.Mtime, Size: len(n.Data) - off, Type: 'M', Off: off, Real: len(n.Data)}
}

// wantPut are the blocks of a file that may go on there.
func wantPut(n api.Node, off int) [][]byte {
	own := wantBlock(wantHead(n, off))
	if len(n.Path) > 100 {
		return append(wantAhead(n.Path), own)
	}
	return [][]byte{own}
}

// told is what Get answers.
type told struct {
	n             api.Node
	off, whole, k int
	ok            bool
}

func (x told) String() string {
	return fmt.Sprintf("%s, %d, %d, %d, %t", show(x.n), x.off, x.whole, x.k, x.ok)
}

func get(l [][]byte) told {
	n, off, whole, k, ok := Get(l)
	return told{n, off, whole, k, ok}
}

// wantTold is what is told of a file that goes on at a place.
func wantTold(n api.Node, off int) told {
	x := told{n: n, off: off, whole: len(n.Data), k: 1, ok: true}
	x.n.Data = ""
	if len(n.Path) > 100 {
		x.k = 3
	}
	return x
}

// wantGet says what Get has to answer: it asks of the first block, and of the third one, whether a header of it is one of the kind, field by field.
func wantGet(l [][]byte) told {
	if len(l) > 0 {
		if h, e := head.Get(l[0]); e == api.OK && wantMore(h, h.Name) {
			return toldOf(h, h.Name, 1)
		}
	}
	if len(l) < 3 || len(l[1]) != 512 {
		return told{}
	}
	p := strings.TrimRight(string(l[1]), "\x00")
	h, e := head.Get(l[2])
	if e != api.OK || len(p) < 101 || !wantMore(h, p) || !block.Same(l[:2], wantAhead(p)) {
		return told{}
	}
	return toldOf(h, p, 3)
}

// wantMore says whether a header is that of a file of that path that goes on.
func wantMore(h api.Head, p string) bool {
	return wantSafe(p) && h.Name == p[:min(len(p), 100)] && h.Prefix == "" && h.Link == "" && h.Type == 'M' &&
		h.Mode < 4096 && h.Uid <= most && h.Gid <= most && h.Mtime <= most &&
		h.Real <= 4000 && h.Off%512 == 0 && h.Off < h.Real && h.Size == h.Real-h.Off
}

func toldOf(h api.Head, p string, k int) told {
	return told{api.Node{Path: p, Kind: '0', Mode: h.Mode, Uid: h.Uid, Gid: h.Gid, Mtime: h.Mtime}, h.Off, h.Real, k, true}
}

// checkPut holds May and Put against what they have to answer, and Get of the blocks against what was put.
func checkPut(t *testing.T, n api.Node, off int) {
	t.Helper()
	if !wantMay(n, off) {
		checkNothing(t, n, off)
		return
	}
	if !May(n, off) {
		t.Errorf("May(%s, %d) = false", show(n), off)
	}
	want := wantPut(n, off)
	if got, ok := Put(n, off); !ok || !block.Same(got, want) {
		t.Errorf("Put(%s, %d) = %q, %t; want %q", show(n), off, got, ok, want)
	}
	if got, want := get(want), wantTold(n, off); got != want {
		t.Errorf("Get of the blocks of %s, %d = %s", show(n), off, got)
	}
}

// checkNothing fails if there is anything of a file that may not go on there.
func checkNothing(t *testing.T, n api.Node, off int) {
	t.Helper()
	if May(n, off) {
		t.Errorf("May(%s, %d) = true", show(n), off)
	}
	if got, ok := Put(n, off); ok || len(got) != 0 {
		t.Errorf("Put(%s, %d) = %d blocks, %t; want nothing, false", show(n), off, len(got), ok)
	}
}

// checkNone fails if Get answers anything.
func checkNone(t *testing.T, why string, l ...[]byte) {
	t.Helper()
	if got := get(l); got != (told{}) {
		t.Errorf("Get of %s = %s; want nothing", why, got)
	}
}

// checkGet holds Get against what it has to answer, and tells whether there was something.
func checkGet(t *testing.T, l [][]byte) bool {
	t.Helper()
	got, want := get(l), wantGet(l)
	if got != want {
		t.Errorf("Get(%q) = %s; want %s", l, got, want)
	}
	return want.ok
}

// mustPut are the blocks of a file that may go on there.
func mustPut(t *testing.T, n api.Node, off int) [][]byte {
	t.Helper()
	l, ok := Put(n, off)
	if !ok || len(l) != wantTold(n, off).k {
		t.Fatalf("Put(%s, %d) = %d blocks, %t", show(n), off, len(l), ok)
	}
	return l
}

// cloned are the same blocks, each in memory of its own.
func cloned(l [][]byte) [][]byte {
	var list [][]byte
	for _, b := range l {
		list = append(list, bytes.Clone(b))
	}
	return list
}

// P15.1

func TestMayAtItsEdges(t *testing.T) {
	for _, x := range []struct {
		size, off int
		want      bool
	}{
		{0, 0, false}, {0, 512, false}, {0, -512, false},
		{1, 0, true}, {1, 1, false}, {1, 512, false}, {1, -1, false}, {1, -512, false},
		{511, 0, true}, {511, 511, false}, {511, 512, false},
		{512, 0, true}, {512, 1, false}, {512, 511, false}, {512, 512, false}, {512, 1024, false},
		{513, 0, true}, {513, 511, false}, {513, 512, true}, {513, 513, false}, {513, 1024, false},
		{1000, 0, true}, {1000, 512, true}, {1000, 488, false}, {1000, 1000, false}, {1000, 1024, false},
		{1024, 512, true}, {1024, 1023, false}, {1024, 1024, false}, {1025, 1024, true},
		{4000, 0, true}, {4000, 512, true}, {4000, 3072, true}, {4000, 3583, false}, {4000, 3584, true}, {4000, 3585, false}, {4000, 3999, false}, {4000, 4000, false}, {4000, 4096, false},
		{3584, 3072, true}, {3584, 3584, false}, {3585, 3584, true},
		{4000, -1, false}, {4000, -512, false}, {4000, -3584, false}, {4000, math.MinInt, false}, {4000, math.MaxInt, false}, {4000, math.MaxInt - 511, false}, {4000, 1<<32 + 512, false},
		{4001, 0, false}, {4001, 512, false}, {4096, 3584, false},
	} {
		for _, p := range []string{"a", "a/b", letters(100), letters(101), slashed(256, 155), letters(300)} {
			n := file(p, x.size)
			if got := May(n, x.off); got != x.want {
				t.Errorf("May(%s, %d) = %t; want %t", show(n), x.off, got, x.want)
			}
			checkPut(t, n, x.off)
		}
	}
}

func TestMayAtAllPlaces(t *testing.T) {
	for _, size := range append(sizes(), 0, 4001, 4096) {
		n := file("a/b", size)
		for off := -1100; off < 5200; off++ {
			want := size <= 4000 && off >= 0 && off < size && off%512 == 0
			if got := May(n, off); got != want {
				t.Errorf("May of %d bytes, %d = %t; want %t", size, off, got, want)
			}
		}
	}
}

func TestMayOfAllSizes(t *testing.T) {
	for size := range 4100 {
		for _, off := range []int{0, 512, 1024, 3072, 3584, 4096, size, size / 512 * 512, size - 512} {
			want := size <= 4000 && off >= 0 && off < size && off%512 == 0
			if got := May(file("a", size), off); got != want {
				t.Errorf("May of %d bytes, %d = %t; want %t", size, off, got, want)
			}
		}
	}
}

func TestPlacesWhereNothingGoesOn(t *testing.T) {
	for _, p := range []string{"a", "a/b/c", letters(100), letters(101), letters(300)} {
		for _, size := range append(sizes(), 0) {
			for _, off := range noPlaces(size) {
				checkNothing(t, file(p, size), off)
			}
		}
	}
}

func TestWhatIsNoFile(t *testing.T) {
	for _, n := range noFiles() {
		for _, off := range []int{0, 1, 512, 1024, 3584, 4096, -1, -512, math.MinInt, math.MaxInt} {
			checkNothing(t, n, off)
		}
		if got := Many(n); got != 0 {
			t.Errorf("Many(%s) = %d; want 0", show(n), got)
		}
	}
}

func TestMany(t *testing.T) {
	for _, x := range []struct{ size, want int }{{1, 1}, {2, 1}, {99, 1}, {100, 1}, {101, 3}, {102, 3}, {155, 3}, {156, 3}, {256, 3}, {257, 3}, {299, 3}, {300, 3}, {0, 0}, {301, 0}, {512, 0}} {
		// With bytes or without them, and whatever they are: a file of no bytes goes on nowhere, but it has so many blocks all the same.
		for _, size := range append(sizes(), 0) {
			if got := Many(file(letters(x.size), size)); got != x.want {
				t.Errorf("Many of a path of %d bytes, %d bytes of data = %d; want %d", x.size, size, got, x.want)
			}
		}
	}
	for size := range 310 {
		want := 1
		if size > 100 {
			want = 3
		}
		if size == 0 || size > 300 {
			want = 0
		}
		for _, p := range []string{letters(size), strings.Repeat("\xff", size), strings.Repeat("é", size/2) + strings.Repeat("e", size%2)} {
			if got := Many(file(p, 1000)); got != want {
				t.Errorf("Many of a path of %d bytes = %d; want %d", size, got, want)
			}
		}
	}
}

func TestManyIsHowManyArePut(t *testing.T) {
	for _, p := range allPaths() {
		for _, size := range []int{1, 513, 4000} {
			for _, n := range numbered(file(p, size)) {
				for _, off := range places(size) {
					if got, l := Many(n), mustPut(t, n, off); got != len(l) {
						t.Errorf("Many(%s) = %d; at %d there are %d blocks", show(n), got, off, len(l))
					}
				}
			}
		}
	}
}

// P15.2

// The bytes are written out here, one by one, with the sum that they have.
func TestPutOfSome(t *testing.T) {
	small := strings.Repeat("0000000\x00", 3)
	great := "0007777\x00" + "\x80\x00\x01\x00\x00\x00\x00\x00" + "\x80\x00\x01\x00\x00\x00\x00\x00"
	for _, x := range []struct {
		n                                            api.Node
		off                                          int
		three, size, mtime, sum, offField, realField string
	}{
		{file("a", 1000), 512, small, "00000000750", "00000000000\x00", "010207", "00000001000", "00000001750"},
		{file("a", 1), 0, small, "00000000001", "00000000000\x00", "010157", "00000000000", "00000000001"},
		{
			api.Node{Path: "a/b", Kind: '0', Mode: 420, Uid: 1000, Gid: 100, Mtime: 1700000000, Data: letters(4000)}, 3584,
			"0000644\x000001750\x000000144\x00", "00000000640", "14524770400\x00", "010546", "00000007000", "00000007640",
		},
		{
			api.Node{Path: strings.Repeat("x", 100), Kind: '0', Mode: 4095, Uid: most, Gid: most, Mtime: most, Data: letters(513)}, 512,
			great, "00000000001", "\x80\x00\x00\x00\x00\x00\x01\x00\x00\x00\x00\x00", "035737", "00000001000", "00000001001",
		},
	} {
		want := x.n.Path + strings.Repeat("\x00", 100-len(x.n.Path)) + x.three + x.size + "\x00" + x.mtime + x.sum + "\x00 " +
			"M" + strings.Repeat("\x00", 100) + "ustar\x00" + "00" + strings.Repeat("\x00", 104) +
			x.offField + "\x00" + strings.Repeat("\x00", 102) + x.realField + "\x00" + strings.Repeat("\x00", 17)
		if got, ok := Put(x.n, x.off); !ok || len(got) != 1 || string(got[0]) != want {
			t.Errorf("Put(%s, %d) = %q, %t; want %q", show(x.n), x.off, got, ok, want)
		}
		if got := get([][]byte{[]byte(want)}); got != wantTold(x.n, x.off) {
			t.Errorf("Get of the block of %s, %d = %s", show(x.n), x.off, got)
		}
	}
}

func TestPutOfALongName(t *testing.T) {
	p := strings.Repeat("x", 101)
	first := "././@LongLink" + strings.Repeat("\x00", 87) + strings.Repeat("0000000\x00", 3) + "00000000146\x00" + "00000000000\x00" + "010016\x00 " +
		"L" + strings.Repeat("\x00", 100) + "ustar\x00" + "00" + strings.Repeat("\x00", 247)
	second := p + strings.Repeat("\x00", 411)
	third := string(wantBlock(api.Head{Name: p[:100], Size: 488, Type: 'M', Off: 512, Real: 1000}))
	got, ok := Put(file(p, 1000), 512)
	if !ok || len(got) != 3 || string(got[0]) != first || string(got[1]) != second || string(got[2]) != third {
		t.Errorf("Put of a path of 101 bytes = %q, %t", got, ok)
	}
	want := told{api.Node{Path: p, Kind: '0'}, 512, 1000, 3, true}
	if got := get([][]byte{[]byte(first), []byte(second), []byte(third)}); got != want {
		t.Errorf("Get of these = %s; want %s", got, want)
	}
}

func TestTheHeaders(t *testing.T) {
	for _, p := range allPaths() {
		for _, size := range []int{1, 512, 513, 4000} {
			for _, n := range numbered(file(p, size)) {
				for _, off := range places(size) {
					l := mustPut(t, n, off)
					want := wantHead(n, off)
					if got, e := head.Get(l[len(l)-1]); e != api.OK || got != want {
						t.Errorf("the header of %s, %d = %#v, %d; want %#v", show(n), off, got, e, want)
					}
					name, _ := long.Put('L', p)
					if ahead := l[:len(l)-1]; len(ahead) > 0 && !block.Same(ahead, name) {
						t.Errorf("ahead of the header of %s, %d stands %q; want %q", show(n), off, ahead, name)
					}
				}
			}
		}
	}
}

func TestAllPathsSizesAndPlaces(t *testing.T) {
	for _, p := range allPaths() {
		for _, size := range sizes() {
			for _, n := range numbered(file(p, size)) {
				for _, off := range places(size) {
					checkPut(t, n, off)
				}
			}
		}
	}
}

func TestAllLengthsOfPaths(t *testing.T) {
	for size := range 310 {
		for _, off := range []int{0, 512, 1, 1024} {
			checkPut(t, file(letters(size), 1000), off)
			checkPut(t, file(strings.Repeat("\xff", size), 1000), off)
			if size > 4 {
				checkPut(t, file(slashed(size, size/2), 1000), off)
				checkPut(t, file(slashed(size, 1, size-2), 1000), off)
				checkPut(t, file(slashed(size, size-1), 1000), off)
			}
		}
	}
}

func TestPathsThatMayNotBe(t *testing.T) {
	for _, p := range noPaths() {
		for _, n := range numbered(file(p, 1000)) {
			checkPut(t, n, 0)
			checkPut(t, n, 512)
		}
	}
}

func TestTheBytesThemselvesAreNotTold(t *testing.T) {
	for _, p := range []string{"a", letters(200)} {
		want := mustPut(t, file(p, 1000), 512)
		for _, data := range []string{strings.Repeat("\x00", 1000), strings.Repeat("\xff", 1000), strings.Repeat("M", 1000), strings.Repeat("é", 500)} {
			n := file(p, 0)
			n.Data = data
			if got, ok := Put(n, 512); !ok || !block.Same(got, want) {
				t.Errorf("Put of other bytes = %q, %t; want %q", got, ok, want)
			}
		}
	}
}

// P15.3

func TestGetOfNothing(t *testing.T) {
	checkNone(t, "nil")
	if got := get([][]byte{}); got != (told{}) {
		t.Errorf("Get of no blocks = %s", got)
	}
	checkNone(t, "a block of no bytes", nil)
	checkNone(t, "a block of no bytes", []byte{})
	checkNone(t, "three blocks of no bytes", nil, []byte{}, nil)
	for _, x := range []byte{0, 1, '0', 'M', 255} {
		b := bytes.Repeat([]byte{x}, 512)
		for k := range 5 {
			checkNone(t, fmt.Sprintf("%d blocks of bytes %d", k, x), slices.Repeat([][]byte{b}, k)...)
		}
	}
}

func TestGetOfAFileThatGoesOn(t *testing.T) {
	n := api.Node{Path: "a/b", Kind: '0', Mode: 420, Uid: 1, Gid: 2, Mtime: 3, Data: letters(1000)}
	got, off, whole, k, ok := Get(mustPut(t, n, 512))
	if want := (api.Node{Path: "a/b", Kind: '0', Mode: 420, Uid: 1, Gid: 2, Mtime: 3}); got != want || off != 512 || whole != 1000 || k != 1 || !ok {
		t.Errorf("Get = %s, %d, %d, %d, %t", show(got), off, whole, k, ok)
	}
	n.Path = slashed(256, 155)
	got, off, whole, k, ok = Get(mustPut(t, n, 0))
	if want := (api.Node{Path: n.Path, Kind: '0', Mode: 420, Uid: 1, Gid: 2, Mtime: 3}); got != want || off != 0 || whole != 1000 || k != 3 || !ok {
		t.Errorf("Get = %s, %d, %d, %d, %t", show(got), off, whole, k, ok)
	}
}

func TestGetOfBlocksOfOtherLengths(t *testing.T) {
	for _, p := range []string{"a", letters(100), letters(101), letters(300)} {
		l := mustPut(t, file(p, 1000), 512)
		for i, b := range l {
			for _, other := range [][]byte{nil, {}, b[:1], b[:100], b[:256], b[:511], append(bytes.Clone(b), 0), append(bytes.Clone(b), 'x'), append(bytes.Clone(b), b...), append([]byte{0}, b...)} {
				changed := slices.Clone(l)
				changed[i] = other
				checkNone(t, fmt.Sprintf("block %d of %d bytes", i, len(other)), changed...)
				checkNone(t, fmt.Sprintf("block %d of %d bytes, and one behind", i, len(other)), append(changed, make([]byte, 512))...)
			}
		}
	}
	// As many bytes as there are to be, but parted at other places.
	l := mustPut(t, file(letters(200), 1000), 512)
	all := bytes.Join(l, nil)
	checkNone(t, "all blocks as one", all)
	checkNone(t, "blocks of 511 and 513 bytes", all[:511], all[511:1024], all[1024:])
	checkNone(t, "blocks of 513 and 511 bytes", l[0], all[512:1025], all[1025:])
}

func TestGetOfOnlySomeOfTheBlocks(t *testing.T) {
	for _, p := range longPaths() {
		l := mustPut(t, file(p, 1000), 512)
		checkNone(t, "the first block alone", l[0])
		checkNone(t, "the first two", l[0], l[1])
		checkNone(t, "the second one alone", l[1])
		checkNone(t, "the last two", l[1], l[2])
		checkNone(t, "the first one and the last one", l[0], l[2])
		checkNone(t, "the first one twice", l[0], l[0], l[1], l[2])
		checkNone(t, "the text twice", l[0], l[1], l[1], l[2])
		checkNone(t, "the text first", l[1], l[0], l[2])
		checkNone(t, "the last one ahead of the text", l[0], l[2], l[1])
		// The last one is itself one of a file, if the beginning of its path may be one.
		if got := checkGet(t, l[2:]); got != wantSafe(p[:100]) {
			t.Errorf("Get of the last block alone, of a path of %q = %t", p, got)
		}
	}
}

func TestGetOfASpoiltSum(t *testing.T) {
	for _, p := range []string{"a", letters(100), letters(101), slashed(300, 150)} {
		l := cloned(mustPut(t, file(p, 1000), 512))
		for i, b := range l {
			if i == 1 {
				continue // a text has no sum
			}
			for at := range b {
				was := b[at]
				for _, x := range []byte{was + 1, was - 1, was ^ 128, 0, ' ', '0', 'M', 255} {
					if b[at] = x; x != was {
						checkNone(t, fmt.Sprintf("block %d with a byte %d at %d", i, x, at), l...)
					}
				}
				b[at] = was
			}
		}
	}
}

// With its sum put right, another byte may well make another file's header: the model says which.
func TestGetOfOneOtherByteEachAndItsSum(t *testing.T) {
	for _, p := range []string{"a", "a/b", letters(100), slashed(101, 50), letters(300)} {
		for _, x := range []struct{ size, off int }{{1000, 512}, {4000, 0}} {
			l := mustPut(t, file(p, x.size), x.off)
			for i, b := range l {
				for at := range 512 {
					for _, other := range []byte{0, 1, ' ', '.', '/', '0', '1', '7', '8', 'K', 'L', 'M', 'V', 'a', 128, 255, b[at] + 1, b[at] - 1} {
						changed := cloned(l)
						changed[i][at] = other
						if i != 1 {
							changed[i] = summed(changed[i])
						}
						checkGet(t, changed)
					}
				}
			}
		}
	}
}

func TestGetOfOtherTypes(t *testing.T) {
	for _, kind := range []byte("0125KLV") {
		checkNone(t, "a header of another type", wantBlock(api.Head{Name: "a", Type: kind}))
		b := wantBlock(api.Head{Name: "a", Size: 488, Type: kind})
		checkNone(t, "a header of another type", b)
		checkNone(t, "three headers of another type", b, b, b)
		// The numbers stand in it where a header of type M has them.
		b = laid(wantBlock(api.Head{Name: "a", Size: 488, Type: 'M', Off: 512, Real: 1000}), 156, string([]byte{kind}))
		checkNone(t, "a header of another type with Off and Real", b)
		ahead := wantAhead(letters(200))
		b = wantBlock(api.Head{Name: letters(100), Size: 488, Type: kind})
		checkNone(t, "a long name ahead of another header", ahead[0], ahead[1], b)
		b = laid(wantBlock(api.Head{Name: letters(100), Size: 488, Type: 'M', Off: 512, Real: 1000}), 156, string([]byte{kind}))
		checkNone(t, "a long name ahead of another header with Off and Real", ahead[0], ahead[1], b)
	}
	for kind := range 256 {
		b := wantBlock(api.Head{Name: "a", Size: 488, Type: 'M', Off: 512, Real: 1000})
		b = laid(b, 156, string([]byte{byte(kind)}))
		if got := checkGet(t, [][]byte{b}); got != (kind == 'M') {
			t.Errorf("Get of a header of type %d = %t", kind, got)
		}
	}
}

// moreOf are the blocks of a header of type M, with a long name of p ahead, if p needs one. What head has no block for is laid into one by the caller.
func moreOf(h api.Head, p string) [][]byte {
	h.Type, h.Name = 'M', p[:min(len(p), 100)]
	if len(p) > 100 {
		return append(wantAhead(p), wantBlock(h))
	}
	return [][]byte{wantBlock(h)}
}

func TestGetOfNumbersThatNoFileHas(t *testing.T) {
	for _, p := range []string{"a", letters(100), letters(101), letters(300)} {
		none := func(why string, change func(h *api.Head)) {
			t.Helper()
			h := api.Head{Size: 488, Off: 512, Real: 1000}
			change(&h)
			checkNone(t, why, moreOf(h, p)...)
		}
		for _, x := range []int{4096, 4097, 8191, 1<<21 - 1, 1 << 21, 1 << 40, 1<<56 - 1} {
			none("a mode that no file has", func(h *api.Head) { h.Mode = x })
		}
		for _, x := range []int{most + 1, most + 512, 1 << 41, 1<<56 - 1} {
			none("an owner that no file has", func(h *api.Head) { h.Uid = x })
			none("a group that no file has", func(h *api.Head) { h.Gid = x })
			none("a time that no file has", func(h *api.Head) { h.Mtime = x })
		}
		none("a time that no file has", func(h *api.Head) { h.Mtime = math.MaxInt })
		for _, x := range []int{0, 1, 487, 489, 512, 511, 1000, 1512, 4000, 1 << 33, math.MaxInt} {
			none("a size that is not what is left", func(h *api.Head) { h.Size = x })
		}
		for _, x := range []int{0, 1, 487, 488, 512, 999, 1001, 1512, 4000, 4001, math.MaxInt} {
			none("another number of bytes in all", func(h *api.Head) { h.Real = x })
		}
		for _, x := range []int{0, 1, 488, 511, 513, 1000, 1024, 1<<32 + 512, math.MaxInt, math.MaxInt - 511} {
			none("another place", func(h *api.Head) { h.Off = x })
		}
		for _, x := range []string{"b", "a", letters(100), "/", "."} {
			none("a link", func(h *api.Head) { h.Link = x })
		}
		none("nothing but noughts", func(h *api.Head) { *h = api.Head{} })
	}
}

// Here Size and Off are Real together.
func TestGetOfPlacesAndSizes(t *testing.T) {
	for _, p := range []string{"a", letters(101)} {
		for _, real := range []int{0, 1, 511, 512, 513, 1000, 1024, 3584, 3999, 4000, 4001, 4002, 4096, 4608, 5000, 8000, 1 << 16, 1 << 20, 1 << 31, 1 << 33, 1 << 40, 1 << 62, math.MaxInt} {
			for _, off := range []int{0, 1, 2, 256, 511, 512, 513, 1000, 1023, 1024, 2048, 3584, 3999, 4000, 4096, real - 1, real - 512, real / 512 * 512} {
				if off < 0 || off > real {
					continue
				}
				l := moreOf(api.Head{Size: real - off, Off: off, Real: real}, p)
				want := real <= 4000 && off < real && off%512 == 0
				if got := checkGet(t, l); got != want {
					t.Errorf("Get of a place %d of %d = %t", off, real, got)
				}
			}
		}
		// Behind the end there is less than nothing left: no header has that, but the sum may wrap around.
		for _, x := range []api.Head{{Size: 0, Off: 512, Real: 512}, {Size: 0, Off: 0, Real: 0}, {Size: 0, Off: 4096, Real: 4096}, {Size: 512, Off: 1024, Real: 512}, {Size: math.MaxInt, Off: 1024, Real: 1023}} {
			checkNone(t, "a place behind the end", moreOf(x, p)...)
		}
	}
}

// Numbers below 0, and such as are spelt another way, have no header, though their bytes and the sum may stand there.
func TestGetOfFieldsThatNoHeaderHas(t *testing.T) {
	good := wantBlock(api.Head{Name: "a", Size: 488, Type: 'M', Off: 512, Real: 1000})
	for _, at := range []int{100, 108, 116} {
		for _, field := range []string{"-000001\x00", "\xff\xff\xff\xff\xff\xff\xff\xff", "0000000 ", " 000000\x00", "000000\x00\x00", "0000008\x00", "\x80\x00\x00\x00\x00\x00\x00\x00", "\x81\x00\x00\x00\x00\x00\x00\x01"} {
			checkNone(t, fmt.Sprintf("%q at %d", field, at), laid(good, at, field))
		}
	}
	for _, at := range []int{124, 136, 369, 483} {
		for _, field := range []string{
			"-0000001000\x00", "\xff\xff\xff\xff\xff\xff\xff\xff\xff\xff\xfe\x00", "\x80\xff\xff\xff\xff\xff\xff\xff\xff\xff\xfe\x00", "\x80\x00\x00\x00\xff\xff\xff\xff\xff\xff\xfe\x00",
			"\x80\x00\x00\x00\x80\x00\x00\x00\x00\x00\x02\x00", "\x80\x00\x00\x00\x00\x00\x00\x00\x00\x00\x02\x00", "\x80\x00\x01\x00\x00\x00\x00\x00\x00\x00\x02\x00",
			"00000001000 ", " 0000001000\x00", "0000001000\x00\x00", "00000001008\x00", "00000001000\x01", "\x00\x00\x00\x00\x00\x00\x00\x00\x00\x00\x00\x00",
		} {
			checkNone(t, fmt.Sprintf("%q at %d", field, at), laid(good, at, field))
		}
	}
	for _, at := range []int{157, 256, 257, 262, 263, 264, 265, 344, 345, 346, 368, 381, 482, 495, 511} {
		checkNone(t, fmt.Sprintf("a byte at %d", at), laid(good, at, "x"))
	}
	// A prefix stands where a header of type M has noughts, and then Off.
	checkNone(t, "a prefix of one byte", laid(good, 345, "p"))
	checkNone(t, "a prefix of 24 bytes", laid(good, 345, letters(24)))
	checkNone(t, "a prefix of 155 bytes", laid(good, 345, letters(155)))
}

func TestGetOfNamesThatAreNoPath(t *testing.T) {
	for _, p := range noPaths() {
		if len(p) > 0 && len(p) <= 100 && !strings.Contains(p, "\x00") {
			checkNone(t, fmt.Sprintf("the name %q", p), moreOf(api.Head{Size: 488, Off: 512, Real: 1000}, p)...)
		}
	}
	good := wantBlock(api.Head{Name: "a", Size: 488, Type: 'M', Off: 512, Real: 1000})
	checkNone(t, "no name", laid(good, 0, "\x00"))
	checkNone(t, "a byte behind a name's end", laid(good, 2, "b"))
	for at := range 100 {
		for _, x := range []byte("/.a\x00") {
			b := laid(wantBlock(api.Head{Name: letters(100), Size: 488, Type: 'M', Off: 512, Real: 1000}), at, string([]byte{x}))
			checkGet(t, [][]byte{b})
		}
	}
}

func TestGetOfLongNamesThatAreNoPath(t *testing.T) {
	for _, p := range []string{slashed(101, 100), slashed(120, 0), slashed(120, 50, 51), slashed(120, 100, 101), "../" + letters(110), letters(110) + "/..", letters(50) + "/./" + letters(60), letters(110) + "/.", slashed(300, 299), letters(301), letters(400), letters(511)} {
		checkNone(t, fmt.Sprintf("the long name %q", p), moreOf(api.Head{Size: 488, Off: 512, Real: 1000}, p)...)
	}
}

func TestGetOfLongNamesThatAreShort(t *testing.T) {
	for _, p := range shortPaths() {
		own := wantBlock(wantHead(file(p, 1000), 512))
		ahead := wantAhead(p)
		checkNone(t, fmt.Sprintf("a long name of %d bytes", len(p)), ahead[0], ahead[1], own)
		checkNone(t, fmt.Sprintf("a long name of %d bytes, and noughts behind", len(p)), ahead[0], ahead[1], own, make([]byte, 512))
	}
	// An empty one: it ends where it begins.
	own := wantBlock(wantHead(file("a", 1000), 512))
	checkNone(t, "a long name of no bytes", wantBlock(api.Head{Name: "././@LongLink", Size: 1, Type: 'L'}), make([]byte, 512), own)
	checkNone(t, "a long name of no bytes", wantBlock(api.Head{Name: "././@LongLink", Size: 0, Type: 'L'}), make([]byte, 512), own)
}

func TestGetOfOtherLongNames(t *testing.T) {
	p := letters(200)
	own := wantBlock(wantHead(file(p, 1000), 512))
	ahead := wantAhead(p)
	if got := get([][]byte{ahead[0], ahead[1], own}); got != wantTold(file(p, 1000), 512) {
		t.Fatalf("Get = %s", got)
	}
	for at := range 100 {
		other := wantBlock(wantHead(file(with(p, at, 'X'), 1000), 512))
		checkNone(t, "a name that is not the path's beginning", ahead[0], ahead[1], other)
		other = wantBlock(api.Head{Name: p[:at+1], Size: 488, Type: 'M', Off: 512, Real: 1000})
		if at < 99 {
			checkNone(t, "a name that is too short", ahead[0], ahead[1], other)
		}
	}
	checkNone(t, "a name that is the path's end", ahead[0], ahead[1], wantBlock(api.Head{Name: p[100:], Size: 488, Type: 'M', Off: 512, Real: 1000}))
	checkNone(t, "a long link", wantBlock(api.Head{Name: "././@LongLink", Size: 201, Type: 'K'}), ahead[1], own)
	checkNone(t, "a long link ahead of a long name", append(append([][]byte{wantBlock(api.Head{Name: "././@LongLink", Size: 201, Type: 'K'}), ahead[1]}, ahead...), own)...)
	for _, size := range []int{0, 1, 2, 100, 101, 199, 200, 202, 300, 301, 302, 512, 513, 1024, math.MaxInt} {
		checkNone(t, "another size of the long name", wantBlock(api.Head{Name: "././@LongLink", Size: size, Type: 'L'}), ahead[1], own)
	}
	for _, h := range []api.Head{
		{Name: "././@LongLin", Size: 201}, {Name: "././@LongLinkx", Size: 201}, {Name: "@LongLink", Size: 201}, {Name: p[:100], Size: 201}, {Name: "a", Size: 201},
		{Name: "././@LongLink", Size: 201, Mode: 1}, {Name: "././@LongLink", Size: 201, Uid: 1}, {Name: "././@LongLink", Size: 201, Gid: 1}, {Name: "././@LongLink", Size: 201, Mtime: 1},
		{Name: "././@LongLink", Size: 201, Mode: 420}, {Name: "././@LongLink", Size: 201, Link: "a"}, {Name: "././@LongLink", Size: 201, Prefix: "a"}, {Name: "@LongLink", Prefix: "./.", Size: 201},
	} {
		h.Type = 'L'
		checkNone(t, "another header of the long name", wantBlock(h), ahead[1], own)
	}
}

func TestGetOfOtherTextsOfALongName(t *testing.T) {
	p := letters(200)
	own := wantBlock(wantHead(file(p, 1000), 512))
	ahead := wantAhead(p)
	for at := range 512 {
		b := bytes.Clone(ahead[1])
		for _, x := range []byte{0, 'X', '/', 255} {
			b[at] = x
			// Behind the name's first 100 bytes another letter makes another path, as long.
			want := told{}
			if path := string(b[:200]); at < 200 && at >= 100 && wantSafe(path) {
				want = wantTold(file(path, 1000), 512)
			} else if bytes.Equal(b, ahead[1]) {
				want = wantTold(file(p, 1000), 512)
			}
			if got := get([][]byte{ahead[0], b, own}); got != want {
				t.Errorf("Get of a long name with a byte %d at %d = %s; want %s", x, at, got, want)
			}
		}
	}
	checkNone(t, "noughts as the text", ahead[0], make([]byte, 512), own)
	checkNone(t, "a header as the text", ahead[0], own, own)
	checkNone(t, "a text without an end", ahead[0], []byte(letters(512)), own)
	checkNone(t, "another path's text", ahead[0], wantAhead(letters(201))[1], own)
	checkNone(t, "another path's text", ahead[0], wantAhead(letters(199))[1], own)
	checkNone(t, "no text", ahead[0], nil, own)
	checkNone(t, "a text of 200 bytes", ahead[0], []byte(p), own)
	checkNone(t, "a text of 201 bytes", ahead[0], []byte(p+"\x00"), own)
}

func TestGetOfAllSortsOfHeaders(t *testing.T) {
	r := rand.New(rand.NewSource(15))
	found := 0
	for range 40000 {
		l := someBlocks(r)
		if checkGet(t, l) {
			found++
		}
	}
	if found < 4000 || found > 36000 {
		t.Errorf("%d of the lists were of files that go on", found)
	}
}

// someBlocks are often those of a file that goes on, and else nearly so.
func someBlocks(r *rand.Rand) [][]byte {
	real := r.Intn(4100)
	off := r.Intn(real+600) / 512 * 512
	if r.Intn(8) == 0 {
		off = r.Intn(4100)
	}
	paths := allPaths()
	p := paths[r.Intn(len(paths))]
	h := api.Head{Name: p[:min(len(p), 100)], Size: max(real-off, 0), Type: 'M', Off: off, Real: real}
	for i, field := range []*int{&h.Mode, &h.Uid, &h.Gid, &h.Mtime} {
		if r.Intn(4) == 0 {
			*field = []int{1, 420, 4095, most, 4096, 1 << 21, most + 1}[r.Intn(7-3*min(i, 1))]
		}
	}
	if r.Intn(16) == 0 {
		h.Link = paths[r.Intn(10)]
	}
	if r.Intn(16) == 0 {
		h.Type, h.Off, h.Real = "0125KLV"[r.Intn(7)], 0, 0
	}
	if r.Intn(16) == 0 {
		h.Size = r.Intn(4100)
	}
	l := [][]byte{wantBlock(h)}
	if len(p) > 100 != (r.Intn(16) == 0) {
		l = append(wantAhead(p), l...)
	}
	if r.Intn(16) == 0 {
		l[0] = wantBlock(api.Head{Name: "././@LongLink", Size: len(p) + r.Intn(3), Type: "KL"[r.Intn(2)]})
	}
	for r.Intn(3) == 0 {
		l = append(l, someBlock(r))
	}
	if r.Intn(16) == 0 {
		at := r.Intn(len(l))
		l = slices.Delete(l, at, at+1)
	}
	return l
}

// someBlock is noughts, a header, or bytes that are none's, some of them not 512.
func someBlock(r *rand.Rand) []byte {
	switch r.Intn(5) {
	case 0:
		return make([]byte, 512)
	case 1:
		return wantBlock(api.Head{Name: "b", Type: "0125KLV"[r.Intn(7)], Size: r.Intn(300)})
	case 2:
		return wantBlock(wantHead(file("b", 2000), 1024))
	case 3:
		return make([]byte, r.Intn(600))
	}
	b := make([]byte, 510+r.Intn(5))
	r.Read(b)
	return b
}

// P15.4

// behinds are what may stand behind the blocks that were put.
func behinds(t *testing.T) [][][]byte {
	t.Helper()
	other := api.Node{Path: "other", Kind: '0', Mode: 1, Uid: 2, Gid: 3, Mtime: 4, Data: letters(2000)}
	far := other
	far.Path = strings.Repeat("o", 250)
	return [][][]byte{
		nil, {nil}, {{}}, {make([]byte, 512)}, block.Zeros(2), block.Zeros(400),
		mustPut(t, other, 0), mustPut(t, other, 1536), mustPut(t, far, 512), mustPut(t, far, 0)[:1], mustPut(t, far, 0)[:2], mustPut(t, far, 0)[1:],
		wantAhead(letters(200)), wantAhead("a"), {wantBlock(api.Head{Name: "full Volume 1", Type: 'V'})}, {wantBlock(api.Head{Name: "a", Type: '0', Size: 1000})},
		{[]byte("x")}, {make([]byte, 511)}, {make([]byte, 513)}, {bytes.Repeat([]byte{255}, 512)}, {[]byte(letters(512)), nil, []byte(letters(10240))}, block.Cut(letters(4000)),
	}
}

func TestWhatIsPutIsGotWhateverStandsBehind(t *testing.T) {
	list := behinds(t)
	for _, p := range allPaths() {
		for _, size := range []int{1, 512, 513, 1000, 4000} {
			for _, n := range numbered(file(p, size))[:3] {
				for _, off := range places(size) {
					l := mustPut(t, n, off)
					for i, behind := range list {
						if got := get(slices.Concat(l, behind)); got != wantTold(n, off) {
							t.Errorf("with %d behind, what was put as %s, %d is got as %s", i, show(n), off, got)
						}
					}
				}
			}
		}
	}
}

func TestWhatIsPutIsGotOfAllSizes(t *testing.T) {
	for size := 1; size <= 4000; size++ {
		for _, p := range []string{"a/b", slashed(120, 60)} {
			n := file(p, size)
			for _, off := range places(size) {
				if got := get(mustPut(t, n, off)); got != wantTold(n, off) {
					t.Errorf("what was put as %s, %d is got as %s", show(n), off, got)
				}
			}
		}
	}
}

func TestWhatIsGotIsPutAsTheSameBlocks(t *testing.T) {
	r := rand.New(rand.NewSource(16))
	found := 0
	for range 20000 {
		l := someBlocks(r)
		n, off, whole, k, ok := Get(l)
		if !ok {
			continue
		}
		found++
		n.Data = letters(whole)
		if again, ok := Put(n, off); !ok || len(again) != k || !block.Same(again, l[:k]) || Many(n) != k {
			t.Errorf("Get of %q = %s, %d, %d, %d, which is put as %q, %t", l, show(n), off, whole, k, again, ok)
		}
	}
	if found < 2000 {
		t.Errorf("only %d lists were of files that go on", found)
	}
}

// Each place, each size and each path has blocks of its own, so that none goes on in another one's place.
func TestOthersHaveOtherBlocks(t *testing.T) {
	seen := map[string]string{}
	for _, p := range allPaths() {
		for _, size := range sizes() {
			for _, n := range numbered(file(p, size)) {
				for _, off := range places(size) {
					who := fmt.Sprintf("%s, %d", show(n), off)
					b := string(bytes.Join(mustPut(t, n, off), nil))
					if other, ok := seen[b]; ok {
						t.Errorf("%s and %s have the same blocks", who, other)
					}
					seen[b] = who
				}
			}
		}
	}
}

// R1

func TestPutOfAllSortsOfNodes(t *testing.T) {
	r := rand.New(rand.NewSource(17))
	good := 0
	paths := append(allPaths(), noPaths()...)
	for range 20000 {
		n := file(paths[r.Intn(len(paths))], r.Intn(4100))
		if r.Intn(8) == 0 {
			n.Kind = "0125M\x00"[r.Intn(6)]
		}
		if r.Intn(8) == 0 {
			n.Link = paths[r.Intn(len(paths))]
		}
		for _, field := range four(&n) {
			if r.Intn(4) == 0 {
				*field = []int{1, 4095, 1, 4095, 4096, most, most + 1, -1, math.MinInt, math.MaxInt}[r.Intn(10)]
			}
		}
		off := r.Intn(4608) / 512 * 512
		if r.Intn(4) == 0 {
			off = r.Intn(10000) - 5000
		}
		checkPut(t, n, off)
		if want := wantFile(n); (Many(n) > 0) != want {
			t.Errorf("Many(%s) = %d", show(n), Many(n))
		}
		if wantMay(n, off) {
			good++
		}
	}
	if good < 1000 {
		t.Errorf("only %d nodes went on", good)
	}
}

func TestGetOfAllSortsOfBytes(t *testing.T) {
	r := rand.New(rand.NewSource(18))
	for range 3000 {
		var l [][]byte
		for range r.Intn(5) {
			b := make([]byte, 510+r.Intn(5))
			r.Read(b)
			if len(b) == 512 && r.Intn(2) == 0 {
				b[156] = "LM"[r.Intn(2)]
				b = summed(b)
			}
			l = append(l, b)
		}
		checkNone(t, "random bytes", l...)
	}
}

func TestGetOfVeryManyBlocks(t *testing.T) {
	n := file("a", 1000)
	l := append(mustPut(t, n, 512), slices.Repeat([][]byte{make([]byte, 512)}, 100000)...)
	if got := get(l); got != wantTold(n, 512) {
		t.Errorf("Get of a file and very many blocks = %s", got)
	}
	checkNone(t, "very many blocks of noughts", l[1:]...)
}

// R3

func TestNothingThatIsHandedInIsChanged(t *testing.T) {
	for _, p := range allPaths() {
		n := file(p, 1000)
		was := n
		l := mustPut(t, n, 512)
		if n != was {
			t.Errorf("Put has changed %s", show(was))
		}
		want := cloned(l)
		got := get(l)
		if !block.Same(l, want) {
			t.Error("Get has changed the blocks")
		}
		for _, b := range l {
			for at := range b {
				b[at] = 'x'
			}
			_ = append(b, "behind"...)
		}
		if got != wantTold(n, 512) {
			t.Errorf("what was got has changed with its blocks: %s", got)
		}
		if again := mustPut(t, n, 512); !block.Same(again, want) {
			t.Error("what was written into blocks stands in the next ones")
		}
	}
}

func TestTheBlocksAreOfMemoryOfTheirOwn(t *testing.T) {
	for _, p := range []string{"a", letters(200)} {
		n := file(p, 1000)
		l := mustPut(t, n, 512)
		want := cloned(l)
		for _, b := range l {
			_ = append(b, letters(600)...)
		}
		if !block.Same(l, want) {
			t.Error("blocks grow into each other")
		}
		for i := range want {
			l := mustPut(t, n, 512)
			clear(l[i])
			for j := range l {
				if j != i && !bytes.Equal(l[j], want[j]) {
					t.Errorf("block %d has changed with block %d", j, i)
				}
			}
		}
	}
}

// The blocks lie in the midst of other bytes, and the list among other blocks: those are neither read nor changed.
func TestBlocksAmongOthers(t *testing.T) {
	for _, around := range []byte{0, 'M', 255} {
		for _, p := range []string{"a", letters(100), letters(200)} {
			n := file(p, 1000)
			put := mustPut(t, n, 512)
			many := bytes.Repeat([]byte{around}, 5*512)
			list := [][]byte{nil}
			for i, b := range put {
				copy(many[(i+1)*512:], b)
				list = append(list, many[(i+1)*512:(i+2)*512])
			}
			list = append(list, many[4*512:], many[:1])
			want, blocks := bytes.Clone(many), cloned(list)
			for range 2 {
				if got := get(list[1 : len(put)+1]); got != wantTold(n, 512) {
					t.Errorf("Get of blocks among bytes %d = %s", around, got)
				}
				if len(put) > 1 {
					// What stands behind the list's end is no part of it.
					checkNone(t, "the first two", list[1:3]...)
				}
				if !bytes.Equal(many, want) || !block.Same(list, blocks) {
					t.Error("Get has changed what it was given, or what stands about it")
				}
			}
		}
	}
}

func TestBlocksOfNoFileAreLeftAsTheyWere(t *testing.T) {
	r := rand.New(rand.NewSource(19))
	for range 2000 {
		l := someBlocks(r)
		was := cloned(l)
		Get(l)
		if !block.Same(l, was) {
			t.Fatal("Get has changed the blocks")
		}
	}
}

// R5

func TestTheSameAgainWhateverWasAsked(t *testing.T) {
	for _, p := range []string{"a", letters(200)} {
		n := file(p, 1000)
		for _, other := range append(noFiles(), file("b", 4000), file(letters(300), 4000)) {
			Put(other, 512)
			Get(wantPut(file("c", 600), 512))
			Get([][]byte{[]byte(other.Data)})
			checkPut(t, n, 512)
		}
	}
}
