package record

import (
	"bytes"
	"fmt"
	"math"
	"math/rand"
	"slices"
	"strings"
	"testing"

	"reelkeeper/api"
	"reelkeeper/block"
	"reelkeeper/read"
	"reelkeeper/stream"
	"reelkeeper/tree"
)

// pattern is so many bytes, none of them 0, that begin by a number: no two of other numbers are the same, and no byte is that beside it.
func pattern(number, n int) []byte {
	b := make([]byte, n)
	for i := range b {
		b[i] = byte(1 + (i+number)%251)
	}
	copy(b, fmt.Sprintf("<%d>", number))
	return b
}

// good are so many blocks, each of other bytes.
func good(n int) [][]byte {
	l := make([][]byte, n)
	for i := range l {
		l[i] = pattern(i, 512)
	}
	return l
}

// records are records of so many blocks each, each of other bytes.
func records(counts ...int) [][]byte {
	var rs [][]byte
	for i, n := range counts {
		rs = append(rs, pattern(i, 512*n))
	}
	return rs
}

// clones are the same lists in other memory.
func clones(l [][]byte) [][]byte {
	m := make([][]byte, len(l))
	for i, b := range l {
		m[i] = bytes.Clone(b)
	}
	return m
}

// same tells whether two lists have the same texts, in order.
func same(a, b [][]byte) bool {
	return slices.EqualFunc(a, b, bytes.Equal)
}

// pieces are bytes, so many at a time.
func pieces(all []byte, size int) [][]byte {
	var l [][]byte
	for i := 0; i < len(all); i += size {
		l = append(l, all[i:i+size])
	}
	return l
}

// wrongB are numbers of blocks that no record has.
func wrongB() []int {
	return []int{0, 21, 22, 40, 100, 255, 256, 257, 1 << 32, 1<<32 + 1, -1, -2, -19, -20, -21, -256, math.MinInt, math.MinInt + 1, math.MaxInt - 1, math.MaxInt}
}

// wrongBlocks are what is no block.
func wrongBlocks() [][]byte {
	return [][]byte{nil, {}, pattern(0, 1), pattern(0, 511), pattern(0, 513), pattern(0, 1024), pattern(0, 10240), make([]byte, 511), make([]byte, 513)}
}

// wrongRecords are what is no record.
func wrongRecords() [][]byte {
	l := [][]byte{nil, {}}
	for _, n := range []int{1, 255, 511, 513, 1023, 1025, 9728 + 256, 10239, 10241, 10752, 11264, 20480, 512 * 256, 512 * 257} {
		l = append(l, pattern(0, n), make([]byte, n))
	}
	return l
}

// shape are the lengths of a list's texts.
func shape(l [][]byte) string {
	var all []string
	for _, b := range l {
		all = append(all, fmt.Sprint(len(b)))
	}
	return fmt.Sprintf("%d [%.60s]", len(l), strings.Join(all, " "))
}

// groups holds Group against the bytes of all blocks one behind the other, filled up with noughts, and cut again.
func groups(t *testing.T, l [][]byte, b int) {
	t.Helper()
	all := bytes.Join(l, nil)
	for len(all)%(512*b) != 0 {
		all = append(all, 0)
	}
	want := pieces(all, 512*b)
	got, ok := Group(l, b)
	if !ok || !same(got, want) {
		t.Fatalf("Group of %d blocks by %d = %s, %t; want %s, true", len(l), b, shape(got), ok, shape(want))
	}
	if len(got) != Many(len(l), b) {
		t.Fatalf("Group of %d blocks by %d = %d records; Many = %d", len(l), b, len(got), Many(len(l), b))
	}
}

// groupsNot holds Group of what may not be against nothing and false.
func groupsNot(t *testing.T, l [][]byte, b int) {
	t.Helper()
	if got, ok := Group(l, b); ok || len(got) != 0 {
		t.Errorf("Group of %s by %d = %s, %t; want nothing, false", shape(l), b, shape(got), ok)
	}
}

// parts holds Blocks against the bytes of all records one behind the other, cut into blocks.
func parts(t *testing.T, rs [][]byte) {
	t.Helper()
	want := pieces(bytes.Join(rs, nil), 512)
	got, ok := Blocks(rs)
	if !ok || !same(got, want) {
		t.Fatalf("Blocks of %s = %s, %t; want %s, true", shape(rs), shape(got), ok, shape(want))
	}
}

// partsNot holds Blocks of what may not be against nothing and false.
func partsNot(t *testing.T, rs [][]byte) {
	t.Helper()
	if got, ok := Blocks(rs); ok || len(got) != 0 {
		t.Errorf("Blocks of %s = %s, %t; want nothing, false", shape(rs), shape(got), ok)
	}
}

// trees are trees of no node, of one, of three, and of 20.
func trees() [][]api.Node {
	one := []api.Node{{Path: "a", Kind: '0', Mode: 420, Data: strings.Repeat("a", 4000)}}
	some := []api.Node{{Path: "a", Kind: '5'}, {Path: "a/b", Kind: '0', Data: "bytes"}, {Path: "c", Kind: '2', Link: strings.Repeat("x", 150)}}
	var many []api.Node
	for i := range 20 {
		many = append(many, api.Node{Path: fmt.Sprintf("%c%s", 'A'+i, strings.Repeat("y", 14*i)), Kind: '0', Data: strings.Repeat("\x00z", 100*i)})
	}
	return [][]api.Node{nil, one, some, many}
}

// streams are the blocks of trees.
func streams(t *testing.T) [][][]byte {
	t.Helper()
	var list [][][]byte
	for _, nodes := range trees() {
		l, ok := stream.All(nodes)
		if !ok {
			t.Fatalf("no stream of %d nodes", len(nodes))
		}
		list = append(list, l)
	}
	return list
}

// P11.1: Many

func TestManyBySmallNumbers(t *testing.T) {
	for b := 1; b <= 20; b++ {
		want := 0
		for n := range 4100 {
			// One block more begins a record, when those ahead of it are full.
			if n > 0 && (n-1)%b == 0 {
				want++
			}
			if got := Many(n, b); got != want {
				t.Fatalf("Many(%d, %d) = %d; want %d", n, b, got, want)
			}
		}
	}
}

func TestManyWrittenOut(t *testing.T) {
	for _, x := range []struct{ n, b, want int }{
		{0, 1, 0}, {0, 20, 0}, {1, 1, 1}, {1, 2, 1}, {1, 20, 1}, {2, 1, 2}, {2, 2, 1}, {3, 2, 2}, {4, 2, 2}, {5, 2, 3},
		{18, 19, 1}, {19, 19, 1}, {20, 19, 2}, {19, 20, 1}, {20, 20, 1}, {21, 20, 2}, {39, 20, 2}, {40, 20, 2}, {41, 20, 3},
		{400, 20, 20}, {401, 20, 21}, {3999, 20, 200}, {4000, 20, 200}, {4001, 20, 201}, {4000, 19, 211}, {4001, 1, 4001},
		{1 << 32, 1, 1 << 32}, {1 << 62, 2, 1 << 61}, {1<<62 + 1, 2, 1<<61 + 1},
		{math.MaxInt, 1, math.MaxInt}, {math.MaxInt - 1, 1, math.MaxInt - 1}, {math.MaxInt, 2, 1 << 62}, {math.MaxInt - 1, 2, 1<<62 - 1},
		{math.MaxInt, 20, 461168601842738791}, {math.MaxInt, 7, 1317624576693539401}, {math.MaxInt - 1, 7, 1317624576693539401},
	} {
		if got := Many(x.n, x.b); got != x.want {
			t.Errorf("Many(%d, %d) = %d; want %d", x.n, x.b, got, x.want)
		}
	}
}

func TestManyOfGreatNumbers(t *testing.T) {
	for b := 1; b <= 20; b++ {
		for by := range 100 {
			for _, n := range []int{math.MaxInt - by, 1<<62 - 50 + by, 1<<53 - 50 + by, 1<<32 - 50 + by, 1<<31 - 50 + by} {
				want := int((uint64(n) + uint64(b) - 1) / uint64(b))
				if got := Many(n, b); got != want {
					t.Errorf("Many(%d, %d) = %d; want %d", n, b, got, want)
				}
			}
		}
	}
}

func TestManyOfWhatMayNotBe(t *testing.T) {
	counts := []int{-1, -2, -19, -20, -21, -40, -512, -1 << 32, math.MinInt, math.MinInt + 1, math.MinInt + 19, math.MinInt + 20}
	for _, n := range append(counts, 0) {
		for b := -25; b <= 25; b++ {
			if got := Many(n, b); got != 0 {
				t.Errorf("Many(%d, %d) = %d; want 0", n, b, got)
			}
		}
	}
	for _, b := range wrongB() {
		for _, n := range append(counts, 0, 1, 2, 19, 20, 21, 4000, 1<<32, math.MaxInt-1, math.MaxInt) {
			if got := Many(n, b); got != 0 {
				t.Errorf("Many(%d, %d) = %d; want 0", n, b, got)
			}
		}
	}
}

// P11.1: May

func TestMayOfAllLengths(t *testing.T) {
	may := map[int]bool{}
	for b := 1; b <= 20; b++ {
		may[512*b] = true
	}
	all := pattern(0, 21*512*2)
	for n := range all {
		if got := May(all[:n]); got != may[n] {
			t.Errorf("May of %d bytes = %t; want %t", n, got, may[n])
		}
	}
}

func TestMayOfTheEdges(t *testing.T) {
	for _, n := range []int{512, 1024, 1536, 9728, 10240} {
		if !May(make([]byte, n)) || !May(bytes.Repeat([]byte{255}, n)) || !May(make([]byte, n, 3*n)) {
			t.Errorf("May of %d bytes = false", n)
		}
	}
	for _, r := range wrongRecords() {
		if May(r) || May(append(make([]byte, 0, 1024), r...)) {
			t.Errorf("May of %d bytes = true", len(r))
		}
	}
	for _, n := range []int{1 << 16, 1<<16 + 512, 1<<17 + 10240, 1 << 24} {
		if May(make([]byte, n)) {
			t.Errorf("May of %d bytes = true", n)
		}
	}
}

// P11.1: Group

func TestGroupWrittenOut(t *testing.T) {
	l := good(5)
	got, ok := Group(l, 2)
	if !ok || len(got) != 3 {
		t.Fatalf("Group of five blocks by 2 = %s, %t", shape(got), ok)
	}
	want := [][]byte{slices.Concat(l[0], l[1]), slices.Concat(l[2], l[3]), slices.Concat(l[4], make([]byte, 512))}
	if !same(got, want) {
		t.Error("Group of five blocks by 2 has other records")
	}
	got, ok = Group(l[:1], 20)
	if !ok || !same(got, [][]byte{append(bytes.Clone(l[0]), make([]byte, 19*512)...)}) {
		t.Errorf("Group of one block by 20 = %s, %t", shape(got), ok)
	}
	got, ok = Group(l, 1)
	if !ok || !same(got, l) {
		t.Errorf("Group of five blocks by 1 = %s, %t", shape(got), ok)
	}
}

func TestGroupOfNoBlocks(t *testing.T) {
	for b := 1; b <= 20; b++ {
		for _, l := range [][][]byte{nil, {}, good(3)[:0]} {
			if got, ok := Group(l, b); !ok || len(got) != 0 {
				t.Errorf("Group of no blocks by %d = %s, %t; want none, true", b, shape(got), ok)
			}
		}
	}
}

func TestGroupOfAllNumbersOfBlocks(t *testing.T) {
	l := good(65)
	for b := 1; b <= 20; b++ {
		for n := range len(l) + 1 {
			groups(t, l[:n], b)
		}
	}
}

func TestGroupAboutMultiples(t *testing.T) {
	l := good(4000)
	for b := 1; b <= 20; b++ {
		for _, times := range []int{4, 10, 99, 100, 4000/b - 1, 4000 / b} {
			for n := max(0, times*b-2); n <= min(4000, times*b+2); n++ {
				groups(t, l[:n], b)
			}
		}
	}
}

func TestGroupOfAsManyAsThereMayBe(t *testing.T) {
	l := good(4002)
	for b := 1; b <= 20; b++ {
		groups(t, l[:3999], b)
		groups(t, l[:4000], b)
		groupsNot(t, l[:4001], b)
		groupsNot(t, l, b)
	}
	one := l[:1]
	for _, n := range []int{4001, 4019, 4020, 5000, 8000, 1 << 16, 1<<16 + 20} {
		groupsNot(t, slices.Repeat(one, n), 20)
		groupsNot(t, slices.Repeat(one, n), 1)
	}
	groups(t, slices.Repeat(one, 4000), 20)
}

func TestGroupOfStreams(t *testing.T) {
	for _, l := range streams(t) {
		for b := 1; b <= 20; b++ {
			groups(t, l, b)
		}
	}
}

func TestGroupOfNoughts(t *testing.T) {
	for b := 1; b <= 20; b++ {
		groups(t, block.Zeros(b), b)
		groups(t, block.Zeros(41), b)
		groups(t, append(good(2), block.Zeros(3)...), b)
		groups(t, append(block.Zeros(3), good(2)...), b)
	}
}

func TestGroupFillsUpWithNoughts(t *testing.T) {
	// What stands in memory behind the blocks, or behind the list, is none of theirs.
	var long [][]byte
	for i := range 90 {
		long = append(long, pattern(i, 20*512)[:512])
	}
	long = long[:41]
	for b := 1; b <= 20; b++ {
		for n := range long {
			groups(t, long[:n+1], b)
			got, _ := Group(long[:n+1], b)
			lacking := len(got)*b - n - 1
			if lacking >= b {
				t.Fatalf("Group of %d blocks by %d fills up with %d blocks", n+1, b, lacking)
			}
			last := got[len(got)-1]
			if !block.Zero(last[len(last)-512*lacking:]) || block.Zero(last[len(last)-512*lacking-512:]) {
				t.Fatalf("Group of %d blocks by %d: its last record is not filled up with %d blocks of noughts", n+1, b, lacking)
			}
		}
	}
	for i, x := range long[:90] {
		if !bytes.Equal(x[:512], pattern(i, 512)) {
			t.Fatalf("Group wrote to block %d", i)
		}
	}
}

func TestGroupByWhatNoRecordHas(t *testing.T) {
	for _, b := range wrongB() {
		for _, l := range [][][]byte{nil, {}, good(1), good(2), good(20), good(21), good(40), good(256), good(4000), {nil}, {pattern(0, 511)}} {
			groupsNot(t, l, b)
		}
	}
}

func TestGroupOfWhatIsNoBlock(t *testing.T) {
	for b := 1; b <= 20; b++ {
		for _, wrong := range wrongBlocks() {
			for _, n := range []int{0, 1, 2, 19, 20, 21, 40} {
				for _, at := range []int{0, n / 2, max(0, n-1), n} {
					groupsNot(t, slices.Insert(good(n), at, wrong), b)
				}
			}
		}
		// On the whole they have the bytes of blocks.
		groupsNot(t, [][]byte{pattern(0, 511), pattern(1, 513)}, b)
		groupsNot(t, [][]byte{pattern(0, 513), pattern(1, 511)}, b)
		groupsNot(t, [][]byte{nil, pattern(1, 1024)}, b)
		groupsNot(t, [][]byte{pattern(0, 256), pattern(1, 256)}, b)
		groupsNot(t, records(b, b+1), b)
	}
	l := good(4000)
	l[3999] = nil
	groupsNot(t, l, 20)
	l[3999], l[2000] = l[0], l[0][:511]
	groupsNot(t, l, 20)
	l[2000] = l[0]
	groups(t, l, 20)
}

// P11.2

func TestBlocksWrittenOut(t *testing.T) {
	l := good(6)
	got, ok := Blocks([][]byte{slices.Concat(l[0], l[1], l[2]), l[3], slices.Concat(l[4], l[5])})
	if !ok || !same(got, l) {
		t.Errorf("Blocks of 3, 1 and 2 = %s, %t", shape(got), ok)
	}
	got, ok = Blocks([][]byte{slices.Concat(l[0], make([]byte, 1024)), make([]byte, 512), l[1]})
	if !ok || !same(got, [][]byte{l[0], make([]byte, 512), make([]byte, 512), make([]byte, 512), l[1]}) {
		t.Errorf("Blocks with noughts = %s, %t", shape(got), ok)
	}
}

func TestBlocksOfNoRecords(t *testing.T) {
	for _, rs := range [][][]byte{nil, {}, records(1, 2)[:0]} {
		if got, ok := Blocks(rs); !ok || len(got) != 0 {
			t.Errorf("Blocks of no records = %s, %t; want none, true", shape(got), ok)
		}
	}
}

func TestBlocksOfAllLengths(t *testing.T) {
	var all []int
	for b := 1; b <= 20; b++ {
		all = append(all, b)
		parts(t, records(b))
		parts(t, records(b, b))
		parts(t, records(b, b, b))
		parts(t, records(all...))
		for c := 1; c <= 20; c++ {
			parts(t, records(b, c))
			parts(t, records(c, b, c))
		}
	}
	slices.Reverse(all)
	parts(t, records(all...))
}

func TestBlocksOfManyRecords(t *testing.T) {
	// Nothing bounds how many there are: neither 200, nor the 4000 blocks that are grouped.
	for _, x := range []struct{ n, b int }{{199, 20}, {200, 20}, {201, 20}, {300, 20}, {4000, 1}, {4001, 1}, {5000, 1}, {1000, 19}} {
		rs := records(slices.Repeat([]int{x.b}, x.n)...)
		parts(t, rs)
		if got, _ := Blocks(rs); len(got) != x.n*x.b {
			t.Errorf("Blocks of %d records of %d = %d blocks", x.n, x.b, len(got))
		}
	}
}

func TestBlocksOfRecordsOfNoughts(t *testing.T) {
	for b := 1; b <= 20; b++ {
		parts(t, [][]byte{make([]byte, 512*b)})
		parts(t, [][]byte{make([]byte, 512*b), pattern(1, 512), make([]byte, 512*b)})
	}
}

func TestBlocksOfAWrongRecord(t *testing.T) {
	for _, wrong := range wrongRecords() {
		partsNot(t, [][]byte{wrong})
		partsNot(t, [][]byte{wrong, wrong})
		for n := 1; n <= 4; n++ {
			for at := range n + 1 {
				partsNot(t, slices.Insert(records(20, 1, 2, 19)[:n], at, wrong))
			}
		}
	}
	// On the whole they have the bytes of blocks.
	partsNot(t, [][]byte{pattern(0, 511), pattern(1, 513)})
	partsNot(t, [][]byte{pattern(0, 513), pattern(1, 511)})
	partsNot(t, [][]byte{pattern(0, 256), pattern(1, 256)})
	partsNot(t, append(records(slices.Repeat([]int{20}, 300)...), nil))
}

// P11.3

// comesBack holds the blocks of what is grouped against those that were, and noughts behind.
func comesBack(t *testing.T, l [][]byte, b int) {
	t.Helper()
	rs, ok := Group(l, b)
	if !ok {
		t.Fatalf("Group of %d blocks by %d = false", len(l), b)
	}
	for i, r := range rs {
		if len(r) != 512*b || !May(r) {
			t.Fatalf("Group of %d blocks by %d: record %d has %d bytes", len(l), b, i, len(r))
		}
	}
	got, ok := Blocks(rs)
	if !ok || len(got) < len(l) || !same(got[:len(l)], l) {
		t.Fatalf("%d blocks, grouped by %d, come back as %s, %t", len(l), b, shape(got), ok)
	}
	behind := got[len(l):]
	if len(behind) >= b || !block.May(behind) || !same(behind, block.Zeros(len(behind))) {
		t.Fatalf("%d blocks, grouped by %d, come back with %s behind", len(l), b, shape(behind))
	}
	if len(got) != b*Many(len(l), b) {
		t.Fatalf("%d blocks, grouped by %d, come back as %d; Many = %d", len(l), b, len(got), Many(len(l), b))
	}
}

func TestWhatIsGroupedIsBlocksAgain(t *testing.T) {
	l := good(4000)
	for b := 1; b <= 20; b++ {
		for _, n := range []int{0, 1, 2, 3, b - 1, b, b + 1, 2*b - 1, 2 * b, 2*b + 1, 41, 199, 200, 201, 3999, 4000} {
			comesBack(t, l[:n], b)
		}
		comesBack(t, block.Zeros(33), b)
	}
}

func TestWhatIsGroupedByChanceIsBlocksAgain(t *testing.T) {
	chance := rand.New(rand.NewSource(11))
	all := append(good(150), block.Zeros(50)...)
	for range 600 {
		l := make([][]byte, chance.Intn(130))
		for i := range l {
			l[i] = all[chance.Intn(len(all))]
		}
		b := 1 + chance.Intn(20)
		comesBack(t, l, b)
		groups(t, l, b)
	}
}

func TestStreamsAreReadBehindRecords(t *testing.T) {
	for i, l := range streams(t) {
		for b := 1; b <= 20; b++ {
			comesBack(t, l, b)
			rs, _ := Group(l, b)
			back, _ := Blocks(rs)
			if nodes, e := read.Read(back); e != api.OK || !tree.Same(nodes, trees()[i]) {
				t.Errorf("tree %d, by %d: %d nodes, %d", i, b, len(nodes), e)
			}
		}
	}
}

func TestRecordsOfOneLengthAreGroupedAgain(t *testing.T) {
	for b := 1; b <= 20; b++ {
		for n := range 8 {
			rs := records(slices.Repeat([]int{b}, n)...)
			l, ok := Blocks(rs)
			if !ok || len(l) != n*b {
				t.Fatalf("Blocks of %d records of %d = %d, %t", n, b, len(l), ok)
			}
			if again, ok := Group(l, b); !ok || !same(again, rs) {
				t.Errorf("%d records of %d come back as %s, %t", n, b, shape(again), ok)
			}
		}
	}
}

// The rules

// TestAnswersAreNewMemory holds R3: what is answered shares no memory with what is handed in, nor one record or block with another one.
func TestAnswersAreNewMemory(t *testing.T) {
	one := pattern(0, 512)
	for _, b := range []int{1, 2, 3, 20} {
		for _, l := range [][][]byte{good(1), good(2), good(7), {one, one, one, one, one}, block.Zeros(5)} {
			was := clones(l)
			got, _ := Group(l, b)
			apart(t, got)
			if !same(l, was) {
				t.Errorf("Group of %d blocks by %d shares memory with them", len(l), b)
			}
		}
	}
	r := pattern(0, 1536)
	for _, rs := range [][][]byte{records(1), records(2), records(20, 1, 3), {r, r, r}, {make([]byte, 1024)}} {
		was := clones(rs)
		got, _ := Blocks(rs)
		apart(t, got)
		if !same(rs, was) {
			t.Errorf("Blocks of %s shares memory with them", shape(rs))
		}
	}
}

// apart holds that no change of one text, nor of what grows behind it, is seen in another one.
func apart(t *testing.T, l [][]byte) {
	t.Helper()
	for i := range l {
		was := clones(l)
		for k := range l[i] {
			l[i][k] = ^l[i][k]
		}
		_ = append(l[i], bytes.Repeat([]byte{77}, 512)...)
		if !same(l[:i], was[:i]) || !same(l[i+1:], was[i+1:]) {
			t.Errorf("text %d of %s shares memory with another one", i, shape(l))
		}
	}
}

// TestWhatIsHandedInStays holds R3: no call changes its arguments, nor is an answer changed with them.
func TestWhatIsHandedInStays(t *testing.T) {
	for b := -1; b <= 22; b++ {
		for _, n := range []int{0, 1, 2, 7, 20, 41} {
			// Behind each block, and behind the list, there is memory that is none of theirs.
			var memory, wide [][]byte
			for i := range n + 30 {
				memory = append(memory, pattern(i, 1212))
				wide = append(wide, memory[i][:512])
			}
			was := clones(memory)
			got, ok := Group(wide[:n], b)
			kept := clones(got)
			for i := range wide {
				if len(wide[i]) != 512 || !bytes.Equal(wide[i][:1212], was[i]) {
					t.Fatalf("Group of %d blocks by %d changed block %d", n, b, i)
				}
			}
			for i := range memory {
				clear(memory[i])
			}
			if !same(got, kept) || ok != (b >= 1 && b <= 20) {
				t.Errorf("Group of %d blocks by %d changed with them, or = %t", n, b, ok)
			}
		}
	}
	for _, rs := range [][][]byte{records(3), records(20, 1, 7), append(records(2, 2), nil), wrongRecords()} {
		was := clones(rs)
		got, _ := Blocks(rs)
		kept := clones(got)
		for _, r := range rs {
			May(r)
		}
		if !same(rs, was) {
			t.Errorf("Blocks or May changed %s", shape(was))
		}
		for _, r := range rs {
			clear(r)
		}
		if !same(got, kept) {
			t.Errorf("Blocks of %s changed with them", shape(was))
		}
	}
}

// TestTheSameAgainWhateverWasAsked holds R5.
func TestTheSameAgainWhateverWasAsked(t *testing.T) {
	l, rs := good(7), records(2, 1, 20)
	first, _ := Group(l, 3)
	cut, _ := Blocks(rs)
	for range 3 {
		Group(good(50), 20)
		Group(nil, 3)
		Group([][]byte{nil}, 3)
		Group(l, 0)
		Blocks(wrongRecords())
		Blocks(records(20, 20))
		Many(math.MaxInt, 1)
		May(nil)
		if again, ok := Group(l, 3); !ok || !same(again, first) {
			t.Errorf("Group answers %s, then %s", shape(first), shape(again))
		}
		if again, ok := Blocks(rs); !ok || !same(again, cut) {
			t.Errorf("Blocks answers %s, then %s", shape(cut), shape(again))
		}
		if Many(7, 3) != 3 || !May(rs[0]) || May(rs[0][:1]) {
			t.Error("Many or May answers otherwise than first")
		}
	}
}
