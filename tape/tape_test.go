package tape

import (
	"bytes"
	"fmt"
	"math"
	"math/rand"
	"slices"
	"strings"
	"testing"

	"reelkeeper/api"
	"reelkeeper/read"
	"reelkeeper/record"
	"reelkeeper/stream"
	"reelkeeper/tree"
)

// pattern is so many bytes, none of them 0, that begin by a number: no two of other numbers are the same.
func pattern(number, n int) []byte {
	b := make([]byte, n)
	for i := range b {
		b[i] = byte(1 + (i+number)%251)
	}
	copy(b, fmt.Sprintf("<%d>", number))
	return b
}

// records are so many records, of one block, two, and so on up to three, each of other bytes.
func records(n int) [][]byte {
	var rs [][]byte
	for i := range n {
		rs = append(rs, pattern(i, 512*(1+i%3)))
	}
	return rs
}

// holding is a tape of that room with so many records of one block, not marked.
func holding(room, n int) api.Tape {
	t := api.Tape{Cap: room}
	for i := range n {
		t.R = append(t.R, pattern(i, 512))
	}
	return t
}

// marked is the same tape, with a mark.
func marked(t api.Tape) api.Tape {
	t.Mark = true
	return t
}

// with is a tape of that room with these records.
func with(room int, rs ...[]byte) api.Tape {
	return api.Tape{Cap: room, R: rs}
}

// clone is the same tape in other memory, with nothing behind its records.
func clone(t api.Tape) api.Tape {
	return api.Tape{Cap: t.Cap, R: clones(t.R), Mark: t.Mark}
}

func clones(l [][]byte) [][]byte {
	m := make([][]byte, len(l))
	for i, r := range l {
		m[i] = append(make([]byte, 0, len(r)), r...)
	}
	return m
}

// same tells whether two tapes have the same room, records and mark.
func same(a, b api.Tape) bool {
	return a.Cap == b.Cap && a.Mark == b.Mark && slices.EqualFunc(a.R, b.R, bytes.Equal)
}

// shape is what a tape has, without its bytes.
func shape(t api.Tape) string {
	var all []string
	for _, r := range t.R {
		all = append(all, fmt.Sprint(len(r)))
	}
	return fmt.Sprintf("{room %d, %d of [%.60s], %t}", t.Cap, len(t.R), strings.Join(all, " "), t.Mark)
}

// farRooms are rooms that no tape has, and places and counts that no tape has either.
func farRooms() []int {
	return []int{-1, -2, -200, -201, 201, 202, 255, 256, 257, 400, 456, 1 << 16, 1<<16 + 1, 1 << 32, 1<<32 + 1, -1 << 32, math.MinInt, math.MinInt + 1, math.MinInt + 200, math.MaxInt - 1, math.MaxInt}
}

// wrongRecords are what is no record.
func wrongRecords() [][]byte {
	l := [][]byte{nil, {}}
	for _, n := range []int{1, 2, 256, 511, 513, 1023, 1025, 10239, 10241, 10752, 11264, 512 * 256, 512 * 257} {
		l = append(l, pattern(7, n), make([]byte, n))
	}
	return l
}

// goodRecords are records of the edges of length.
func goodRecords() [][]byte {
	return [][]byte{pattern(90, 512), pattern(91, 1024), pattern(92, 9728), pattern(93, 10240), make([]byte, 512), make([]byte, 10240), bytes.Repeat([]byte{255}, 512)}
}

// goodTapes are tapes that may be: of all edges of room, of how full they are, marked and not.
func goodTapes() []api.Tape {
	l := []api.Tape{{}}
	for _, x := range [][2]int{{0, 0}, {1, 0}, {1, 1}, {2, 0}, {2, 1}, {2, 2}, {3, 2}, {12, 11}, {199, 0}, {199, 198}, {199, 199}, {200, 0}, {200, 198}, {200, 199}, {200, 200}} {
		l = append(l, holding(x[0], x[1]))
	}
	l = append(l, with(5, records(4)...), with(4, records(4)...), with(8, goodRecords()...), with(7, goodRecords()...))
	for _, t := range slices.Clone(l) {
		l = append(l, marked(t))
	}
	return l
}

// wrongTapes are tapes that may not be: by their room, by too many records, by a record at the beginning, in the midst or at the end.
func wrongTapes() []api.Tape {
	var l []api.Tape
	for _, room := range farRooms() {
		l = append(l, holding(room, 0), holding(room, 1), holding(room, 3))
	}
	for _, x := range [][2]int{{0, 1}, {0, 2}, {1, 2}, {2, 3}, {3, 200}, {199, 200}, {200, 201}, {200, 202}, {200, 400}} {
		l = append(l, holding(x[0], x[1]))
	}
	for _, wrong := range wrongRecords() {
		l = append(l, with(1, wrong), with(9, wrong, wrong))
		for at := range 4 {
			l = append(l, with(4, slices.Insert(records(3), at, wrong)...), with(200, slices.Insert(records(3), at, wrong)...))
		}
	}
	l = append(l, with(200, append(holding(200, 199).R, nil)...))
	for _, t := range slices.Clone(l) {
		l = append(l, marked(t))
	}
	return l
}

// mayStand tells whether bytes are a record's.
func mayStand(r []byte) bool {
	for n := 512; n <= 10240; n += 512 {
		if len(r) == n {
			return true
		}
	}
	return false
}

// mayBe tells whether a tape may be.
func mayBe(t api.Tape) bool {
	for _, r := range t.R {
		if !mayStand(r) {
			return false
		}
	}
	return t.Cap >= 0 && t.Cap <= 200 && len(t.R) <= t.Cap
}

// written is what Fill should answer.
func written(t api.Tape, rs [][]byte) (api.Tape, int, api.Errno) {
	next := clone(t)
	if !mayBe(t) {
		return next, 0, api.ErrArg
	}
	for i, r := range rs {
		if !mayStand(r) {
			return next, i, api.ErrArg
		}
		if t.Mark || len(next.R) >= t.Cap {
			return next, i, api.ErrEnd
		}
		next.R = append(next.R, append([]byte{}, r...))
	}
	return next, len(rs), api.OK
}

// writes holds Write against what it should answer.
func writes(t *testing.T, given api.Tape, r []byte) {
	t.Helper()
	was := clone(given)
	want, _, e := written(given, [][]byte{r})
	got, err := Write(given, r)
	if err != e || !same(got, want) {
		t.Fatalf("Write of %d bytes to %s = %s, %d; want %s, %d", len(r), shape(was), shape(got), err, shape(want), e)
	}
	if !same(given, was) {
		t.Fatalf("Write of %d bytes changed %s", len(r), shape(was))
	}
}

// fills holds Fill against what it should answer.
func fills(t *testing.T, given api.Tape, rs [][]byte) {
	t.Helper()
	was, all := clone(given), clones(rs)
	want, n, e := written(given, rs)
	got, count, err := Fill(given, rs)
	if err != e || count != n || !same(got, want) {
		t.Fatalf("Fill of %s with %s = %s, %d, %d; want %s, %d, %d", shape(was), shape(with(0, rs...)), shape(got), count, err, shape(want), n, e)
	}
	if !same(given, was) || !same(with(0, rs...), with(0, all...)) {
		t.Fatalf("Fill changed %s, or %s", shape(was), shape(with(0, all...)))
	}
}

// closes holds Close against what it should answer.
func closes(t *testing.T, given api.Tape) {
	t.Helper()
	was, want, e := clone(given), clone(given), api.OK
	switch {
	case !mayBe(given):
		e = api.ErrArg
	case given.Mark:
		e = api.ErrEnd
	default:
		want.Mark = true
	}
	if got, err := Close(given); err != e || !same(got, want) {
		t.Fatalf("Close of %s = %s, %d; want %s, %d", shape(was), shape(got), err, shape(want), e)
	}
	if !same(given, was) {
		t.Fatalf("Close changed %s", shape(was))
	}
}

// cuts holds Cut against what it should answer.
func cuts(t *testing.T, given api.Tape, n int) {
	t.Helper()
	was, want, e := clone(given), clone(given), api.OK
	switch {
	case !mayBe(given):
		e = api.ErrArg
	case n < 0 || n > len(given.R):
		e = api.ErrNone
	default:
		want = api.Tape{Cap: was.Cap, R: was.R[:n]}
	}
	if got, err := Cut(given, n); err != e || !same(got, want) {
		t.Fatalf("Cut of %s to %d = %s, %d; want %s, %d", shape(was), n, shape(got), err, shape(want), e)
	}
	if !same(given, was) {
		t.Fatalf("Cut to %d changed %s", n, shape(was))
	}
}

// reads holds Read against what it should answer.
func reads(t *testing.T, given api.Tape, i int) {
	t.Helper()
	was := clone(given)
	var want []byte
	e := api.OK
	switch {
	case !mayBe(given):
		e = api.ErrArg
	case i < 0:
		e = api.ErrNone
	case i >= len(given.R):
		e = api.ErrEnd
	default:
		want = was.R[i]
	}
	if got, err := Read(given, i); err != e || !bytes.Equal(got, want) {
		t.Fatalf("Read of %s at %d = %d bytes, %d; want %d bytes, %d", shape(was), i, len(got), err, len(want), e)
	}
	if !same(given, was) {
		t.Fatalf("Read at %d changed %s", i, shape(was))
	}
}

// P12.1: New

func TestNewOfAllRooms(t *testing.T) {
	for room := -300; room <= 600; room++ {
		got, ok := New(room)
		if want := room >= 0 && room <= 200; ok != want {
			t.Errorf("New(%d) = %t; want %t", room, ok, want)
		}
		want := api.Tape{}
		if ok {
			want.Cap = room
		}
		if !same(got, want) {
			t.Errorf("New(%d) = %s; want %s", room, shape(got), shape(want))
		}
		if ok && !May(got) {
			t.Errorf("New(%d) may not be", room)
		}
	}
}

func TestNewWrittenOut(t *testing.T) {
	for _, room := range []int{0, 1, 2, 199, 200} {
		got, ok := New(room)
		if !ok || got.Cap != room || len(got.R) != 0 || got.Mark {
			t.Errorf("New(%d) = %s, %t", room, shape(got), ok)
		}
	}
	for _, room := range farRooms() {
		got, ok := New(room)
		if ok || got.Cap != 0 || got.R != nil || got.Mark {
			t.Errorf("New(%d) = %s, %t; want a zero one, false", room, shape(got), ok)
		}
	}
}

// P12.1: May

func TestMayOfAllRoomsAndCounts(t *testing.T) {
	// One record at many places is enough here: no memory is written to.
	rs := slices.Repeat([][]byte{pattern(1, 512)}, 203)
	for room := -3; room <= 203; room++ {
		for n := range len(rs) + 1 {
			want := room >= 0 && room <= 200 && n <= room
			x := with(room, rs[:n]...)
			if got := May(x); got != want {
				t.Fatalf("May of %s = %t", shape(x), got)
			}
			if got := May(marked(x)); got != want {
				t.Fatalf("May of %s = %t", shape(marked(x)), got)
			}
		}
	}
}

func TestMayOfARecordOfEachLength(t *testing.T) {
	may := map[int]bool{}
	for b := 1; b <= 20; b++ {
		may[512*b] = true
	}
	all := pattern(0, 21*512+2)
	for n := range len(all) + 1 {
		r := all[:n]
		for _, x := range []api.Tape{with(1, r), with(200, r), with(3, all[:512], r, all[:1024]), marked(with(2, all[:10240], r))} {
			if got := May(x); got != may[n] {
				t.Fatalf("May of %s = %t", shape(x), got)
			}
		}
	}
}

func TestMayWrittenOut(t *testing.T) {
	for _, x := range goodTapes() {
		if !May(x) {
			t.Errorf("May of %s = false", shape(x))
		}
	}
	for _, x := range wrongTapes() {
		if May(x) {
			t.Errorf("May of %s = true", shape(x))
		}
	}
	if !May(api.Tape{Cap: 3, R: [][]byte{}}) || !May(api.Tape{Cap: 1, R: [][]byte{make([]byte, 512, 5000)}}) {
		t.Error("May asks for more than what stands on a tape")
	}
}

// P12.1: Same

// apartTapes are tapes no two of which are the same.
func apartTapes() []api.Tape {
	other := func(number, n, at int) []byte {
		r := pattern(number, n)
		r[at]++
		return r
	}
	l := []api.Tape{
		{}, {Cap: 1}, {Cap: 2}, {Cap: 199}, {Cap: 200}, {Cap: 201}, {Cap: -1}, {Cap: math.MaxInt}, {Cap: math.MinInt},
		{Cap: 1 << 32}, {Cap: 1<<32 + 1}, {Cap: 256},
		with(4, pattern(0, 512)),
		with(5, pattern(0, 512)),
		with(4, pattern(1, 512)),
		with(4, pattern(0, 1024)),
		with(4, pattern(0, 511)),
		with(4, pattern(0, 10240)),
		with(4, make([]byte, 512)),
		with(4, make([]byte, 1024)),
		with(4, nil),
		with(4, nil, nil),
		with(4, other(0, 512, 0)),
		with(4, other(0, 512, 255)),
		with(4, other(0, 512, 511)),
		with(4, pattern(0, 512), pattern(0, 512)),
		with(4, pattern(0, 512), pattern(1, 512)),
		with(4, pattern(1, 512), pattern(0, 512)),
		with(4, pattern(0, 512), nil),
		with(4, nil, pattern(0, 512)),
		with(4, pattern(0, 512), pattern(1, 512), pattern(2, 512)),
		with(4, pattern(0, 512), other(1, 512, 99), pattern(2, 512)),
		with(4, pattern(0, 512), pattern(1, 512), other(2, 512, 511)),
		with(4, pattern(0, 512), pattern(2, 512), pattern(1, 512)),
		with(4, pattern(0, 512), pattern(1, 512), pattern(2, 512), pattern(3, 512)),
		with(4, pattern(0, 512), pattern(1, 512), pattern(2, 512), pattern(3, 512), pattern(4, 512)),
		with(4, slices.Concat(pattern(0, 512), pattern(1, 512), pattern(2, 512))),
	}
	for _, x := range slices.Clone(l) {
		l = append(l, marked(x))
	}
	return l
}

func TestSameWrittenOut(t *testing.T) {
	l := apartTapes()
	for i, a := range l {
		for k, b := range l {
			if got := Same(a, clone(b)); got != (i == k) {
				t.Errorf("Same of %s (%d) and %s (%d) = %t", shape(a), i, shape(b), k, got)
			}
		}
		if !Same(a, a) {
			t.Errorf("Same of %s and itself = false", shape(a))
		}
	}
}

func TestSameOfNoRecords(t *testing.T) {
	a, b := api.Tape{Cap: 4}, api.Tape{Cap: 4, R: [][]byte{}}
	if !Same(a, b) || !Same(b, a) {
		t.Error("a list of no records and none differ")
	}
	a, b = with(4, nil), with(4, []byte{})
	if !Same(a, b) || !Same(b, a) {
		t.Error("a record of no bytes and none differ")
	}
}

func TestSameInEachByte(t *testing.T) {
	a := with(3, pattern(0, 512), pattern(1, 1024), pattern(2, 512))
	b := clone(a)
	for i, r := range b.R {
		for k := range r {
			r[k] ^= 128
			if Same(a, b) || Same(b, a) {
				t.Fatalf("byte %d of record %d is another one; Same = true", k, i)
			}
			r[k] ^= 128
		}
	}
	if !Same(a, b) {
		t.Error("Same of the same tape = false")
	}
}

func TestSameOfTapesThatMayBeOrNot(t *testing.T) {
	l := slices.Concat(goodTapes(), wrongTapes())
	for i, a := range l {
		if !Same(a, clone(a)) || !Same(clone(a), a) {
			t.Errorf("Same of %s and its clone = false", shape(a))
		}
		b := l[(i+1)%len(l)]
		if got := Same(a, b); got != same(a, b) {
			t.Errorf("Same of %s and %s = %t", shape(a), shape(b), got)
		}
	}
}

// P12.2: Write

func TestWriteOfRoomOne(t *testing.T) {
	empty, _ := New(1)
	r := pattern(5, 512)
	full, e := Write(empty, r)
	if e != api.OK || full.Cap != 1 || full.Mark || len(full.R) != 1 || !bytes.Equal(full.R[0], r) {
		t.Fatalf("Write to a tape of room 1 = %s, %d", shape(full), e)
	}
	again, e := Write(full, pattern(6, 512))
	if e != api.ErrEnd || !same(again, full) {
		t.Errorf("the second Write to a tape of room 1 = %s, %d; want the tape, ErrEnd", shape(again), e)
	}
}

func TestWriteToAllTapes(t *testing.T) {
	rs := slices.Concat(goodRecords(), wrongRecords())
	for _, x := range slices.Concat(goodTapes(), wrongTapes()) {
		for _, r := range rs {
			writes(t, x, r)
		}
	}
}

func TestWriteOfEachLength(t *testing.T) {
	all := pattern(3, 21*512+2)
	for n := range len(all) + 1 {
		writes(t, holding(3, 1), all[:n])
		writes(t, holding(1, 1), all[:n])
		writes(t, marked(holding(3, 1)), all[:n])
	}
}

func TestWriteUpToTheEnd(t *testing.T) {
	for _, room := range []int{0, 1, 2, 3, 50, 199, 200} {
		x, _ := New(room)
		rs := records(room + 3)
		for i, r := range rs {
			next, e := Write(x, r)
			if i < room && (e != api.OK || !same(next, with(room, rs[:i+1]...))) {
				t.Fatalf("Write of record %d to a tape of room %d = %s, %d", i, room, shape(next), e)
			}
			if i >= room && (e != api.ErrEnd || !same(next, x)) {
				t.Fatalf("Write of record %d to a tape of room %d = %s, %d", i, room, shape(next), e)
			}
			x = next
		}
	}
}

func TestWriteTellsTheFirstError(t *testing.T) {
	good, wrong := pattern(1, 512), pattern(1, 511)
	bad := with(5, nil)
	for i, x := range []struct {
		t api.Tape
		r []byte
		e api.Errno
	}{
		{bad, good, api.ErrArg}, {bad, wrong, api.ErrArg}, {marked(bad), good, api.ErrArg}, {marked(bad), wrong, api.ErrArg},
		{holding(2, 3), good, api.ErrArg}, {holding(201, 201), good, api.ErrArg}, {holding(-1, 0), good, api.ErrArg},
		{holding(2, 2), wrong, api.ErrArg}, {marked(holding(2, 1)), wrong, api.ErrArg}, {marked(holding(2, 2)), wrong, api.ErrArg},
		{holding(0, 0), wrong, api.ErrArg}, {holding(2, 1), wrong, api.ErrArg}, {holding(2, 1), nil, api.ErrArg},
		{holding(2, 2), good, api.ErrEnd}, {marked(holding(2, 1)), good, api.ErrEnd}, {marked(holding(2, 2)), good, api.ErrEnd},
		{holding(0, 0), good, api.ErrEnd}, {marked(holding(0, 0)), good, api.ErrEnd}, {holding(2, 1), good, api.OK},
	} {
		got, e := Write(x.t, x.r)
		if e != x.e || e != api.OK && !same(got, x.t) {
			t.Errorf("%d: Write to %s = %s, %d; want %d", i, shape(x.t), shape(got), e, x.e)
		}
	}
}

// P12.2: Close

func TestCloseOfAllTapes(t *testing.T) {
	for _, x := range slices.Concat(goodTapes(), wrongTapes()) {
		closes(t, x)
	}
}

func TestCloseTellsTheFirstError(t *testing.T) {
	for i, x := range []struct {
		t api.Tape
		e api.Errno
	}{
		{holding(0, 0), api.OK}, {holding(2, 0), api.OK}, {holding(2, 1), api.OK}, {holding(2, 2), api.OK}, {holding(200, 200), api.OK},
		{marked(holding(0, 0)), api.ErrEnd}, {marked(holding(2, 1)), api.ErrEnd}, {marked(holding(2, 2)), api.ErrEnd},
		{holding(2, 3), api.ErrArg}, {marked(holding(2, 3)), api.ErrArg}, {marked(with(2, nil)), api.ErrArg}, {marked(holding(-1, 0)), api.ErrArg}, {marked(holding(201, 0)), api.ErrArg},
	} {
		got, e := Close(x.t)
		want := x.t
		if e == api.OK {
			want = marked(x.t)
		}
		if e != x.e || !same(got, want) {
			t.Errorf("%d: Close of %s = %s, %d; want %d", i, shape(x.t), shape(got), e, x.e)
		}
	}
}

func TestCloseIsTheEnd(t *testing.T) {
	for _, x := range []api.Tape{holding(0, 0), holding(3, 0), holding(3, 2), holding(3, 3), holding(200, 199)} {
		closed, e := Close(x)
		if e != api.OK || !same(closed, marked(x)) {
			t.Fatalf("Close of %s = %s, %d", shape(x), shape(closed), e)
		}
		if again, e := Close(closed); e != api.ErrEnd || !same(again, closed) {
			t.Errorf("the second Close of %s = %s, %d", shape(x), shape(again), e)
		}
		if more, e := Write(closed, pattern(9, 512)); e != api.ErrEnd || !same(more, closed) {
			t.Errorf("Write behind the mark of %s = %s, %d", shape(x), shape(more), e)
		}
		if more, n, e := Fill(closed, records(2)); e != api.ErrEnd || n != 0 || !same(more, closed) {
			t.Errorf("Fill behind the mark of %s = %s, %d, %d", shape(x), shape(more), n, e)
		}
	}
}

// P12.2: Cut

// places are where a tape of n records is read or cut: about both ends, in the midst, and far off.
func places(n int) []int {
	return append(farRooms(), -1, 0, 1, n/2, n-2, n-1, n, n+1, n+2, -n)
}

func TestCutOfAllTapes(t *testing.T) {
	for _, x := range slices.Concat(goodTapes(), wrongTapes()) {
		for _, n := range append(places(len(x.R)), x.Cap-1, x.Cap, x.Cap+1) {
			cuts(t, x, n)
		}
	}
}

func TestCutAtEachPlace(t *testing.T) {
	for count := range 13 {
		for room := count; room < 15; room++ {
			for n := -3; n < 18; n++ {
				cuts(t, with(room, records(count)...), n)
				cuts(t, marked(with(room, records(count)...)), n)
			}
		}
	}
}

func TestCutWrittenOut(t *testing.T) {
	rs := records(3)
	for i, x := range []struct {
		t    api.Tape
		n    int
		want api.Tape
		e    api.Errno
	}{
		{with(4, rs...), 0, with(4), api.OK},
		{with(4, rs...), 1, with(4, rs[0]), api.OK},
		{with(4, rs...), 2, with(4, rs[0], rs[1]), api.OK},
		{with(4, rs...), 3, with(4, rs...), api.OK},
		{with(4, rs...), 4, with(4, rs...), api.ErrNone},
		{with(4, rs...), -1, with(4, rs...), api.ErrNone},
		{marked(with(4, rs...)), 0, with(4), api.OK},
		{marked(with(4, rs...)), 2, with(4, rs[0], rs[1]), api.OK},
		{marked(with(4, rs...)), 3, with(4, rs...), api.OK},
		{marked(with(4, rs...)), 4, marked(with(4, rs...)), api.ErrNone},
		{marked(with(4, rs...)), -1, marked(with(4, rs...)), api.ErrNone},
		{with(3, rs...), 3, with(3, rs...), api.OK},
		{marked(with(3, rs...)), 3, with(3, rs...), api.OK},
		{with(0), 0, with(0), api.OK},
		{marked(with(0)), 0, with(0), api.OK},
		{with(0), 1, with(0), api.ErrNone},
		{with(2, rs...), 0, with(2, rs...), api.ErrArg},
		{with(2, rs...), -1, with(2, rs...), api.ErrArg},
		{marked(with(2, rs...)), 9, marked(with(2, rs...)), api.ErrArg},
		{with(-1), 0, with(-1), api.ErrArg},
		{with(201), 0, with(201), api.ErrArg},
		// What may not be would go with the cut: the tape is asked ahead of it.
		{with(4, rs[0], nil), 1, with(4, rs[0], nil), api.ErrArg},
	} {
		if got, e := Cut(x.t, x.n); e != x.e || !same(got, x.want) {
			t.Errorf("%d: Cut of %s to %d = %s, %d; want %s, %d", i, shape(x.t), x.n, shape(got), e, shape(x.want), x.e)
		}
	}
}

func TestWriteBehindTheCut(t *testing.T) {
	rs := records(9)
	for n := range 6 {
		for _, x := range []api.Tape{with(6, rs[:5]...), marked(with(6, rs[:5]...)), with(5, rs[:5]...), marked(with(5, rs[:5]...))} {
			cut, e := Cut(x, n)
			if e != api.OK || len(cut.R) != n || cut.Mark {
				t.Fatalf("Cut of %s to %d = %s, %d", shape(x), n, shape(cut), e)
			}
			next, count, e := Fill(cut, rs[6:])
			want, wantCount, wantErr := written(with(x.Cap, rs[:n]...), rs[6:])
			if e != wantErr || count != wantCount || !same(next, want) {
				t.Fatalf("Fill behind the cut of %s to %d = %s, %d, %d", shape(x), n, shape(next), count, e)
			}
			if !same(x, api.Tape{Cap: x.Cap, R: rs[:5], Mark: x.Mark}) || !same(cut, with(x.Cap, rs[:n]...)) {
				t.Fatalf("Fill behind the cut to %d changed the tape that was cut", n)
			}
		}
	}
}

// P12.2: Fill

func TestFillUpToTheEnd(t *testing.T) {
	for _, x := range [][2]int{{0, 0}, {1, 0}, {1, 1}, {2, 0}, {2, 1}, {7, 3}, {199, 0}, {199, 198}, {200, 0}, {200, 1}, {200, 199}, {200, 200}} {
		room := x[0] - x[1]
		for _, n := range []int{0, 1, room - 1, room, room + 1, room + 2, 2*room + 3} {
			rs := records(max(0, n))
			fills(t, holding(x[0], x[1]), rs)
			fills(t, marked(holding(x[0], x[1])), rs)
		}
	}
}

func TestFillOfAllTapes(t *testing.T) {
	lists := [][][]byte{nil, {}, records(1), records(2), records(3), {nil}, {nil, pattern(0, 512)}, {pattern(0, 512), nil}, goodRecords(), wrongRecords()}
	for _, x := range slices.Concat(goodTapes(), wrongTapes()) {
		for _, rs := range lists {
			fills(t, x, rs)
		}
	}
}

func TestFillUpToAWrongRecord(t *testing.T) {
	for _, wrong := range wrongRecords() {
		for at := range 5 {
			rs := slices.Insert(records(4), at, wrong)
			for room := range 8 {
				fills(t, holding(room, 0), rs)
				fills(t, holding(room+1, 1), rs)
			}
			fills(t, marked(holding(9, 2)), rs)
			fills(t, holding(3, 4), rs)
		}
	}
}

func TestFillWrittenOut(t *testing.T) {
	rs, wrong := records(4), pattern(0, 513)
	for i, x := range []struct {
		t    api.Tape
		rs   [][]byte
		want api.Tape
		n    int
		e    api.Errno
	}{
		{with(4), rs, with(4, rs...), 4, api.OK},
		{with(3), rs, with(3, rs[:3]...), 3, api.ErrEnd},
		{with(0), rs, with(0), 0, api.ErrEnd},
		{with(0), nil, with(0), 0, api.OK},
		{with(4, rs[0]), rs[1:], with(4, rs...), 3, api.OK},
		{with(4, rs[0]), rs, with(4, rs[0], rs[0], rs[1], rs[2]), 3, api.ErrEnd},
		{with(4), [][]byte{rs[0], wrong, rs[1]}, with(4, rs[0]), 1, api.ErrArg},
		{with(4), [][]byte{wrong, rs[0]}, with(4), 0, api.ErrArg},
		{with(4), [][]byte{rs[0], rs[1], wrong}, with(4, rs[0], rs[1]), 2, api.ErrArg},
		// Which one is told depends on which record comes first, and of one on its length ahead of the room.
		{with(1), [][]byte{rs[0], wrong}, with(1, rs[0]), 1, api.ErrArg},
		{with(1), [][]byte{rs[0], rs[1], wrong}, with(1, rs[0]), 1, api.ErrEnd},
		{with(1), [][]byte{rs[0], nil}, with(1, rs[0]), 1, api.ErrArg},
		{marked(with(4)), nil, marked(with(4)), 0, api.OK},
		{marked(with(4, rs...)), nil, marked(with(4, rs...)), 0, api.OK},
		{marked(with(4)), rs, marked(with(4)), 0, api.ErrEnd},
		{marked(with(4)), [][]byte{wrong}, marked(with(4)), 0, api.ErrArg},
		{marked(with(4)), [][]byte{rs[0], wrong}, marked(with(4)), 0, api.ErrEnd},
		{with(-1), nil, with(-1), 0, api.ErrArg},
		{with(201), rs, with(201), 0, api.ErrArg},
		{with(2, rs...), nil, with(2, rs...), 0, api.ErrArg},
		{with(9, rs[0], wrong), rs, with(9, rs[0], wrong), 0, api.ErrArg},
		{marked(with(9, wrong)), nil, marked(with(9, wrong)), 0, api.ErrArg},
	} {
		got, n, e := Fill(x.t, x.rs)
		if e != x.e || n != x.n || !same(got, x.want) {
			t.Errorf("%d: Fill of %s with %d = %s, %d, %d; want %s, %d, %d", i, shape(x.t), len(x.rs), shape(got), n, e, shape(x.want), x.n, x.e)
		}
	}
}

func TestFillIsWriteOfEach(t *testing.T) {
	lists := [][][]byte{nil, records(1), records(5), records(9), slices.Insert(records(5), 3, nil), slices.Insert(records(5), 5, pattern(0, 511))}
	for _, x := range []api.Tape{holding(0, 0), holding(5, 0), holding(5, 2), holding(5, 5), holding(9, 4), marked(holding(5, 2))} {
		for _, rs := range lists {
			want, count, err := clone(x), 0, api.OK
			for _, r := range rs {
				if want, err = Write(want, r); err != api.OK {
					break
				}
				count++
			}
			if got, n, e := Fill(x, rs); e != err || n != count || !same(got, want) {
				t.Errorf("Fill of %s with %d = %s, %d, %d; Write of each = %s, %d, %d", shape(x), len(rs), shape(got), n, e, shape(want), count, err)
			}
		}
	}
}

// P12.3

func TestReadOfAllTapes(t *testing.T) {
	for _, x := range slices.Concat(goodTapes(), wrongTapes()) {
		for _, i := range append(places(len(x.R)), x.Cap-1, x.Cap, x.Cap+1) {
			reads(t, x, i)
		}
	}
}

func TestReadAtEachPlace(t *testing.T) {
	for _, x := range []api.Tape{with(200, records(200)...), with(200, records(120)...), marked(with(30, records(30)...)), marked(with(31, records(30)...))} {
		for i := -3; i < 205; i++ {
			reads(t, x, i)
		}
	}
}

func TestReadTellsTheFirstError(t *testing.T) {
	rs := records(2)
	for i, x := range []struct {
		t    api.Tape
		at   int
		want []byte
		e    api.Errno
	}{
		{with(3, rs...), 0, rs[0], api.OK}, {with(3, rs...), 1, rs[1], api.OK}, {with(3, rs...), 2, nil, api.ErrEnd}, {with(3, rs...), 3, nil, api.ErrEnd},
		{with(3, rs...), -1, nil, api.ErrNone}, {with(3, rs...), math.MinInt, nil, api.ErrNone}, {with(3, rs...), math.MaxInt, nil, api.ErrEnd},
		{with(2, rs...), 1, rs[1], api.OK}, {with(2, rs...), 2, nil, api.ErrEnd}, {marked(with(2, rs...)), 1, rs[1], api.OK}, {marked(with(2, rs...)), 2, nil, api.ErrEnd},
		{with(0), 0, nil, api.ErrEnd}, {with(0), -1, nil, api.ErrNone}, {with(200), 0, nil, api.ErrEnd}, {marked(with(0)), 0, nil, api.ErrEnd},
		{with(1, rs...), 0, nil, api.ErrArg}, {with(1, rs...), -1, nil, api.ErrArg}, {with(1, rs...), 5, nil, api.ErrArg},
		{with(-1), -1, nil, api.ErrArg}, {with(201), 0, nil, api.ErrArg}, {with(3, rs[0], nil), 0, nil, api.ErrArg}, {with(3, nil, rs[0]), 1, nil, api.ErrArg},
	} {
		got, e := Read(x.t, x.at)
		if e != x.e || !bytes.Equal(got, x.want) {
			t.Errorf("%d: Read of %s at %d = %d bytes, %d; want %d bytes, %d", i, shape(x.t), x.at, len(got), e, len(x.want), x.e)
		}
	}
}

// P12.4

// act does one thing with a tape, by chance, and holds it against what it should answer.
func act(t *testing.T, chance *rand.Rand, some [][]byte, x api.Tape) api.Tape {
	t.Helper()
	pick := func() []byte { return some[chance.Intn(len(some))] }
	var next api.Tape
	var e api.Errno
	switch chance.Intn(12) {
	case 0:
		closes(t, x)
		next, e = Close(x)
	case 1, 2:
		n := chance.Intn(len(x.R)+4) - 1
		cuts(t, x, n)
		next, e = Cut(x, n)
	case 3, 4:
		rs := make([][]byte, chance.Intn(5))
		for i := range rs {
			rs[i] = pick()
		}
		fills(t, x, rs)
		// Also with an error there may be some that were written.
		next, _, _ = Fill(x, rs)
	default:
		r := pick()
		writes(t, x, r)
		next, e = Write(x, r)
	}
	if e != api.OK && !same(next, x) {
		t.Fatalf("with error %d %s became %s", e, shape(x), shape(next))
	}
	return next
}

func TestNoTapeHasMoreThanItHasRoomFor(t *testing.T) {
	chance := rand.New(rand.NewSource(12))
	some := slices.Concat(records(9), goodRecords()[:2], wrongRecords()[:3])
	for range 300 {
		room := []int{0, 1, 2, 3, 4, 7, 12}[chance.Intn(7)]
		x, _ := New(room)
		for range 30 {
			x = act(t, chance, some, x)
			if x.Cap != room || len(x.R) > room || !May(x) {
				t.Fatalf("a tape of room %d became %s", room, shape(x))
			}
			for i := range x.R {
				reads(t, x, i)
			}
		}
	}
}

func TestARecordIsWrittenWholeOrNotAtAll(t *testing.T) {
	for _, x := range goodTapes() {
		for _, r := range slices.Concat(goodRecords(), wrongRecords()) {
			next, e := Write(x, r)
			if e != api.OK {
				if !same(next, x) {
					t.Fatalf("Write of %d bytes to %s = %s, %d", len(r), shape(x), shape(next), e)
				}
				continue
			}
			last, e := Read(next, len(x.R))
			if e != api.OK || !bytes.Equal(last, r) || len(next.R) != len(x.R)+1 {
				t.Fatalf("what is written to %s is read as %d bytes, %d", shape(x), len(last), e)
			}
		}
	}
}

func TestWhatWasWrittenIsRead(t *testing.T) {
	rs := append(records(150), goodRecords()...)
	x, _ := New(len(rs))
	for i, r := range rs {
		var e api.Errno
		if x, e = Write(x, r); e != api.OK {
			t.Fatalf("Write of record %d = %d", i, e)
		}
	}
	filled, n, e := Fill(api.Tape{Cap: len(rs)}, rs)
	if n != len(rs) || e != api.OK || !Same(x, filled) {
		t.Fatalf("Fill with %d = %s, %d, %d", len(rs), shape(filled), n, e)
	}
	closed, _ := Close(x)
	for i, r := range rs {
		for _, y := range []api.Tape{x, filled, closed} {
			if got, e := Read(y, i); e != api.OK || !bytes.Equal(got, r) {
				t.Fatalf("Read at %d = %d bytes, %d", i, len(got), e)
			}
		}
	}
}

// nodes is a tree of files of many lengths.
func nodes() []api.Node {
	var l []api.Node
	for i := range 20 {
		l = append(l, api.Node{Path: fmt.Sprintf("%c%s", 'A'+i, strings.Repeat("y", 14*i)), Kind: '0', Data: strings.Repeat("\x00z", 100*i)})
	}
	return l
}

// TestTreesAreReadBehindTapes fills one tape after the other with a tree's records, and reads them again.
func TestTreesAreReadBehindTapes(t *testing.T) {
	l, _ := stream.All(nodes())
	for _, b := range []int{1, 2, 3, 7, 20} {
		rs, _ := record.Group(l, b)
		for _, room := range []int{1, 2, 5, len(rs) - 1, len(rs), len(rs) + 1} {
			var tapes []api.Tape
			for rest := rs; len(rest) > 0; {
				empty, _ := New(room)
				full, n, e := Fill(empty, rest)
				if n != min(room, len(rest)) || (e == api.OK) != (n == len(rest)) || e != api.OK && e != api.ErrEnd {
					t.Fatalf("Fill of room %d with %d = %d, %d", room, len(rest), n, e)
				}
				full, _ = Close(full)
				tapes, rest = append(tapes, full), rest[n:]
			}
			var again [][]byte
			for _, x := range tapes {
				for i := range len(x.R) {
					r, _ := Read(x, i)
					again = append(again, r)
				}
			}
			back, _ := record.Blocks(again)
			if got, e := read.Read(back); e != api.OK || !tree.Same(got, nodes()) {
				t.Errorf("by %d, of room %d: %d nodes, %d", b, room, len(got), e)
			}
		}
	}
}

// The rules

// answer is what a call answers, in whichever form: a tape, or a record.
type answer struct {
	name string
	give func(x api.Tape, rs [][]byte) (api.Tape, []byte)
}

// answers are all calls that answer a tape or a record.
func answers() []answer {
	tape := func(x api.Tape, _ api.Errno) (api.Tape, []byte) { return x, nil }
	filled := func(x api.Tape, rs [][]byte) (api.Tape, []byte) { y, _, e := Fill(x, rs); return tape(y, e) }
	return []answer{
		{"Write", func(x api.Tape, rs [][]byte) (api.Tape, []byte) { return tape(Write(x, rs[0])) }},
		{"Write of a wrong one", func(x api.Tape, rs [][]byte) (api.Tape, []byte) { return tape(Write(x, rs[0][:511])) }},
		{"Close", func(x api.Tape, rs [][]byte) (api.Tape, []byte) { return tape(Close(x)) }},
		{"Cut at all", func(x api.Tape, rs [][]byte) (api.Tape, []byte) { return tape(Cut(x, len(x.R))) }},
		{"Cut at 1", func(x api.Tape, rs [][]byte) (api.Tape, []byte) { return tape(Cut(x, 1)) }},
		{"Cut at -1", func(x api.Tape, rs [][]byte) (api.Tape, []byte) { return tape(Cut(x, -1)) }},
		{"Fill", filled},
		{"Fill of none", func(x api.Tape, _ [][]byte) (api.Tape, []byte) { return filled(x, nil) }},
		{"Read", func(x api.Tape, rs [][]byte) (api.Tape, []byte) { r, _ := Read(x, 0); return api.Tape{}, r }},
	}
}

// wide is the same tape, with memory behind its list and behind each record that is none of theirs, and all that memory.
func wide(t api.Tape) (api.Tape, [][]byte) {
	memory := make([][]byte, len(t.R), len(t.R)+8)
	for i, r := range t.R {
		memory[i] = slices.Concat(r, bytes.Repeat([]byte{200}, 600))
	}
	behind := bytes.Repeat([]byte{201}, 512)
	memory = append(memory, behind, behind)
	list := make([][]byte, len(memory))
	for i, m := range memory {
		list[i] = m[:512]
		if i < len(t.R) {
			list[i] = m[:len(t.R[i])]
		}
	}
	t.R = list[:len(t.R)]
	return t, memory
}

// memoryTapes are tapes of all kinds of answers: changed, full, marked, and wrong ones.
func memoryTapes() []api.Tape {
	return []api.Tape{with(5, records(2)...), with(2, records(2)...), marked(with(5, records(2)...)), with(1, records(2)...), with(9, records(2)[0], pattern(4, 700)), with(-1, records(1)...), with(200, records(40)...)}
}

// TestAnswersAreNewMemory holds R3: no change of what was given is seen in an answer, nor the other way round, nor does one record of an answer share memory with another one.
func TestAnswersAreNewMemory(t *testing.T) {
	for _, a := range answers() {
		for _, x := range memoryTapes() {
			given, memory := wide(x)
			rs := records(2)
			kept, keptRs := clones(memory), clones(rs)
			got, r := a.give(given, rs)
			was, wasR := clone(got), bytes.Clone(r)
			for _, m := range append(memory, rs...) {
				for k := range m {
					m[k] ^= 255
				}
			}
			if !same(got, was) || !bytes.Equal(r, wasR) {
				t.Errorf("%s of %s changes with what was given", a.name, shape(x))
			}
			for _, m := range append(memory, rs...) {
				for k := range m {
					m[k] ^= 255
				}
			}
			for _, m := range append(got.R, r) {
				clear(m)
				_ = append(m, bytes.Repeat([]byte{77}, 700)...)
			}
			_ = append(got.R, nil, nil, nil)
			clear(got.R)
			if !same(given, x) || !same(with(0, memory...), with(0, kept...)) || !same(with(0, rs...), with(0, keptRs...)) {
				t.Errorf("what was given changes with %s of %s", a.name, shape(x))
			}
			if list := given.R[:len(x.R)+2]; len(list[len(x.R)]) != 512 || len(list[len(x.R)+1]) != 512 {
				t.Errorf("%s of %s writes behind the list that was given", a.name, shape(x))
			}
		}
	}
}

// TestRecordsShareNoMemory holds that, of an answer, no change of one record, nor what grows behind it, is seen in another one.
func TestRecordsShareNoMemory(t *testing.T) {
	all := pattern(0, 2048)
	one := all[:512]
	for _, a := range answers() {
		for _, x := range []api.Tape{with(9, one, one, one), with(4, one, all[512:1024], all[:1024]), with(3, one, one, one), with(2, one, one, one), marked(with(9, one, one))} {
			got, _ := a.give(x, [][]byte{one, one})
			for i := range got.R {
				was := clone(got)
				for k := range got.R[i] {
					got.R[i][k] ^= 255
				}
				_ = append(got.R[i], bytes.Repeat([]byte{77}, 512)...)
				if !slices.EqualFunc(got.R[:i], was.R[:i], bytes.Equal) || !slices.EqualFunc(got.R[i+1:], was.R[i+1:], bytes.Equal) {
					t.Errorf("%s of %s: record %d shares memory with another one", a.name, shape(x), i)
				}
			}
		}
	}
}

// TestAnotherRecordOnAnEarlierTape holds that tapes made of one tape do not write into each other.
func TestAnotherRecordOnAnEarlierTape(t *testing.T) {
	rs := records(12)
	x, _ := New(12)
	for i := range 8 {
		x, _ = Write(x, rs[i])
		first, _ := Write(x, rs[8])
		second, _ := Write(x, rs[9])
		third, _, _ := Fill(x, rs[10:])
		cut, _ := Cut(first, i+1)
		fourth, _ := Write(cut, rs[11])
		want := func(more ...[]byte) api.Tape { return with(12, slices.Concat(rs[:i+1], more)...) }
		if !same(x, want()) || !same(first, want(rs[8])) || !same(second, want(rs[9])) || !same(third, want(rs[10:]...)) || !same(cut, want()) || !same(fourth, want(rs[11])) {
			t.Fatalf("behind %d records, tapes write into each other", i+1)
		}
	}
}

// TestTheSameAgainWhateverWasAsked holds R5.
func TestTheSameAgainWhateverWasAsked(t *testing.T) {
	x, rs := with(5, records(3)...), records(2)
	for range 3 {
		writes(t, x, rs[1])
		fills(t, x, rs)
		closes(t, x)
		cuts(t, x, 2)
		reads(t, x, 1)
		for _, wrong := range wrongTapes()[:20] {
			Write(wrong, rs[0])
			Fill(wrong, rs)
			Close(wrong)
			Cut(wrong, 0)
			Read(wrong, 0)
		}
		if got, ok := New(5); !ok || !same(got, with(5)) || !May(x) || !Same(x, clone(x)) || Same(x, got) {
			t.Error("New, May or Same answer otherwise than first")
		}
	}
}
