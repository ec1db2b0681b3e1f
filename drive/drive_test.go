package drive

import (
	"bytes"
	"fmt"
	"math"
	"math/rand"
	"slices"
	"strings"
	"testing"

	"reelkeeper/api"
	"reelkeeper/read"
	"reelkeeper/record"
	"reelkeeper/stream"
	"reelkeeper/tree"
)

// pattern is so many bytes, none of them 0, that begin by a number: no two of other numbers are the same.
func pattern(number, n int) []byte {
	b := make([]byte, n)
	for i := range b {
		b[i] = byte(1 + (i+number)%251)
	}
	copy(b, fmt.Sprintf("<%d>", number))
	return b
}

// records are so many records of one block or two, each of other bytes.
func records(n int) [][]byte {
	var rs [][]byte
	for i := range n {
		rs = append(rs, pattern(i, 512*(1+i%2)))
	}
	return rs
}

// with is a tape of that room with these records.
func with(room int, rs ...[]byte) api.Tape {
	return api.Tape{Cap: room, R: rs}
}

// holding is a tape of that room with so many records.
func holding(room, n int) api.Tape {
	return with(room, records(n)...)
}

// marked is the same tape, with a mark.
func marked(t api.Tape) api.Tape {
	t.Mark = true
	return t
}

// at is a drive with these tapes, of which one is mounted, at a place.
func at(in, pos int, l ...api.Tape) api.Drive {
	return api.Drive{Shelf: l, In: in, Pos: pos}
}

// off is a drive with these tapes, none of them mounted.
func off(l ...api.Tape) api.Drive {
	return at(-1, 0, l...)
}

// clone is the same drive in other memory, with nothing behind its lists.
func clone(d api.Drive) api.Drive {
	shelf := make([]api.Tape, len(d.Shelf))
	for i, t := range d.Shelf {
		shelf[i] = api.Tape{Cap: t.Cap, R: clones(t.R), Mark: t.Mark}
	}
	return at(d.In, d.Pos, shelf...)
}

func clones(l [][]byte) [][]byte {
	m := make([][]byte, len(l))
	for i, r := range l {
		m[i] = append(make([]byte, 0, len(r)), r...)
	}
	return m
}

// same tells whether two drives have the same tapes, and the same one mounted, at the same place.
func same(a, b api.Drive) bool {
	return a.In == b.In && a.Pos == b.Pos && slices.EqualFunc(a.Shelf, b.Shelf, alike)
}

// alike tells whether two tapes have the same room, records and mark.
func alike(a, b api.Tape) bool {
	return a.Cap == b.Cap && a.Mark == b.Mark && slices.EqualFunc(a.R, b.R, bytes.Equal)
}

// shape is what a drive has, without its bytes.
func shape(d api.Drive) string {
	var all []string
	for _, t := range d.Shelf {
		mark := ""
		if t.Mark {
			mark = ", marked"
		}
		all = append(all, fmt.Sprintf("%d of %d%s", len(t.R), t.Cap, mark))
	}
	return fmt.Sprintf("{[%s], in %d, at %d}", strings.Join(all, "; "), d.In, d.Pos)
}

// far are numbers that are no place of a shelf and none of a tape.
func far() []int {
	return []int{-2, -3, -12, -13, -200, -256, -257, 201, 255, 256, 257, 1 << 16, 1<<16 + 1, 1 << 32, 1<<32 + 1, -1 << 32, 1<<32 - 1, math.MinInt, math.MinInt + 1, math.MaxInt - 1, math.MaxInt}
}

// wrongRecords are what is no record.
func wrongRecords() [][]byte {
	l := [][]byte{nil, {}}
	for _, n := range []int{1, 511, 513, 1023, 10239, 10241, 10752, 512 * 256} {
		l = append(l, pattern(7, n))
	}
	return append(l, make([]byte, 513))
}

// goodRecords are records of the edges of length.
func goodRecords() [][]byte {
	return [][]byte{pattern(90, 512), pattern(91, 1024), pattern(92, 10240), make([]byte, 512), make([]byte, 10240)}
}

// goodTapes are tapes that may be: of all edges of room, of how full they are, marked and not.
func goodTapes() []api.Tape {
	l := []api.Tape{{}}
	for _, x := range [][2]int{{1, 0}, {1, 1}, {2, 1}, {2, 2}, {4, 3}, {7, 5}, {200, 0}, {200, 9}} {
		l = append(l, holding(x[0], x[1]))
	}
	l = append(l, with(5, goodRecords()...), with(6, goodRecords()...))
	for _, t := range slices.Clone(l) {
		l = append(l, marked(t))
	}
	return l
}

// fullTapes are the greatest tapes there are, full, and with room for one more.
func fullTapes() []api.Tape {
	rs := slices.Repeat([][]byte{pattern(1, 512)}, 200)
	return []api.Tape{with(200, rs...), with(200, rs[:199]...), marked(with(200, rs...)), marked(with(200, rs[:199]...))}
}

// wrongTapes are tapes that may not be: by their room, by too many records, by a record at the beginning, in the midst or at the end.
func wrongTapes() []api.Tape {
	rs := records(2)
	l := []api.Tape{with(-1), with(201), with(201, rs...), with(math.MinInt), with(math.MaxInt, rs...), with(1<<32+4, rs...), with(0, rs[0]), with(1, rs...)}
	for _, wrong := range wrongRecords() {
		l = append(l, with(1, wrong), with(9, wrong, rs[0], rs[1]), with(9, rs[0], wrong, rs[1]), with(9, rs[0], rs[1], wrong))
	}
	l = append(l, with(200, slices.Repeat([][]byte{rs[0]}, 201)...))
	return append(l, marked(l[0]), marked(l[7]), marked(with(9, nil)))
}

// shelf is so many tapes of several rooms, some of them marked, some full, no two of which are the same.
func shelf(n int) []api.Tape {
	var l []api.Tape
	for i := range n {
		t := api.Tape{Cap: 1 + i, Mark: i%3 == 1}
		for k := range []int{1 + i, i / 2, 0, i}[i%4] {
			t.R = append(t.R, pattern(100*(i+1)+k, 512*(1+k%2)))
		}
		l = append(l, t)
	}
	return l
}

// drivesOf are drives that may be, with these tapes: none mounted, and each at its beginning, in its midst and at its end.
func drivesOf(l []api.Tape) []api.Drive {
	ds := []api.Drive{off(l...)}
	for i, t := range l {
		n := len(t.R)
		for _, pos := range slices.Compact([]int{0, min(1, n), n / 2, max(0, n-1), n}) {
			ds = append(ds, at(i, pos, l...))
		}
	}
	return ds
}

// goodDrives are drives that may be: of all edges of how many tapes there are, which one is mounted, and where.
func goodDrives() []api.Drive {
	var ds []api.Drive
	for _, n := range []int{0, 1, 2, 3, 11, 12} {
		ds = append(ds, drivesOf(shelf(n))...)
	}
	for _, t := range append(goodTapes(), fullTapes()...) {
		ds = append(ds, drivesOf([]api.Tape{t})...)
		ds = append(ds, drivesOf([]api.Tape{holding(3, 2), t})[1:]...)
	}
	return append(ds, drivesOf(slices.Repeat([]api.Tape{holding(4, 2)}, 12))...)
}

// wrongDrives are drives that may not be: by how many tapes there are, by a tape, by which one is mounted, by the place there.
func wrongDrives() []api.Drive {
	var ds []api.Drive
	for _, n := range []int{13, 14, 24, 256, 257} {
		l := slices.Repeat([]api.Tape{holding(3, 2)}, n)
		ds = append(ds, off(l...), at(0, 0, l...), at(0, 2, l...), at(12, 1, l...), at(n-1, 0, l...), at(n, 0, l...))
	}
	for _, wrong := range wrongTapes() {
		good := holding(5, 3)
		ds = append(ds, off(wrong), at(0, 0, wrong), at(0, len(wrong.R), wrong))
		ds = append(ds, off(wrong, good), at(1, 2, wrong, good), at(0, 0, wrong, good), at(0, 1, good, wrong), at(0, 0, good, wrong, good), off(good, good, wrong))
	}
	for _, n := range []int{0, 1, 2, 12} {
		l := shelf(n)
		for _, in := range append(far(), n, n+1, 12, 13) {
			if in >= n || in < 0 {
				ds = append(ds, at(in, 0, l...), at(in, 1, l...), at(in, -1, l...))
			}
		}
		for _, pos := range append(far(), 1, -1, 2) {
			ds = append(ds, at(-1, pos, l...))
		}
		for i, t := range l {
			for _, pos := range append(far(), -1, len(t.R)+1, max(len(t.R), t.Cap)+1) {
				ds = append(ds, at(i, pos, l...))
			}
		}
	}
	return append(ds, api.Drive{}, at(0, 2, holding(200, 1)), at(0, 201, fullTapes()...), at(0, 200, fullTapes()[1]))
}

// The model: what each call should answer.

// mayStand tells whether bytes are a record's.
func mayStand(r []byte) bool {
	for n := 512; n <= 10240; n += 512 {
		if len(r) == n {
			return true
		}
	}
	return false
}

// mayBe tells whether a drive may be.
func mayBe(d api.Drive) bool {
	for _, t := range d.Shelf {
		for _, r := range t.R {
			if !mayStand(r) {
				return false
			}
		}
		if t.Cap < 0 || t.Cap > 200 || len(t.R) > t.Cap {
			return false
		}
	}
	room := map[int]int{-1: 0}
	for i, t := range d.Shelf {
		room[i] = len(t.R)
	}
	n, ok := room[d.In]
	return len(d.Shelf) <= 12 && ok && 0 <= d.Pos && d.Pos <= n
}

// wrong is what all calls that need a tape tell first.
func wrong(d api.Drive) api.Errno {
	switch {
	case !mayBe(d):
		return api.ErrArg
	case d.In == -1:
		return api.ErrNone
	}
	return api.OK
}

// mountedAt is what Mount should answer.
func mountedAt(d api.Drive, i int) (api.Drive, api.Errno) {
	next := clone(d)
	if !mayBe(d) {
		return next, api.ErrArg
	}
	for k := range d.Shelf {
		if k == i {
			next.In, next.Pos = k, 0
			return next, api.OK
		}
	}
	return next, api.ErrNone
}

// unmounted is what Unmount should answer.
func unmounted(d api.Drive) (api.Drive, api.Errno) {
	next, e := clone(d), wrong(d)
	if e == api.OK {
		next.In, next.Pos = -1, 0
	}
	return next, e
}

// rewound is what Rewind should answer.
func rewound(d api.Drive) (api.Drive, api.Errno) {
	next, e := clone(d), wrong(d)
	if e == api.OK {
		next.Pos = 0
	}
	return next, e
}

// written is what Write should answer.
func written(d api.Drive, r []byte) (api.Drive, api.Errno) {
	next, e := clone(d), wrong(d)
	switch {
	case e != api.OK:
		return next, e
	case !mayStand(r):
		return next, api.ErrArg
	case d.Pos == d.Shelf[d.In].Cap:
		return next, api.ErrEnd
	}
	t := &next.Shelf[d.In]
	t.R, t.Mark = append(t.R[:d.Pos], append([]byte{}, r...)), false
	next.Pos++
	return next, api.OK
}

// markedAt is what Mark should answer.
func markedAt(d api.Drive) (api.Drive, api.Errno) {
	next, e := clone(d), wrong(d)
	if e == api.OK {
		t := &next.Shelf[d.In]
		t.R, t.Mark = t.R[:d.Pos], true
	}
	return next, e
}

// given is what Read should answer.
func given(d api.Drive) (api.Drive, []byte, api.Errno) {
	next, e := clone(d), wrong(d)
	if e != api.OK {
		return next, nil, e
	}
	if d.Pos == len(d.Shelf[d.In].R) {
		return next, nil, api.ErrEnd
	}
	next.Pos++
	return next, next.Shelf[d.In].R[d.Pos], api.OK
}

// call is a call that answers a drive, and what it should answer.
type call struct {
	name  string
	made  func(d api.Drive) (api.Drive, []byte, api.Errno)
	model func(d api.Drive) (api.Drive, []byte, api.Errno)
}

// plain is a call that answers no record.
func plain(name string, made, model func(d api.Drive) (api.Drive, api.Errno)) call {
	without := func(f func(d api.Drive) (api.Drive, api.Errno)) func(d api.Drive) (api.Drive, []byte, api.Errno) {
		return func(d api.Drive) (api.Drive, []byte, api.Errno) {
			next, e := f(d)
			return next, nil, e
		}
	}
	return call{name, without(made), without(model)}
}

func mountOf(i int) call {
	return plain(fmt.Sprintf("Mount of %d", i), func(d api.Drive) (api.Drive, api.Errno) { return Mount(d, i) }, func(d api.Drive) (api.Drive, api.Errno) { return mountedAt(d, i) })
}

func writeOf(r []byte) call {
	return plain(fmt.Sprintf("Write of %d bytes", len(r)), func(d api.Drive) (api.Drive, api.Errno) { return Write(d, r) }, func(d api.Drive) (api.Drive, api.Errno) { return written(d, r) })
}

func unmount() call { return plain("Unmount", Unmount, unmounted) }

func rewind() call { return plain("Rewind", Rewind, rewound) }

func mark() call { return plain("Mark", Mark, markedAt) }

func reading() call { return call{"Read", Read, given} }

// holds holds a call against what it should answer, and tells what it answered.
func (c call) holds(t *testing.T, d api.Drive) (api.Drive, []byte, api.Errno) {
	t.Helper()
	was := clone(d)
	want, bytesWanted, e := c.model(d)
	got, r, err := c.made(d)
	if err != e || !same(got, want) || !bytes.Equal(r, bytesWanted) {
		t.Fatalf("%s: %s = %s, %d bytes, %d; want %s, %d bytes, %d", c.name, shape(was), shape(got), len(r), err, shape(want), len(bytesWanted), e)
	}
	if !same(d, was) {
		t.Fatalf("%s changed %s", c.name, shape(was))
	}
	if e != api.OK && (!same(got, was) || len(r) != 0) {
		t.Fatalf("%s: with error %d %s became %s", c.name, e, shape(was), shape(got))
	}
	return got, r, err
}

// P13.1: New

func TestNewOfAllCounts(t *testing.T) {
	for n := range 40 {
		l := shelf(n)
		got, ok := New(l)
		want := api.Drive{}
		if n <= 12 {
			want = off(shelf(n)...)
		}
		if ok != (n <= 12) || !same(got, want) {
			t.Errorf("New of %d tapes = %s, %t", n, shape(got), ok)
		}
		if ok && !May(got) {
			t.Errorf("New of %d tapes may not be", n)
		}
		if !same(off(l...), off(shelf(n)...)) {
			t.Errorf("New of %d tapes changed them", n)
		}
	}
}

func TestNewOfNoTapes(t *testing.T) {
	for _, l := range [][]api.Tape{nil, {}} {
		if got, ok := New(l); !ok || len(got.Shelf) != 0 || got.In != -1 || got.Pos != 0 {
			t.Errorf("New of no tapes = %s, %t", shape(got), ok)
		}
	}
}

func TestNewOfAllTapes(t *testing.T) {
	for _, x := range append(goodTapes(), fullTapes()...) {
		for _, l := range [][]api.Tape{{x}, {x, x}, {holding(2, 1), x}, slices.Repeat([]api.Tape{x}, 12)} {
			if got, ok := New(l); !ok || !same(got, off(l...)) {
				t.Fatalf("New of %s = %s, %t", shape(off(l...)), shape(got), ok)
			}
		}
	}
}

func TestNewOfAWrongTape(t *testing.T) {
	for _, x := range wrongTapes() {
		for n := range 12 {
			for i := range n + 1 {
				l := slices.Insert(shelf(n), i, x)
				if got, ok := New(l); ok || got.Shelf != nil || got.In != 0 || got.Pos != 0 {
					t.Fatalf("New of %s = %s, %t; want a zero one, false", shape(off(l...)), shape(got), ok)
				}
			}
		}
	}
	for _, n := range []int{13, 14, 25, 268, 1 << 16} {
		if got, ok := New(make([]api.Tape, n)); ok || got.Shelf != nil || got.In != 0 || got.Pos != 0 {
			t.Errorf("New of %d tapes = %d tapes, %t", n, len(got.Shelf), ok)
		}
	}
}

// P13.1: May

func TestMayOfAllPlaces(t *testing.T) {
	for n := range 16 {
		l := shelf(n)
		for _, in := range append(far(), -1, 0, 1, 2, 3, 4, 5, 6, 7, 8, 9, 10, 11, 12, 13, 14, 15, 16) {
			for pos := -2; pos < 18; pos++ {
				d := at(in, pos, l...)
				if got, want := May(d), mayBe(d); got != want {
					t.Fatalf("May of %s = %t", shape(d), got)
				}
			}
			for _, pos := range far() {
				if d := at(in, pos, l...); May(d) {
					t.Fatalf("May of %s = true", shape(d))
				}
			}
		}
	}
}

func TestMayAtAllPlacesOfGreatTapes(t *testing.T) {
	for _, x := range fullTapes() {
		for pos := -3; pos < 205; pos++ {
			want := pos >= 0 && pos <= len(x.R)
			if d := at(1, pos, holding(1, 0), x, holding(200, 7)); May(d) != want {
				t.Fatalf("May of %s = %t", shape(d), !want)
			}
		}
	}
}

func TestMayWrittenOut(t *testing.T) {
	a, b, c := holding(4, 3), marked(holding(2, 2)), holding(0, 0)
	for i, x := range []struct {
		d    api.Drive
		want bool
	}{
		{off(), true}, {api.Drive{}, false}, {at(0, 0), false}, {at(-1, 1), false}, {at(-2, 0), false}, {at(1, 0), false},
		{off(a, b, c), true}, {at(0, 0, a, b, c), true}, {at(0, 3, a, b, c), true}, {at(0, 4, a, b, c), false}, {at(0, -1, a, b, c), false},
		{at(1, 2, a, b, c), true}, {at(1, 3, a, b, c), false}, {at(2, 0, a, b, c), true}, {at(2, 1, a, b, c), false},
		{at(3, 0, a, b, c), false}, {at(-2, 0, a, b, c), false}, {at(-1, 1, a, b, c), false}, {at(-1, -1, a, b, c), false},
		{off(slices.Repeat([]api.Tape{a}, 12)...), true}, {at(11, 3, slices.Repeat([]api.Tape{a}, 12)...), true}, {at(12, 0, slices.Repeat([]api.Tape{a}, 12)...), false},
		{off(slices.Repeat([]api.Tape{c}, 13)...), false}, {at(0, 0, slices.Repeat([]api.Tape{a}, 13)...), false}, {at(12, 0, slices.Repeat([]api.Tape{a}, 13)...), false},
		{off(with(-1)), false}, {off(a, b, with(201)), false}, {at(0, 1, a, with(1, nil)), false}, {at(0, 0, with(1, nil)), false}, {at(0, 1, with(0, pattern(0, 512))), false},
		{at(math.MaxInt, 0, a), false}, {at(math.MinInt, 0, a), false}, {at(0, math.MaxInt, a), false}, {at(0, math.MinInt, a), false}, {at(-1, math.MaxInt, a), false}, {at(-1, math.MinInt, a), false},
	} {
		if got := May(x.d); got != x.want {
			t.Errorf("%d: May of %s = %t", i, shape(x.d), got)
		}
	}
}

func TestMayOfManyDrives(t *testing.T) {
	for _, d := range goodDrives() {
		if !May(d) || !mayBe(d) {
			t.Errorf("May of %s = false", shape(d))
		}
	}
	for _, d := range wrongDrives() {
		if May(d) || mayBe(d) {
			t.Errorf("May of %s = true", shape(d))
		}
	}
	if !May(api.Drive{Shelf: make([]api.Tape, 12, 40), In: 11}) || !May(api.Drive{Shelf: []api.Tape{}, In: -1}) {
		t.Error("May asks for more than what stands on a shelf")
	}
}

// P13.1: Same

// apart are drives no two of which are the same.
func apart() []api.Drive {
	other := func(number, n, at int) []byte {
		r := pattern(number, n)
		r[at]++
		return r
	}
	a, b, c := holding(4, 3), holding(2, 2), holding(9, 0)
	l := []api.Drive{
		{}, off(), at(1, 0), at(-2, 0), at(math.MaxInt, 0), at(math.MinInt, 0), at(1<<32, 0), at(-1, 1), at(-1, -1), at(-1, 1<<32), at(-1, math.MaxInt), at(-1, math.MinInt),
		off(a), at(0, 0, a), at(0, 1, a), at(0, 2, a), at(0, 3, a), at(0, 4, a), at(0, -1, a), at(1, 0, a), at(1, 3, a),
		off(a, b), at(0, 0, a, b), at(1, 0, a, b), at(1, 2, a, b), at(0, 2, a, b),
		off(b, a), at(0, 0, b, a), at(1, 0, b, a), at(0, 2, b, a),
		off(a, a), off(b, b), off(b), off(c), off(a, c), off(c, a), off(a, b, c), off(c, a, b), off(a, b, c, c),
		off(marked(a), b), off(a, marked(b)), off(marked(a), marked(b)), at(0, 0, marked(a), b), at(0, 0, a, marked(b)), at(1, 0, a, marked(b)),
		off(holding(5, 3), b), off(a, holding(3, 2)), off(holding(-4, 3), b), off(holding(4+1<<32, 3), b),
		off(holding(4, 2), b), off(holding(4, 4), b), off(a, holding(2, 1)), off(a, holding(2, 3)),
		off(with(4, other(0, 512, 0), a.R[1], a.R[2]), b), off(with(4, a.R[0], other(1, 1024, 1023), a.R[2]), b), off(with(4, a.R[0], a.R[1], other(2, 512, 300)), b),
		off(a, with(2, other(0, 512, 511), b.R[1])), off(a, with(2, b.R[0], other(1, 1024, 0))), off(a, with(2, b.R[1], b.R[0])), off(a, with(2, b.R[0], nil)), off(a, with(2, b.R[0], b.R[1][:1023])),
		off(api.Tape{}), off(api.Tape{}, api.Tape{}), at(0, 0, api.Tape{}), at(0, 0, api.Tape{}, api.Tape{}), at(1, 0, api.Tape{}, api.Tape{}),
		off(shelf(12)...), off(shelf(13)...), off(shelf(11)...), at(11, 0, shelf(12)...), at(11, 1, shelf(12)...), at(11, 0, shelf(13)...),
	}
	last := shelf(12)
	last[11].Mark = !last[11].Mark
	return append(l, off(last...))
}

func TestSameWrittenOut(t *testing.T) {
	l := apart()
	for i, a := range l {
		for k, b := range l {
			if got := Same(a, clone(b)); got != (i == k) {
				t.Errorf("Same of %s (%d) and %s (%d) = %t", shape(a), i, shape(b), k, got)
			}
		}
		if !Same(a, a) {
			t.Errorf("Same of %s and itself = false", shape(a))
		}
	}
}

func TestSameOfEmptyLists(t *testing.T) {
	for _, x := range [][2]api.Drive{
		{{In: -1}, {Shelf: []api.Tape{}, In: -1}},
		{{}, {Shelf: []api.Tape{}}},
		{off(api.Tape{Cap: 2}), off(api.Tape{Cap: 2, R: [][]byte{}})},
		{off(with(2, nil)), off(with(2, []byte{}))},
		{at(0, 1, with(2, pattern(0, 512))), {Shelf: append(make([]api.Tape, 0, 9), with(2, append(make([]byte, 0, 900), pattern(0, 512)...))), Pos: 1}},
	} {
		if !Same(x[0], x[1]) || !Same(x[1], x[0]) {
			t.Errorf("%s and %s differ", shape(x[0]), shape(x[1]))
		}
	}
}

func TestSameOfAllDrives(t *testing.T) {
	for _, d := range slices.Concat(goodDrives(), wrongDrives()) {
		if !Same(d, clone(d)) {
			t.Errorf("Same of %s and the like = false", shape(d))
		}
		for _, x := range []api.Drive{at(d.In+1, d.Pos, d.Shelf...), at(d.In, d.Pos+1, d.Shelf...), at(d.In+1, d.Pos-1, d.Shelf...), at(d.In, d.Pos, append(slices.Clone(d.Shelf), api.Tape{})...)} {
			if Same(d, x) || Same(x, d) {
				t.Errorf("Same of %s and %s = true", shape(d), shape(x))
			}
		}
	}
}

// P13.2 and P13.3, of all drives

// callsOf are all calls that answer a drive, with arguments of all edges for that one.
func callsOf(d api.Drive) []call {
	l := []call{unmount(), rewind(), mark(), reading()}
	for _, i := range append(far(), -1, 0, 1, d.In, len(d.Shelf)-1, len(d.Shelf), len(d.Shelf)+1, 11, 12, 13) {
		l = append(l, mountOf(i))
	}
	for _, r := range slices.Concat(goodRecords(), wrongRecords()) {
		l = append(l, writeOf(r))
	}
	return l
}

func TestAllCallsOfGoodDrives(t *testing.T) {
	for _, d := range goodDrives() {
		for _, c := range callsOf(d) {
			c.holds(t, d)
		}
	}
}

func TestAllCallsOfWrongDrives(t *testing.T) {
	for _, d := range wrongDrives() {
		for _, c := range []call{unmount(), rewind(), mark(), reading(), mountOf(-1), mountOf(0), mountOf(len(d.Shelf) - 1), mountOf(len(d.Shelf)), mountOf(math.MaxInt), writeOf(pattern(0, 512)), writeOf(nil), writeOf(pattern(0, 513))} {
			got, r, e := c.holds(t, d)
			if e != api.ErrArg || !same(got, d) || len(r) != 0 {
				t.Fatalf("%s: %s = %s, %d bytes, %d; want the same, nothing, %d", c.name, shape(d), shape(got), len(r), e, api.ErrArg)
			}
		}
	}
}

func TestAllCallsAtAllPlaces(t *testing.T) {
	for _, x := range append(goodTapes(), holding(30, 30), marked(holding(31, 30))) {
		for pos := range len(x.R) + 1 {
			for _, c := range []call{unmount(), rewind(), mark(), reading(), mountOf(0), mountOf(1), mountOf(2), writeOf(pattern(60, 512)), writeOf(pattern(61, 10240)), writeOf(pattern(62, 10241))} {
				c.holds(t, at(1, pos, holding(3, 1), x))
			}
		}
	}
}

func TestAllCallsOfTheGreatestDrive(t *testing.T) {
	rs := slices.Repeat([][]byte{pattern(1, 10240)}, 200)
	full := slices.Repeat([]api.Tape{with(200, rs...)}, 12)
	for _, c := range []call{mountOf(11), unmount(), rewind(), mark(), reading(), writeOf(rs[0])} {
		c.holds(t, at(11, 199, full...))
		c.holds(t, at(11, 200, full...))
	}
}

// P13.2: Mount, Unmount, Rewind

func TestMountWrittenOut(t *testing.T) {
	l := []api.Tape{holding(4, 3), marked(holding(2, 2)), holding(0, 0)}
	for i, x := range []struct {
		d    api.Drive
		i    int
		want api.Drive
		e    api.Errno
	}{
		{off(l...), 0, at(0, 0, l...), api.OK}, {off(l...), 1, at(1, 0, l...), api.OK}, {off(l...), 2, at(2, 0, l...), api.OK},
		{off(l...), 3, off(l...), api.ErrNone}, {off(l...), -1, off(l...), api.ErrNone}, {off(l...), -2, off(l...), api.ErrNone},
		{off(l...), math.MaxInt, off(l...), api.ErrNone}, {off(l...), math.MinInt, off(l...), api.ErrNone}, {off(l...), 1 << 32, off(l...), api.ErrNone},
		{off(), 0, off(), api.ErrNone}, {off(), -1, off(), api.ErrNone},
		{at(0, 2, l...), 0, at(0, 0, l...), api.OK}, {at(0, 0, l...), 0, at(0, 0, l...), api.OK}, {at(0, 3, l...), 1, at(1, 0, l...), api.OK}, {at(1, 2, l...), 0, at(0, 0, l...), api.OK},
		{at(1, 2, l...), 3, at(1, 2, l...), api.ErrNone}, {at(1, 2, l...), -1, at(1, 2, l...), api.ErrNone},
		{off(shelf(12)...), 11, at(11, 0, shelf(12)...), api.OK}, {off(shelf(12)...), 12, off(shelf(12)...), api.ErrNone},
		{off(shelf(13)...), 0, off(shelf(13)...), api.ErrArg}, {off(shelf(13)...), 13, off(shelf(13)...), api.ErrArg}, {off(shelf(13)...), -1, off(shelf(13)...), api.ErrArg},
		{at(3, 0, l...), 0, at(3, 0, l...), api.ErrArg}, {at(0, 4, l...), 5, at(0, 4, l...), api.ErrArg}, {at(-1, 1, l...), 0, at(-1, 1, l...), api.ErrArg}, {api.Drive{}, 0, api.Drive{}, api.ErrArg},
	} {
		if got, e := Mount(x.d, x.i); e != x.e || !same(got, x.want) {
			t.Errorf("%d: Mount of %d on %s = %s, %d; want %s, %d", i, x.i, shape(x.d), shape(got), e, shape(x.want), x.e)
		}
	}
}

func TestUnmountAndRewindWrittenOut(t *testing.T) {
	l := []api.Tape{holding(4, 3), marked(holding(2, 2)), holding(0, 0)}
	for i, x := range []struct {
		d, unmounted, rewound api.Drive
		e                     api.Errno
	}{
		{at(0, 0, l...), off(l...), at(0, 0, l...), api.OK}, {at(0, 2, l...), off(l...), at(0, 0, l...), api.OK}, {at(0, 3, l...), off(l...), at(0, 0, l...), api.OK},
		{at(1, 2, l...), off(l...), at(1, 0, l...), api.OK}, {at(2, 0, l...), off(l...), at(2, 0, l...), api.OK},
		{off(l...), off(l...), off(l...), api.ErrNone}, {off(), off(), off(), api.ErrNone},
		{at(-1, 1, l...), at(-1, 1, l...), at(-1, 1, l...), api.ErrArg}, {at(-2, 0, l...), at(-2, 0, l...), at(-2, 0, l...), api.ErrArg}, {at(0, 4, l...), at(0, 4, l...), at(0, 4, l...), api.ErrArg},
		{api.Drive{}, api.Drive{}, api.Drive{}, api.ErrArg}, {off(shelf(13)...), off(shelf(13)...), off(shelf(13)...), api.ErrArg},
	} {
		if got, e := Unmount(x.d); e != x.e || !same(got, x.unmounted) {
			t.Errorf("%d: Unmount of %s = %s, %d; want %s, %d", i, shape(x.d), shape(got), e, shape(x.unmounted), x.e)
		}
		if got, e := Rewind(x.d); e != x.e || !same(got, x.rewound) {
			t.Errorf("%d: Rewind of %s = %s, %d; want %s, %d", i, shape(x.d), shape(got), e, shape(x.rewound), x.e)
		}
	}
}

// P13.2: Write, Mark

func TestWriteWrittenOut(t *testing.T) {
	rs, r, wrong := records(4), pattern(50, 1024), pattern(51, 513)
	other := marked(with(3, pattern(70, 512)))
	for i, x := range []struct {
		t    api.Tape
		pos  int
		r    []byte
		want api.Tape
		e    api.Errno
	}{
		// At the end, in the midst, at the beginning: what stood behind is gone.
		{with(4, rs[:3]...), 3, r, with(4, rs[0], rs[1], rs[2], r), api.OK},
		{with(4, rs[:3]...), 2, r, with(4, rs[0], rs[1], r), api.OK},
		{with(4, rs[:3]...), 1, r, with(4, rs[0], r), api.OK},
		{with(4, rs[:3]...), 0, r, with(4, r), api.OK},
		{with(4), 0, r, with(4, r), api.OK},
		// A full tape takes none at its end.
		{with(4, rs...), 4, r, with(4, rs...), api.ErrEnd},
		{with(4, rs...), 3, r, with(4, rs[0], rs[1], rs[2], r), api.OK},
		{with(4, rs...), 0, r, with(4, r), api.OK},
		{with(1, rs[0]), 1, r, with(1, rs[0]), api.ErrEnd},
		{with(1, rs[0]), 0, r, with(1, r), api.OK},
		{with(0), 0, r, with(0), api.ErrEnd},
		// A mark goes with what stood there, also at its end.
		{marked(with(4, rs[:3]...)), 3, r, with(4, rs[0], rs[1], rs[2], r), api.OK},
		{marked(with(4, rs[:3]...)), 1, r, with(4, rs[0], r), api.OK},
		{marked(with(4)), 0, r, with(4, r), api.OK},
		{marked(with(4, rs...)), 4, r, marked(with(4, rs...)), api.ErrEnd},
		{marked(with(4, rs...)), 2, r, with(4, rs[0], rs[1], r), api.OK},
		{marked(with(0)), 0, r, marked(with(0)), api.ErrEnd},
		// What is no record is told ahead of a full tape, and takes nothing away.
		{with(4, rs[:3]...), 1, wrong, with(4, rs[:3]...), api.ErrArg},
		{with(4, rs...), 4, wrong, with(4, rs...), api.ErrArg},
		{with(4, rs...), 4, nil, with(4, rs...), api.ErrArg},
		{marked(with(4, rs...)), 4, []byte{}, marked(with(4, rs...)), api.ErrArg},
		{marked(with(4, rs[:3]...)), 0, pattern(1, 511), marked(with(4, rs[:3]...)), api.ErrArg},
		{with(0), 0, pattern(1, 10241), with(0), api.ErrArg},
		{with(4), 0, pattern(1, 512), with(4, pattern(1, 512)), api.OK},
		{with(4), 0, pattern(1, 10240), with(4, pattern(1, 10240)), api.OK},
	} {
		next := x.pos
		if x.e == api.OK {
			next++
		}
		for in := range 3 {
			d := at(in, x.pos, slices.Insert([]api.Tape{other, other}, in, x.t)...)
			want := at(in, next, slices.Insert([]api.Tape{other, other}, in, x.want)...)
			if got, e := Write(d, x.r); e != x.e || !same(got, want) {
				t.Errorf("%d: Write of %d bytes to %s = %s, %d; want %s, %d", i, len(x.r), shape(d), shape(got), e, shape(want), x.e)
			}
		}
	}
}

func TestMarkWrittenOut(t *testing.T) {
	rs := records(4)
	other := with(3, pattern(70, 512))
	for i, x := range []struct {
		t    api.Tape
		pos  int
		want api.Tape
	}{
		{with(4, rs[:3]...), 3, marked(with(4, rs[:3]...))},
		{with(4, rs[:3]...), 2, marked(with(4, rs[:2]...))},
		{with(4, rs[:3]...), 0, marked(with(4))},
		{with(4, rs...), 4, marked(with(4, rs...))},
		{with(4, rs...), 1, marked(with(4, rs[0]))},
		{with(4), 0, marked(with(4))},
		{with(0), 0, marked(with(0))},
		{marked(with(4, rs[:3]...)), 3, marked(with(4, rs[:3]...))},
		{marked(with(4, rs[:3]...)), 2, marked(with(4, rs[:2]...))},
		{marked(with(4, rs[:3]...)), 0, marked(with(4))},
		{marked(with(4, rs...)), 4, marked(with(4, rs...))},
		{marked(with(4, rs...)), 3, marked(with(4, rs[:3]...))},
		{marked(with(0)), 0, marked(with(0))},
	} {
		for in := range 3 {
			d := at(in, x.pos, slices.Insert([]api.Tape{other, other}, in, x.t)...)
			want := at(in, x.pos, slices.Insert([]api.Tape{other, other}, in, x.want)...)
			if got, e := Mark(d); e != api.OK || !same(got, want) {
				t.Errorf("%d: Mark of %s = %s, %d; want %s, %d", i, shape(d), shape(got), e, shape(want), api.OK)
			}
		}
	}
}

func TestWriteOfEachLength(t *testing.T) {
	may := map[int]bool{}
	for b := 1; b <= 20; b++ {
		may[512*b] = true
	}
	all := pattern(0, 21*512+2)
	d, full, none := at(0, 1, holding(3, 2)), at(0, 1, holding(1, 1)), off(holding(3, 2))
	for n := range len(all) + 1 {
		got, e := Write(d, all[:n])
		_, atEnd := Write(full, all[:n])
		_, without := Write(none, all[:n])
		want := d
		if may[n] {
			want = at(0, 2, with(3, pattern(0, 512), all[:n]))
		}
		if (e == api.OK) != may[n] || !same(got, want) || (atEnd == api.ErrEnd) != may[n] || (atEnd == api.ErrArg) == may[n] || without != api.ErrNone {
			t.Fatalf("Write of %d bytes = %s, %d; at the end %d; without a tape %d", n, shape(got), e, atEnd, without)
		}
	}
}

// TestWhichErrorIsTold goes through all that fit at once: a drive that may not be is told first, then that no tape is mounted, then the tape's own.
func TestWhichErrorIsTold(t *testing.T) {
	full, wrongTape := holding(2, 2), with(2, nil)
	good, wrong := pattern(0, 512), pattern(0, 513)
	for i, x := range []struct {
		d                             api.Drive
		r                             []byte
		write, mark, rewind, read, at api.Errno
	}{
		{off(full), good, api.ErrNone, api.ErrNone, api.ErrNone, api.ErrNone, api.ErrNone},
		{off(full), wrong, api.ErrNone, api.ErrNone, api.ErrNone, api.ErrNone, api.ErrNone},
		{off(full), nil, api.ErrNone, api.ErrNone, api.ErrNone, api.ErrNone, api.ErrNone},
		{off(), wrong, api.ErrNone, api.ErrNone, api.ErrNone, api.ErrNone, api.ErrNone},
		{off(full, wrongTape), good, api.ErrArg, api.ErrArg, api.ErrArg, api.ErrArg, api.ErrArg},
		{at(-1, 1, full), wrong, api.ErrArg, api.ErrArg, api.ErrArg, api.ErrArg, api.ErrArg},
		{at(-2, 0, full), good, api.ErrArg, api.ErrArg, api.ErrArg, api.ErrArg, api.ErrArg},
		{at(0, 2, full, wrongTape), good, api.ErrArg, api.ErrArg, api.ErrArg, api.ErrArg, api.ErrArg},
		{at(1, 0, full, wrongTape), good, api.ErrArg, api.ErrArg, api.ErrArg, api.ErrArg, api.ErrArg},
		{at(0, 3, full), good, api.ErrArg, api.ErrArg, api.ErrArg, api.ErrArg, api.ErrArg},
		{at(0, -1, full), good, api.ErrArg, api.ErrArg, api.ErrArg, api.ErrArg, api.ErrArg},
		{at(0, 2, full), good, api.ErrEnd, api.OK, api.OK, api.ErrEnd, api.ErrNone},
		{at(0, 2, full), wrong, api.ErrArg, api.OK, api.OK, api.ErrEnd, api.ErrNone},
		{at(0, 2, full), nil, api.ErrArg, api.OK, api.OK, api.ErrEnd, api.ErrNone},
		{at(0, 1, full), good, api.OK, api.OK, api.OK, api.OK, api.ErrNone},
		{at(0, 1, full), wrong, api.ErrArg, api.OK, api.OK, api.OK, api.ErrNone},
		{at(0, 2, marked(full)), good, api.ErrEnd, api.OK, api.OK, api.ErrEnd, api.ErrNone},
		{at(0, 1, marked(full)), good, api.OK, api.OK, api.OK, api.OK, api.ErrNone},
	} {
		_, write := Write(x.d, x.r)
		_, mark := Mark(x.d)
		_, rewind := Rewind(x.d)
		_, unmount := Unmount(x.d)
		_, _, read := Read(x.d)
		_, mount := Mount(x.d, len(x.d.Shelf))
		if write != x.write || mark != x.mark || rewind != x.rewind || unmount != x.rewind || read != x.read || mount != x.at {
			t.Errorf("%d: of %s Write, Mark, Rewind, Unmount, Read, Mount tell %d, %d, %d, %d, %d, %d", i, shape(x.d), write, mark, rewind, unmount, read, mount)
		}
	}
}

// P13.3

func TestReadWrittenOut(t *testing.T) {
	rs := records(3)
	l := []api.Tape{with(3, rs...), marked(with(9, rs[:2]...)), with(0)}
	for i, x := range []struct {
		d    api.Drive
		want api.Drive
		r    []byte
		e    api.Errno
	}{
		{at(0, 0, l...), at(0, 1, l...), rs[0], api.OK}, {at(0, 1, l...), at(0, 2, l...), rs[1], api.OK}, {at(0, 2, l...), at(0, 3, l...), rs[2], api.OK},
		{at(0, 3, l...), at(0, 3, l...), nil, api.ErrEnd},
		{at(1, 0, l...), at(1, 1, l...), rs[0], api.OK}, {at(1, 1, l...), at(1, 2, l...), rs[1], api.OK}, {at(1, 2, l...), at(1, 2, l...), nil, api.ErrEnd},
		{at(2, 0, l...), at(2, 0, l...), nil, api.ErrEnd},
		{off(l...), off(l...), nil, api.ErrNone}, {off(), off(), nil, api.ErrNone},
		{at(3, 0, l...), at(3, 0, l...), nil, api.ErrArg}, {at(0, 4, l...), at(0, 4, l...), nil, api.ErrArg}, {at(0, -1, l...), at(0, -1, l...), nil, api.ErrArg}, {api.Drive{}, api.Drive{}, nil, api.ErrArg},
		{at(0, 0, with(2, rs[0], nil)), at(0, 0, with(2, rs[0], nil)), nil, api.ErrArg}, {at(0, 0, shelf(13)...), at(0, 0, shelf(13)...), nil, api.ErrArg},
	} {
		if got, r, e := Read(x.d); e != x.e || !bytes.Equal(r, x.r) || !same(got, x.want) {
			t.Errorf("%d: Read of %s = %s, %d bytes, %d; want %s, %d bytes, %d", i, shape(x.d), shape(got), len(r), e, shape(x.want), len(x.r), x.e)
		}
	}
}

func TestReadToTheEnd(t *testing.T) {
	for _, x := range append(slices.Concat(goodTapes(), fullTapes()), holding(200, 200)) {
		d := at(1, 0, holding(3, 2), x, holding(4, 1))
		for i, want := range x.R {
			next, r, e := Read(d)
			if e != api.OK || !bytes.Equal(r, want) || !same(next, at(1, i+1, d.Shelf...)) {
				t.Fatalf("Read of %s = %s, %d bytes, %d", shape(d), shape(next), len(r), e)
			}
			d = next
		}
		for range 3 {
			next, r, e := Read(d)
			if e != api.ErrEnd || len(r) != 0 || !same(next, at(1, len(x.R), d.Shelf...)) {
				t.Fatalf("Read of %s = %s, %d bytes, %d; want the same, nothing, %d", shape(d), shape(next), len(r), e, api.ErrEnd)
			}
			d = next
		}
	}
}

// P13.4

// must is a drive that a call answered without an error.
func must(t *testing.T, d api.Drive, e api.Errno) api.Drive {
	t.Helper()
	if e != api.OK {
		t.Fatalf("error %d at %s", e, shape(d))
	}
	return d
}

// withTape is the drive with a tape mounted.
func withTape(t *testing.T, d api.Drive, i int) api.Drive {
	t.Helper()
	got, e := Mount(d, i)
	return must(t, got, e)
}

// rest are the records from the place at hand to the end, and the drive there.
func rest(t *testing.T, d api.Drive) ([][]byte, api.Drive) {
	t.Helper()
	var rs [][]byte
	for {
		next, r, e := Read(d)
		if e == api.ErrEnd {
			return rs, next
		}
		d, rs = must(t, next, e), append(rs, r)
	}
}

func TestWhatIsWrittenIsRead(t *testing.T) {
	rooms := []int{5, 0, 1, 200, 12}
	var l []api.Tape
	for _, room := range rooms {
		l = append(l, with(room))
	}
	d, _ := New(l)
	rs := append(goodRecords(), records(7)...)
	for i, room := range rooms {
		d = withTape(t, d, i)
		n := min(room, len(rs))
		for _, r := range rs[:n] {
			got, e := Write(d, r)
			d = must(t, got, e)
		}
		if got, e := Write(d, rs[0]); room == n && (e != api.ErrEnd || !same(got, d)) {
			t.Fatalf("Write to the end of room %d = %s, %d", room, shape(got), e)
		}
		if i%2 == 0 {
			got, e := Mark(d)
			d = must(t, got, e)
		}
		got, e := Rewind(d)
		back, _ := rest(t, must(t, got, e))
		if !slices.EqualFunc(back, rs[:n], bytes.Equal) {
			t.Fatalf("of %d records that were written to room %d, %d are read", n, room, len(back))
		}
	}
	got, e := Unmount(d)
	d = must(t, got, e)
	for i, room := range rooms {
		want := with(room, rs[:min(room, len(rs))]...)
		want.Mark = i%2 == 0
		if !alike(d.Shelf[i], want) {
			t.Errorf("tape %d in the end: %s", i, shape(off(d.Shelf[i])))
		}
		back, _ := rest(t, withTape(t, d, i))
		if !slices.EqualFunc(back, want.R, bytes.Equal) {
			t.Errorf("of tape %d %d records are read", i, len(back))
		}
	}
}

func TestWrittenInTheMidst(t *testing.T) {
	rs := records(6)
	for n := range 7 {
		for pos := range n + 1 {
			for count := range 6 - pos + 1 {
				x := holding(6, n)
				x.Mark = count%2 == 0
				d := at(1, 0, holding(3, 3), x, holding(9, 1))
				for range pos {
					got, _, e := Read(d)
					d = must(t, got, e)
				}
				want := slices.Clone(rs[:pos])
				for i := range count {
					r := pattern(500+i, 1024)
					got, e := Write(d, r)
					d, want = must(t, got, e), append(want, r)
					if behind, _ := rest(t, d); len(behind) != 0 {
						t.Fatalf("behind what was written at %d of %d, %d records are left", pos, n, len(behind))
					}
				}
				if count == 0 {
					want = rs[:n]
				}
				got, e := Rewind(d)
				back, end := rest(t, must(t, got, e))
				if !slices.EqualFunc(back, want, bytes.Equal) || end.Pos != len(want) {
					t.Fatalf("written at %d of %d: %d records of %d", pos, n, len(back), len(want))
				}
				if !alike(d.Shelf[0], holding(3, 3)) || !alike(d.Shelf[2], holding(9, 1)) || d.Shelf[1].Mark != (x.Mark && count == 0) {
					t.Fatalf("written at %d of %d: %s", pos, n, shape(d))
				}
			}
		}
	}
}

func TestOtherTapesStayAsTheyAre(t *testing.T) {
	for _, d := range drivesOf(shelf(12)) {
		for _, c := range []call{unmount(), rewind(), mark(), reading(), mountOf(5), writeOf(pattern(80, 512)), writeOf(pattern(81, 10240)), writeOf(nil)} {
			got, _, _ := c.holds(t, d)
			for i, x := range shelf(12) {
				changes := i == d.In && (c.name == "Mark" || strings.HasPrefix(c.name, "Write"))
				if !changes && !alike(got.Shelf[i], x) {
					t.Fatalf("%s of %s changes tape %d", c.name, shape(d), i)
				}
			}
		}
	}
}

// TestByChance does one thing after the other with a drive, and holds each against what it should answer.
func TestByChance(t *testing.T) {
	chance := rand.New(rand.NewSource(13))
	some := slices.Concat(records(9), goodRecords()[:3], wrongRecords()[:4])
	for range 200 {
		d, _ := New(shelf(chance.Intn(5)))
		rooms := clone(d)
		for range 60 {
			c := reading()
			switch chance.Intn(14) {
			case 0:
				c = mark()
			case 1:
				c = rewind()
			case 2:
				c = unmount()
			case 3, 4, 5:
				c = mountOf(chance.Intn(len(d.Shelf)+2) - 1)
			case 6, 7, 8, 9, 10:
				c = writeOf(some[chance.Intn(len(some))])
			}
			d, _, _ = c.holds(t, d)
			if !May(d) || !mayBe(d) {
				t.Fatalf("%s: %s may not be", c.name, shape(d))
			}
			for i, x := range d.Shelf {
				if x.Cap != rooms.Shelf[i].Cap || len(x.R) > x.Cap {
					t.Fatalf("%s: %s", c.name, shape(d))
				}
			}
		}
	}
}

// nodes is a tree of files of many lengths.
func nodes() []api.Node {
	var l []api.Node
	for i := range 20 {
		l = append(l, api.Node{Path: fmt.Sprintf("%c%s", 'A'+i, strings.Repeat("y", 14*i)), Kind: '0', Data: strings.Repeat("\x00z", 60*i)})
	}
	return l
}

// TestTreesAreReadFromSeveralTapes writes a tree's records to one tape after the other, as far as there is room, and reads them again.
func TestTreesAreReadFromSeveralTapes(t *testing.T) {
	l, _ := stream.All(nodes())
	for _, b := range []int{1, 2, 7, 20} {
		rs, _ := record.Group(l, b)
		room := len(rs)/11 + 1
		d, _ := New(slices.Repeat([]api.Tape{with(room), with(room, pattern(0, 512))}, 6))
		in := 0
		d = withTape(t, d, in)
		for _, r := range rs {
			got, e := Write(d, r)
			if e == api.ErrEnd {
				in++
				got, e = Mark(got)
				d = withTape(t, must(t, got, e), in)
				got, e = Write(d, r)
			}
			d = must(t, got, e)
		}
		var again [][]byte
		for i := range in + 1 {
			d = withTape(t, d, i)
			back, end := rest(t, d)
			if d = end; len(back) > room {
				t.Fatalf("tape %d has %d records", i, len(back))
			}
			again = append(again, back...)
		}
		back, _ := record.Blocks(again)
		if got, e := read.Read(back); e != api.OK || !tree.Same(got, nodes()) {
			t.Errorf("by %d: %d nodes, %d", b, len(got), e)
		}
	}
}

// The rules

// answers are all calls that answer a drive or a record.
func answers() []call {
	fresh := func(d api.Drive) (api.Drive, []byte, api.Errno) {
		next, _ := New(d.Shelf)
		return next, nil, api.OK
	}
	return []call{{"New", fresh, nil}, mountOf(0), mountOf(1), mountOf(-1), mountOf(7), unmount(), rewind(), mark(), reading(), writeOf(pattern(90, 1024)), writeOf(pattern(91, 513))}
}

// memoryDrives are drives of all kinds of answers: changed and not, with errors, and wrong ones.
func memoryDrives() []api.Drive {
	l := []api.Tape{holding(5, 3), marked(holding(2, 2)), with(4)}
	return []api.Drive{off(l...), at(0, 0, l...), at(0, 1, l...), at(0, 3, l...), at(1, 0, l...), at(1, 2, l...), at(2, 0, l...), at(3, 0, l...), at(0, 4, l...), at(-1, 1, l...), at(0, 0, with(1, records(2)...)), at(0, 1, holding(9, 2), with(3, nil)), at(0, 1, shelf(13)...)}
}

// wide is the same drive, with memory behind its lists and behind each record that is none of theirs.
func wide(d api.Drive) api.Drive {
	far := make([]api.Tape, 0, len(d.Shelf)+3)
	for _, t := range d.Shelf {
		rs := make([][]byte, 0, len(t.R)+3)
		for _, r := range t.R {
			rs = append(rs, slices.Concat(r, bytes.Repeat([]byte{200}, 600))[:len(r)])
		}
		_ = append(rs, pattern(0, 600)[:512], pattern(1, 600)[:512])
		far = append(far, api.Tape{Cap: t.Cap, R: rs, Mark: t.Mark})
	}
	_ = append(far, holding(3, 1), holding(4, 2))
	return at(d.In, d.Pos, far...)
}

// whole is a drive with all that its lists and records have room for.
func whole(d api.Drive) api.Drive {
	d.Shelf = slices.Clone(d.Shelf[:cap(d.Shelf)])
	for i, t := range d.Shelf {
		d.Shelf[i].R = slices.Clone(t.R[:cap(t.R)])
		for k, r := range d.Shelf[i].R {
			d.Shelf[i].R[k] = r[:cap(r)]
		}
	}
	return d
}

// flip changes all bytes of a drive and of a record, and again back.
func flip(d api.Drive, r []byte) {
	for _, x := range d.Shelf {
		for _, b := range append([][]byte{r}, x.R...) {
			for i := range b {
				b[i] ^= 255
			}
		}
	}
}

// spoil changes all that a drive and a record have, and what grows behind.
func spoil(d api.Drive, r []byte) {
	for i := range d.Shelf {
		for _, b := range append([][]byte{r}, d.Shelf[i].R...) {
			clear(b)
			_ = append(b, bytes.Repeat([]byte{77}, 700)...)
		}
		_ = append(d.Shelf[i].R, nil, nil, nil)
		clear(d.Shelf[i].R)
	}
	_ = append(d.Shelf, api.Tape{Cap: -7}, api.Tape{Cap: -7})
	clear(d.Shelf)
}

// TestAnswersAreNewMemory holds R3: no change of what was given is seen in an answer, nor the other way round.
func TestAnswersAreNewMemory(t *testing.T) {
	for _, c := range answers() {
		for _, d := range memoryDrives() {
			x := wide(d)
			memory := whole(x)
			kept := clone(memory)
			got, r, _ := c.made(x)
			was, wasR := clone(got), bytes.Clone(r)
			flip(memory, nil)
			if !same(got, was) || !bytes.Equal(r, wasR) {
				t.Errorf("%s of %s changes with the bytes that were given", c.name, shape(d))
			}
			flip(memory, nil)
			spoil(got, r)
			if !same(x, d) || !same(whole(x), kept) {
				t.Errorf("what was given changes with %s of %s", c.name, shape(d))
			}
			got, r, _ = c.made(x)
			spoil(x, nil)
			if !same(got, was) || !bytes.Equal(r, wasR) {
				t.Errorf("%s of %s changes with what was given", c.name, shape(d))
			}
		}
	}
}

// TestAnswersShareNoMemory holds that, of an answer, no change of one record, nor what grows behind it or behind a list, is seen in another one.
func TestAnswersShareNoMemory(t *testing.T) {
	one := pattern(0, 2048)
	rs := [][]byte{one[:512], one[:512], one[512:1024], one[:1024]}
	shared := []api.Tape{with(9, rs...), with(9, rs[:2]...), marked(with(9, rs[1:]...)), with(2, rs[:2]...)}
	for _, c := range answers() {
		for _, d := range drivesOf(shared) {
			got, r, _ := c.made(d)
			wasR := bytes.Clone(r)
			for i := range got.Shelf {
				for k := range got.Shelf[i].R {
					was := clone(got)
					b := got.Shelf[i].R[k]
					_ = append(b, bytes.Repeat([]byte{77}, 512)...)
					_ = append(got.Shelf[i].R, nil, nil)
					b[len(b)-1] ^= 255
					was.Shelf[i].R[k][len(b)-1] ^= 255
					if !same(got, was) || !bytes.Equal(r, wasR) {
						t.Fatalf("%s of %s: record %d of tape %d shares memory", c.name, shape(d), k, i)
					}
				}
			}
			was := clone(got)
			clear(r)
			_ = append(r, bytes.Repeat([]byte{77}, 512)...)
			if !same(got, was) {
				t.Fatalf("%s of %s: what is read shares memory with its tape", c.name, shape(d))
			}
		}
	}
}

// TestARecordThatWasWrittenIsTheTapes holds that what becomes of a record that was handed in changes nothing of the tape.
func TestARecordThatWasWrittenIsTheTapes(t *testing.T) {
	r := pattern(3, 1024)
	d, e := Write(at(0, 0, with(2)), r)
	clear(r)
	if want := at(0, 1, with(2, pattern(3, 1024))); e != api.OK || !same(d, want) {
		t.Errorf("a record changes on its tape")
	}
	clear(d.Shelf[0].R[0])
	r = pattern(4, 1024)
	d, _ = Write(d, r)
	clear(d.Shelf[0].R[1])
	if !bytes.Equal(r, pattern(4, 1024)) {
		t.Error("a record that was handed in changes with its tape")
	}
	// A record of the tape itself, written where it stood, and at another place.
	x := at(0, 0, holding(4, 3))
	for pos := range 4 {
		for k := range 3 {
			writeOf(x.Shelf[0].R[k]).holds(t, at(0, pos, x.Shelf...))
		}
	}
}

// TestAnotherRecordOnAnEarlierDrive holds that drives made of one drive do not write into each other.
func TestAnotherRecordOnAnEarlierDrive(t *testing.T) {
	rs := records(12)
	other := marked(holding(3, 2))
	d := at(1, 0, other, with(12), other)
	for i := range 8 {
		d, _ = Write(d, rs[i])
		first, _ := Write(d, rs[8])
		second, _ := Write(d, rs[9])
		closed, _ := Mark(d)
		third, _ := Write(closed, rs[10])
		back, _ := Rewind(first)
		fourth, _ := Write(back, rs[11])
		seen, r, _ := Read(back)
		fifth, _ := Write(seen, rs[9])
		want := func(pos int, l ...[]byte) api.Drive { return at(1, pos, other, with(12, l...), other) }
		up := func(more ...[]byte) [][]byte { return slices.Concat(rs[:i+1], more) }
		marking := want(i+1, up()...)
		marking.Shelf[1].Mark = true
		for k, x := range [][2]api.Drive{
			{d, want(i+1, up()...)}, {first, want(i+2, up(rs[8])...)}, {second, want(i+2, up(rs[9])...)}, {closed, marking}, {third, want(i+2, up(rs[10])...)},
			{back, want(0, up(rs[8])...)}, {fourth, want(1, rs[11])}, {seen, want(1, up(rs[8])...)}, {fifth, want(2, rs[0], rs[9])},
		} {
			if !same(x[0], x[1]) || !bytes.Equal(r, rs[0]) {
				t.Fatalf("behind %d records, drive %d is %s; want %s", i+1, k, shape(x[0]), shape(x[1]))
			}
		}
	}
}

// TestTheSameAgainWhateverWasAsked holds R5.
func TestTheSameAgainWhateverWasAsked(t *testing.T) {
	d := at(4, 1, shelf(6)...)
	for range 3 {
		for _, c := range []call{reading(), writeOf(pattern(90, 512)), writeOf(nil), mountOf(4), mountOf(9), mark(), rewind(), unmount()} {
			for _, x := range []api.Drive{d, at(2, 0, shelf(6)...), at(9, 9, d.Shelf...), off()} {
				c.holds(t, x)
			}
		}
		if got, ok := New(shelf(6)); !ok || !same(got, off(shelf(6)...)) || !May(d) || !Same(d, clone(d)) || Same(d, got) {
			t.Error("New, May or Same answer otherwise than first")
		}
	}
}
