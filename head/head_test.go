package head

import (
	"bytes"
	"fmt"
	"math"
	"math/rand"
	"strconv"
	"strings"
	"testing"

	"reelkeeper/api"
)

const kinds = "0125KLMV"

// span is a part of a block, from a place on up to another one.
type span struct{ from, to int }

// gaps are the parts of a block in which nothing stands.
func gaps(kind byte) []span {
	if kind == 'M' {
		return []span{{265, 369}, {381, 483}, {495, 512}}
	}
	return []span{{265, 345}, {500, 512}}
}

// with is a file's header with the name a, changed.
func with(change func(h *api.Head)) api.Head {
	h := api.Head{Name: "a", Type: '0'}
	change(&h)
	return h
}

// textField is one of a header's texts, its place and its room; numberField likewise.
type textField struct {
	name     string
	at, room int
	of       func(h *api.Head) *string
}

type numberField struct {
	name     string
	at, wide int
	of       func(h *api.Head) *int
}

func textFields() []textField {
	return []textField{
		{"Name", 0, 100, func(h *api.Head) *string { return &h.Name }},
		{"Link", 157, 100, func(h *api.Head) *string { return &h.Link }},
		{"Prefix", 345, 155, func(h *api.Head) *string { return &h.Prefix }},
	}
}

func numberFields() []numberField {
	return []numberField{
		{"Mode", 100, 8, func(h *api.Head) *int { return &h.Mode }},
		{"Uid", 108, 8, func(h *api.Head) *int { return &h.Uid }},
		{"Gid", 116, 8, func(h *api.Head) *int { return &h.Gid }},
		{"Size", 124, 12, func(h *api.Head) *int { return &h.Size }},
		{"Mtime", 136, 12, func(h *api.Head) *int { return &h.Mtime }},
	}
}

func moreFields() []numberField {
	return []numberField{
		{"Off", 369, 12, func(h *api.Head) *int { return &h.Off }},
		{"Real", 483, 12, func(h *api.Head) *int { return &h.Real }},
	}
}

// wantField says by the library what stands as a number, in 8 or 12 bytes.
func wantField(n, wide int) (string, bool) {
	digits := strconv.FormatInt(int64(n), 8)
	switch {
	case n < 0:
		return "", false
	case len(digits) < wide:
		return strings.Repeat("0", wide-1-len(digits)) + digits + "\x00", true
	case wide == 12:
		return "\x80\x00\x00\x00" + uint64Text(n), true
	case n < 1<<56:
		return "\x80" + uint64Text(n)[1:], true
	}
	return "", false
}

// uint64Text are the eight bytes of n.
func uint64Text(n int) string {
	text := ""
	for shift := 56; shift >= 0; shift -= 8 {
		text += string([]byte{byte(n >> shift)})
	}
	return text
}

// wantMay says what May has to answer.
func wantMay(h api.Head) bool {
	if len(h.Name) < 1 || len(h.Name) > 100 || len(h.Link) > 100 || len(h.Prefix) > 155 {
		return false
	}
	if strings.Contains(h.Name+h.Link+h.Prefix, "\x00") || !strings.Contains(kinds, string([]byte{h.Type})) {
		return false
	}
	if h.Type == 'M' && h.Prefix != "" || h.Type != 'M' && (h.Off != 0 || h.Real != 0) {
		return false
	}
	for _, n := range []int{h.Mode, h.Uid, h.Gid} {
		if n < 0 || n >= 1<<56 {
			return false
		}
	}
	return h.Size >= 0 && h.Mtime >= 0 && h.Off >= 0 && h.Real >= 0
}

// summed is the block b with its sum as it has to be.
func summed(b []byte) []byte {
	b = bytes.Clone(b)
	copy(b[148:], strings.Repeat(" ", 8))
	sum := 0
	for _, x := range b {
		sum += int(x)
	}
	copy(b[148:], fmt.Sprintf("%06o\x00 ", sum))
	return b
}

// wantBlock is the block of a header that may be.
func wantBlock(h api.Head) []byte {
	b := make([]byte, 512)
	number := func(at, n, wide int) {
		field, _ := wantField(n, wide)
		copy(b[at:], field)
	}
	copy(b, h.Name)
	number(100, h.Mode, 8)
	number(108, h.Uid, 8)
	number(116, h.Gid, 8)
	number(124, h.Size, 12)
	number(136, h.Mtime, 12)
	b[156] = h.Type
	copy(b[157:], h.Link)
	copy(b[257:], []byte{'u', 's', 't', 'a', 'r', 0, 48, 48})
	if h.Type == 'M' {
		number(369, h.Off, 12)
		number(483, h.Real, 12)
	} else {
		copy(b[345:], h.Prefix)
	}
	return summed(b)
}

// checkPut holds May and Put of h against what they have to answer, and Get of its block against h.
func checkPut(t *testing.T, h api.Head) {
	t.Helper()
	want := wantMay(h)
	if got := May(h); got != want {
		t.Errorf("May(%#v) = %t; want %t", h, got, want)
	}
	b, ok := Put(h)
	if !want {
		if ok || len(b) != 0 {
			t.Errorf("Put(%#v) = %d bytes, %t; want nothing, false", h, len(b), ok)
		}
		return
	}
	if !ok || !bytes.Equal(b, wantBlock(h)) {
		t.Errorf("Put(%#v) = %q, %t; want %q", h, b, ok, wantBlock(h))
		return
	}
	if got, e := Get(b); e != api.OK || got != h {
		t.Errorf("Get of the block of %#v = %#v, %d", h, got, e)
	}
}

// checkError fails if Get of b is another error, or answers a header with it.
func checkError(t *testing.T, why string, b []byte, want api.Errno) {
	t.Helper()
	if got, e := Get(b); e != want || got != (api.Head{}) {
		t.Errorf("Get of %s = %#v, %d; want a zero header, %d", why, got, e, want)
	}
}

// mustPut is the block of a header that may be.
func mustPut(t *testing.T, h api.Head) []byte {
	t.Helper()
	b, ok := Put(h)
	if !ok || len(b) != 512 {
		t.Fatalf("Put(%#v) = %d bytes, %t", h, len(b), ok)
	}
	return b
}

// heads are headers that may be: of all types, with texts and numbers at their edges.
func heads() []api.Head {
	var list []api.Head
	for _, kind := range []byte(kinds) {
		least := api.Head{Name: "a", Type: kind}
		most := api.Head{
			Name: strings.Repeat("n", 100), Link: strings.Repeat("\xff", 100),
			Mode: 1<<56 - 1, Uid: 1<<56 - 1, Gid: 1<<56 - 1, Size: math.MaxInt, Mtime: math.MaxInt, Type: kind,
		}
		some := api.Head{
			Name: "a/b", Link: "../c",
			Mode: 0o644, Uid: 1000, Gid: 1 << 21, Size: 488, Mtime: 1 << 33, Type: kind,
		}
		if kind == 'M' {
			most.Off, most.Real = math.MaxInt, math.MaxInt
			some.Off, some.Real = 512, 1000
		} else {
			most.Prefix, some.Prefix = strings.Repeat("p", 155), "d/e"
		}
		list = append(list, least, most, some)
	}
	return list
}

// numbers64 are numbers about all edges of fields of 8 and of 12 bytes.
func numbers64() []int {
	list := []int{math.MinInt, math.MinInt + 1, -1 << 56, -1 << 33, -512, -8, -2, -1, 0, 7, 8, 420, 1000, math.MaxInt - 1, math.MaxInt}
	for shift := range 63 {
		list = append(list, 1<<shift-1, 1<<shift, 1<<shift+1)
	}
	return list
}

// P4.1

// The parts are written out here, one by one, with the sum that they have.
func TestPutOfAFile(t *testing.T) {
	h := api.Head{Name: "b", Prefix: "a", Link: "c", Mode: 0o644, Uid: 1000, Gid: 100, Size: 5, Mtime: 0o7654321, Type: '0'}
	want := "b" + strings.Repeat("\x00", 99) +
		"0000644\x00" + "0001750\x00" + "0000144\x00" + "00000000005\x00" + "00007654321\x00" +
		"006472\x00 " + "0" +
		"c" + strings.Repeat("\x00", 99) +
		"ustar\x00" + "00" + strings.Repeat("\x00", 80) +
		"a" + strings.Repeat("\x00", 154) + strings.Repeat("\x00", 12)
	if got, ok := Put(h); !ok || string(got) != want {
		t.Errorf("Put = %q, %t; want %q", got, ok, want)
	}
}

func TestPutOfWhatGoesOn(t *testing.T) {
	h := api.Head{Name: "a/b", Mode: 0o755, Uid: 1 << 21, Gid: 1 << 40, Size: 488, Mtime: 1 << 33, Type: 'M', Off: 512, Real: 1000}
	want := "a/b" + strings.Repeat("\x00", 97) +
		"0000755\x00" + "\x80\x00\x00\x00\x00\x20\x00\x00" + "\x80\x00\x01\x00\x00\x00\x00\x00" +
		"00000000750\x00" + "\x80\x00\x00\x00\x00\x00\x00\x02\x00\x00\x00\x00" +
		"007034\x00 " + "M" + strings.Repeat("\x00", 100) +
		"ustar\x00" + "00" + strings.Repeat("\x00", 104) +
		"00000001000\x00" + strings.Repeat("\x00", 102) + "00000001750\x00" + strings.Repeat("\x00", 17)
	if got, ok := Put(h); !ok || string(got) != want {
		t.Errorf("Put = %q, %t; want %q", got, ok, want)
	}
}

func TestPutOfTheLeastHeader(t *testing.T) {
	b := mustPut(t, api.Head{Name: "a", Type: '0'})
	if string(b[148:156]) != "006060\x00 " {
		t.Errorf("the sum = %q", b[148:156])
	}
	checkPut(t, api.Head{Name: "a", Type: '0'})
	checkPut(t, api.Head{})
	checkPut(t, api.Head{Name: "a"})
	checkPut(t, api.Head{Type: '0'})
}

func TestPutOfAllHeads(t *testing.T) {
	for _, h := range heads() {
		if !May(h) {
			t.Errorf("May(%#v) = false", h)
		}
		checkPut(t, h)
	}
}

func TestEachTextAtItsEdges(t *testing.T) {
	for _, field := range textFields() {
		for _, kind := range []byte(kinds) {
			for _, size := range []int{0, 1, 2, 99, 100, 101, 102, 154, 155, 156, 157, 300, 512, 5000} {
				h := with(func(h *api.Head) { h.Type = kind })
				*field.of(&h) = strings.Repeat("x", size)
				wantsName := field.name == "Name" && size == 0
				wantsNone := field.name == "Prefix" && kind == 'M' && size > 0
				if want := size <= field.room && !wantsName && !wantsNone; May(h) != want {
					t.Errorf("May with a %s of %d bytes, type %c, = %t; want %t", field.name, size, kind, !want, want)
				}
				checkPut(t, h)
			}
		}
	}
}

func TestEachTextWithAByte0(t *testing.T) {
	for _, field := range textFields() {
		for _, kind := range []byte("05KLM") {
			for _, size := range []int{1, 2, 99, 100, 101, 154, 155, 156} {
				for _, at := range []int{0, 1, size / 2, size - 2, size - 1} {
					if at < 0 || at >= size {
						continue
					}
					h := with(func(h *api.Head) { h.Type = kind })
					text := bytes.Repeat([]byte("x"), size)
					text[at] = 0
					*field.of(&h) = string(text)
					if May(h) {
						t.Errorf("May with a %s of %d bytes, with a byte 0 at %d, = true", field.name, size, at)
					}
					checkPut(t, h)
				}
			}
		}
	}
}

// A text may have any byte but 0: it is neither a path nor letters alone.
func TestEachTextOfEachByte(t *testing.T) {
	for _, field := range textFields() {
		for x := range 256 {
			for _, text := range []string{string([]byte{byte(x)}), string([]byte{'a', byte(x)}), string([]byte{byte(x), 'z'})} {
				h := with(func(h *api.Head) { *field.of(h) = text })
				if got := May(h); got != (x != 0) {
					t.Errorf("May with a %s of %q = %t", field.name, text, got)
				}
				checkPut(t, h)
			}
		}
	}
	for _, name := range []string{"/", "..", "a/../b", "/a", "a//b", " ", "././@LongLink", "\xff\xfe"} {
		checkPut(t, with(func(h *api.Head) { h.Name, h.Link, h.Prefix = name, name, name }))
	}
}

func TestEachNumberAtItsEdges(t *testing.T) {
	for _, field := range append(numberFields(), moreFields()...) {
		for _, x := range []struct {
			n         int
			in8, in12 bool
		}{
			{math.MinInt, false, false}, {-1 << 33, false, false}, {-1, false, false},
			{0, true, true}, {1, true, true},
			{1<<21 - 1, true, true}, {1 << 21, true, true},
			{1<<33 - 1, true, true}, {1 << 33, true, true},
			{1<<56 - 1, true, true}, {1 << 56, false, true}, {1<<56 + 1, false, true},
			{math.MaxInt - 1, false, true}, {math.MaxInt, false, true},
		} {
			h := with(func(h *api.Head) { h.Type = 'M' })
			*field.of(&h) = x.n
			want := x.in8 && field.wide == 8 || x.in12 && field.wide == 12
			if got := May(h); got != want {
				t.Errorf("May with a %s of %d = %t; want %t", field.name, x.n, got, want)
			}
			checkPut(t, h)
		}
	}
}

func TestEachNumberStandsInItsPlaceAlone(t *testing.T) {
	for _, field := range append(numberFields(), moreFields()...) {
		zero := mustPut(t, api.Head{Name: "a", Type: 'M'})
		for _, n := range numbers64() {
			h := with(func(h *api.Head) { h.Type = 'M' })
			*field.of(&h) = n
			checkPut(t, h)
			want, fits := wantField(n, field.wide)
			if !fits {
				continue
			}
			b := mustPut(t, h)
			if got := string(b[field.at : field.at+field.wide]); got != want {
				t.Errorf("Put with a %s of %d has %q there; want %q", field.name, n, got, want)
			}
			for at := range b {
				inside := at >= field.at && at < field.at+field.wide || at >= 148 && at < 156
				if !inside && b[at] != zero[at] {
					t.Errorf("Put with a %s of %d has another byte at %d", field.name, n, at)
				}
			}
		}
	}
}

func TestEachNumberOfEachType(t *testing.T) {
	for _, field := range numberFields() {
		for _, kind := range []byte(kinds) {
			for _, n := range []int{-1, 0, 1, 1 << 21, 1 << 33, 1<<56 - 1, 1 << 56, math.MaxInt, math.MinInt} {
				h := with(func(h *api.Head) { h.Type = kind })
				*field.of(&h) = n
				checkPut(t, h)
			}
		}
	}
}

func TestAllBytesAsType(t *testing.T) {
	for kind := range 256 {
		h := with(func(h *api.Head) { h.Type = byte(kind) })
		want := strings.IndexByte(kinds, byte(kind)) >= 0
		if got := May(h); got != want {
			t.Errorf("May with type %d = %t; want %t", kind, got, want)
		}
		checkPut(t, h)
		h.Off, h.Real = 512, 1000
		if got := May(h); got != (kind == 'M') {
			t.Errorf("May with type %d, Off and Real = %t", kind, got)
		}
		checkPut(t, h)
		h.Off, h.Real, h.Prefix = 0, 0, "p"
		if got := May(h); got != (want && kind != 'M') {
			t.Errorf("May with type %d and a Prefix = %t", kind, got)
		}
		checkPut(t, h)
	}
}

func TestMoreHasNoPrefix(t *testing.T) {
	for _, size := range []int{0, 1, 24, 25, 100, 154, 155, 156} {
		for _, off := range []int{0, 512} {
			h := with(func(h *api.Head) { h.Type, h.Off, h.Real, h.Prefix = 'M', off, 2*off, strings.Repeat("p", size) })
			if got := May(h); got != (size == 0) {
				t.Errorf("May of an M with a Prefix of %d bytes = %t", size, got)
			}
			checkPut(t, h)
		}
	}
}

func TestOffAndRealOfMoreAlone(t *testing.T) {
	for _, kind := range []byte(kinds) {
		for _, off := range []int{math.MinInt, -1, 0, 1, 512, math.MaxInt} {
			for _, whole := range []int{math.MinInt, -1, 0, 1, 1000, math.MaxInt} {
				h := with(func(h *api.Head) { h.Type, h.Off, h.Real = kind, off, whole })
				want := off == 0 && whole == 0 || kind == 'M' && off >= 0 && whole >= 0
				if got := May(h); got != want {
					t.Errorf("May of type %c, Off %d, Real %d = %t; want %t", kind, off, whole, got, want)
				}
				checkPut(t, h)
			}
		}
	}
}

func TestSumOfBlocks(t *testing.T) {
	for _, x := range []struct {
		b    []byte
		want int
	}{
		{make([]byte, 512), 256},
		{bytes.Repeat([]byte{1}, 512), 504 + 256},
		{bytes.Repeat([]byte{32}, 512), 512 * 32},
		{bytes.Repeat([]byte{128}, 512), 504*128 + 256},
		{bytes.Repeat([]byte{255}, 512), 504*255 + 256},
		{wantBlock(api.Head{Name: "a", Type: '0'}), 3120},
	} {
		if got := Sum(x.b); got != x.want {
			t.Errorf("Sum of a block that begins by %d = %d; want %d", x.b[0], got, x.want)
		}
	}
}

func TestSumOfOneByteAtEachPlace(t *testing.T) {
	for at := range 512 {
		for _, x := range []byte{1, 31, 32, 33, 127, 128, 255} {
			b := make([]byte, 512)
			b[at] = x
			want := 256 + int(x)
			if at >= 148 && at < 156 {
				want = 256
			}
			if got := Sum(b); got != want {
				t.Errorf("Sum of a byte %d at %d = %d; want %d", x, at, got, want)
			}
		}
	}
}

func TestSumOfOtherLengths(t *testing.T) {
	for size := range 1100 {
		if got := Sum(bytes.Repeat([]byte{1}, size)); got != -1 && size != 512 {
			t.Errorf("Sum of %d bytes = %d; want -1", size, got)
		}
	}
	if Sum(nil) != -1 || Sum(make([]byte, 5120)) != -1 {
		t.Error("Sum of no bytes, or of ten blocks, is not -1")
	}
}

// P4.2

func TestGetOfOtherLengths(t *testing.T) {
	whole := append(mustPut(t, api.Head{Name: "a", Type: '0'}), make([]byte, 600)...)
	checkError(t, "no bytes", nil, api.ErrArg)
	for size := range len(whole) {
		if size != 512 {
			checkError(t, fmt.Sprintf("a header's first %d bytes", size), whole[:size], api.ErrArg)
			checkError(t, fmt.Sprintf("%d noughts", size), make([]byte, size), api.ErrArg)
			checkError(t, fmt.Sprintf("%d bytes 255", size), bytes.Repeat([]byte{255}, size), api.ErrArg)
		}
	}
}

func TestGetOfNoughts(t *testing.T) {
	checkError(t, "noughts", make([]byte, 512), api.ErrZero)
	for at := range 512 {
		b := make([]byte, 512)
		b[at] = 1
		checkError(t, fmt.Sprintf("noughts but a byte 1 at %d", at), b, api.ErrSum)
	}
	checkError(t, "noughts but their sum", summed(make([]byte, 512)), api.ErrForm)
}

func TestGetOfAHeaderWithOneOtherByte(t *testing.T) {
	for _, h := range heads() {
		b := mustPut(t, h)
		for at := range b {
			was := b[at]
			for _, x := range []byte{was + 1, was - 1, was ^ 128, was ^ 32, ^was, 0, 32, '0', 128, 255} {
				if b[at] = x; x != was {
					checkError(t, fmt.Sprintf("a header with a byte %d at %d", x, at), b, api.ErrSum)
				}
			}
			b[at] = was
		}
	}
}

func TestGetOfEachOtherByteInASum(t *testing.T) {
	b := mustPut(t, api.Head{Name: "a", Type: '0'})
	for at := 148; at < 156; at++ {
		was := b[at]
		for x := range 256 {
			if b[at] = byte(x); b[at] != was {
				checkError(t, fmt.Sprintf("a header with a byte %d at %d", x, at), b, api.ErrSum)
			}
		}
		b[at] = was
	}
}

func TestGetOfASumThatIsSpelledOtherwise(t *testing.T) {
	b := mustPut(t, api.Head{Name: "a", Type: '0'})
	for _, sum := range []string{
		"006060 \x00", "006060\x00\x00", "006060  ", "0006060\x00", "0006060 ", "  6060\x00 ", " 06060\x00 ", "6060\x00\x00\x00 ", "00006060",
		"\x80\x00\x00\x00\x00\x00\x0c\x30", "006057\x00 ", "006061\x00 ", "003120\x00 ", "000c30\x00 ", "        ", "\x00\x00\x00\x00\x00\x00\x00\x00",
	} {
		copy(b[148:], sum)
		checkError(t, fmt.Sprintf("a header with the sum %q", sum), b, api.ErrSum)
	}
	copy(b[148:], "006060\x00 ")
	if h, e := Get(b); e != api.OK || h != (api.Head{Name: "a", Type: '0'}) {
		t.Errorf("Get of the right sum = %#v, %d", h, e)
	}
}

// Where both the sum and the form are wrong, the sum is told.
func TestGetTellsTheSumAheadOfTheForm(t *testing.T) {
	for _, x := range []byte{1, 'x', 255} {
		b := bytes.Repeat([]byte{x}, 512)
		checkError(t, "one byte over and over", b, api.ErrSum)
		checkError(t, "one byte over and over, with its sum", summed(b), api.ErrForm)
	}
	b := mustPut(t, api.Head{Name: "a", Type: '0'})
	b[156] = '3'
	checkError(t, "a type that is none, with another sum", b, api.ErrSum)
}

// The sum of bytes that are above 127 is no sum of numbers with signs.
func TestGetCountsBytesWithoutSigns(t *testing.T) {
	h := api.Head{Name: "\xff\x80", Link: "\xfe", Type: '2'}
	b := wantBlock(h)
	if got, e := Get(b); e != api.OK || got != h {
		t.Errorf("Get of a header with bytes above 127 = %#v, %d", got, e)
	}
	signed := Sum(b) - 3*256
	copy(b[148:], fmt.Sprintf("%06o\x00 ", signed))
	checkError(t, "a header with a sum of signed bytes", b, api.ErrSum)
}

func TestGetOfHeads(t *testing.T) {
	for _, h := range heads() {
		if got, e := Get(wantBlock(h)); e != api.OK || got != h {
			t.Errorf("Get of the block of %#v = %#v, %d", h, got, e)
		}
	}
}

// laid writes text into a header's block, with the right sum again.
func laid(b []byte, at int, text string) []byte {
	b = bytes.Clone(b)
	copy(b[at:], text)
	return summed(b)
}

func TestGetOfATypeThatIsNone(t *testing.T) {
	for _, h := range []api.Head{{Name: "a", Type: '0'}, {Name: "a", Link: "b", Size: 5, Type: 'M', Off: 512, Real: 517}} {
		b := mustPut(t, h)
		others := "0125KLV"
		if h.Type == 'M' {
			others = "M"
		}
		for kind := range 256 {
			other := laid(b, 156, string([]byte{byte(kind)}))
			want := h
			want.Type = byte(kind)
			if strings.IndexByte(others, byte(kind)) >= 0 {
				if got, e := Get(other); e != api.OK || got != want {
					t.Errorf("Get of type %d = %#v, %d", kind, got, e)
				}
				continue
			}
			checkError(t, fmt.Sprintf("type %d", kind), other, api.ErrForm)
		}
	}
}

func TestGetOfTextsThatAreSpelledOtherwise(t *testing.T) {
	for _, field := range textFields() {
		b := mustPut(t, api.Head{Name: "a", Link: "b", Prefix: "c", Type: '0'})
		for _, at := range []int{2, 3, field.room / 2, field.room - 2, field.room - 1} {
			checkError(t, fmt.Sprintf("a %s with a byte behind a nought, at %d", field.name, at), laid(b, field.at+at, "x"), api.ErrForm)
		}
		checkError(t, "a "+field.name+" that begins by a nought", laid(b, field.at, "\x00x"), api.ErrForm)
	}
	named := mustPut(t, api.Head{Name: "a", Type: '0'})
	checkError(t, "a header without a name", laid(named, 0, "\x00"), api.ErrForm)
	checkError(t, "an M without a name", laid(mustPut(t, api.Head{Name: "a", Type: 'M'}), 0, "\x00"), api.ErrForm)
}

func TestGetOfNumbersThatAreSpelledOtherwise(t *testing.T) {
	for _, field := range append(numberFields(), moreFields()...) {
		b := mustPut(t, api.Head{Name: "a", Type: 'M'})
		right := []string{
			strings.Repeat("0", field.wide-2) + "7\x00", strings.Repeat("7", field.wide-1) + "\x00",
			"\x80" + strings.Repeat("\x00", field.wide-7) + "\xff\xff\xff\xff\xff\xff",
		}
		for _, text := range right {
			if h, e := Get(laid(b, field.at, text)); e != api.OK || *field.of(&h) == 0 {
				t.Errorf("Get of a %s spelled %q = %#v, %d", field.name, text, h, e)
			}
		}
		for _, text := range []string{
			strings.Repeat(" ", field.wide-2) + "7\x00",
			strings.Repeat("0", field.wide-2) + "7 ",
			strings.Repeat("0", field.wide-1) + "7",
			strings.Repeat("0", field.wide-2) + "8\x00",
			strings.Repeat("0", field.wide-2) + "/\x00",
			strings.Repeat("0", field.wide-2) + "a\x00",
			"7" + strings.Repeat("\x00", field.wide-1),
			"-" + strings.Repeat("0", field.wide-3) + "7\x00",
			strings.Repeat("\x00", field.wide),
			strings.Repeat("\xff", field.wide),
			"\x80" + strings.Repeat("\x00", field.wide-1),
			"\x80" + strings.Repeat("\x00", field.wide-2) + "\x07",
			"\x81" + strings.Repeat("\x00", field.wide-7) + "\xff\xff\xff\xff\xff\xff",
			"\xff" + strings.Repeat("\x00", field.wide-7) + "\xff\xff\xff\xff\xff\xff",
		} {
			checkError(t, fmt.Sprintf("a %s spelled %q", field.name, text), laid(b, field.at, text), api.ErrForm)
		}
		if field.wide == 12 {
			checkError(t, "a "+field.name+" above the greatest int", laid(b, field.at, "\x80\x00\x00\x00\x80"+strings.Repeat("\x00", 7)), api.ErrForm)
			checkError(t, "a "+field.name+" of more bytes than an int", laid(b, field.at, "\x80\x01"+strings.Repeat("\x00", 10)), api.ErrForm)
		}
	}
}

func TestGetOfAnotherMagic(t *testing.T) {
	for _, h := range heads() {
		b := mustPut(t, h)
		for _, text := range []string{"ustar  \x00", "ustar\x00\x00\x00", "ustar\x0001", "USTAR\x0000", "\x00\x00\x00\x00\x00\x00\x00\x00", "ustar000"} {
			checkError(t, fmt.Sprintf("a header with %q", text), laid(b, 257, text), api.ErrForm)
		}
		for at := 257; at < 265; at++ {
			for _, x := range []byte{b[at] + 1, b[at] - 1, b[at] ^ 32, 255} {
				checkError(t, fmt.Sprintf("a header with a byte %d at %d", x, at), laid(b, at, string([]byte{x})), api.ErrForm)
			}
		}
	}
}

func TestGetOfBytesWhereAllElseAreNoughts(t *testing.T) {
	for _, h := range heads() {
		b := mustPut(t, h)
		for _, gap := range gaps(h.Type) {
			for at := gap.from; at < gap.to; at++ {
				for _, x := range []byte{1, 32, '0', 255} {
					other := laid(b, at, string([]byte{x}))
					checkError(t, fmt.Sprintf("a header of type %c with a byte %d at %d", h.Type, x, at), other, api.ErrForm)
				}
			}
		}
	}
}

// wantGet says what Get has to answer of a block with the right sum: a header that is read by the library, if its block is that one.
func wantGet(b []byte) (api.Head, api.Errno) {
	text := func(at, room int) string { return string(bytes.SplitN(b[at:at+room], []byte{0}, 2)[0]) }
	number := func(at, wide int) int {
		if b[at] == 128 {
			n, _ := strconv.ParseInt(fmt.Sprintf("%x", b[at+1:at+wide]), 16, 64)
			return int(n)
		}
		n, _ := strconv.ParseUint(string(b[at:at+wide-1]), 8, 62)
		return int(n)
	}
	h := api.Head{
		Name: text(0, 100), Mode: number(100, 8), Uid: number(108, 8), Gid: number(116, 8),
		Size: number(124, 12), Mtime: number(136, 12), Type: b[156], Link: text(157, 100),
	}
	if h.Type == 'M' {
		h.Off, h.Real = number(369, 12), number(483, 12)
	} else {
		h.Prefix = text(345, 155)
	}
	if !wantMay(h) || !bytes.Equal(wantBlock(h), b) {
		return api.Head{}, api.ErrForm
	}
	return h, api.OK
}

func TestGetOfARightSumOverOneOtherByte(t *testing.T) {
	found := 0
	for _, h := range heads() {
		b := mustPut(t, h)
		for at := range b {
			for _, x := range []byte{0, 1, 32, '/', '0', '7', '8', 'M', 127, 128, 129, 255} {
				other := laid(b, at, string([]byte{x}))
				want, e := wantGet(other)
				if got, gotE := Get(other); got != want || gotE != e {
					t.Errorf("Get of a header with a byte %d at %d = %#v, %d; want %#v, %d", x, at, got, gotE, want, e)
				}
				if e == api.OK {
					found++
				}
			}
		}
	}
	if found == 0 {
		t.Error("none of them was a header's")
	}
}

// P4.3

// someHead is some header that may be, or nearly so.
func someHead(r *rand.Rand) api.Head {
	text := func(most int) string {
		b := make([]byte, r.Intn(most+1))
		for i := range b {
			b[i] = byte(1 + r.Intn(255))
		}
		return string(b)
	}
	number := func(bits int) int { return r.Int() >> (63 - r.Intn(bits+1)) }
	h := api.Head{
		Name: text(100), Link: text(100), Mode: number(56), Uid: number(56), Gid: number(56),
		Size: number(63), Mtime: number(63), Type: kinds[r.Intn(len(kinds))],
	}
	if h.Name == "" {
		h.Name = "n"
	}
	if h.Type == 'M' {
		h.Off, h.Real = number(63), number(63)
	} else {
		h.Prefix = text(155)
	}
	return h
}

func TestWhatIsPutIsGot(t *testing.T) {
	r := rand.New(rand.NewSource(4))
	for range 3000 {
		h := someHead(r)
		if !wantMay(h) {
			t.Fatalf("%#v may not be", h)
		}
		checkPut(t, h)
	}
}

func TestWhatIsGotIsPutAsTheSameBlock(t *testing.T) {
	r := rand.New(rand.NewSource(5))
	got := 0
	for range 20000 {
		b := wantBlock(someHead(r))
		for range r.Intn(4) {
			b[r.Intn(512)] = byte(r.Intn(256))
		}
		if r.Intn(8) > 0 {
			b = summed(b)
		}
		h, e := Get(b)
		if e != api.OK {
			if h != (api.Head{}) || e != api.ErrForm && e != api.ErrSum {
				t.Errorf("Get of %q = %#v, %d", b, h, e)
			}
			continue
		}
		got++
		again, ok := Put(h)
		if !ok || !bytes.Equal(again, b) {
			t.Errorf("Get of %q = %#v, which is put as %q, %t", b, h, again, ok)
		}
	}
	if got < 1000 {
		t.Errorf("only %d blocks were headers'", got)
	}
}

func TestOtherHeadersHaveOtherBlocks(t *testing.T) {
	seen := map[string]api.Head{}
	for _, h := range heads() {
		b := string(mustPut(t, h))
		if other, ok := seen[b]; ok {
			t.Errorf("%#v and %#v have the same block", h, other)
		}
		seen[b] = h
	}
}

// Of the eight bytes of the sum itself the Sum is the same, but what stands there is another one: so either the Sum, or the sum that stands there, is another one.
func TestABlockWithOneOtherByteHasAnotherSum(t *testing.T) {
	r := rand.New(rand.NewSource(6))
	random := make([]byte, 512)
	r.Read(random)
	for _, b := range [][]byte{mustPut(t, heads()[1]), mustPut(t, heads()[2]), make([]byte, 512), bytes.Repeat([]byte{255}, 512), random} {
		was := Sum(b)
		for at := range b {
			for x := 1; x < 256; x++ {
				other := bytes.Clone(b)
				other[at] += byte(x)
				within := at >= 148 && at < 156
				if got := Sum(other); (got == was) != within {
					t.Fatalf("Sum with another byte at %d = %d; it was %d", at, got, was)
				}
			}
		}
	}
}

// R1

func TestGetAndSumOfAllSortsOfBytes(t *testing.T) {
	r := rand.New(rand.NewSource(7))
	for range 5000 {
		b := make([]byte, 510+r.Intn(5))
		r.Read(b)
		want := api.ErrSum
		if len(b) != 512 {
			want = api.ErrArg
		}
		checkError(t, "random bytes", b, want)
		if (Sum(b) == -1) != (len(b) != 512) {
			t.Errorf("Sum of %d random bytes = %d", len(b), Sum(b))
		}
		if len(b) == 512 {
			checkError(t, "random bytes with their sum", summed(b), api.ErrForm)
		}
	}
}

func TestPutOfAllSortsOfHeaders(t *testing.T) {
	r := rand.New(rand.NewSource(8))
	edges := numbers64()
	texts := []string{"", "\x00", "a", "a\x00b", strings.Repeat("x", 100), strings.Repeat("x", 101), strings.Repeat("x", 155), strings.Repeat("x", 156), strings.Repeat("\x00", 300)}
	for range 5000 {
		h := someHead(r)
		for range r.Intn(3) {
			fields := append(numberFields(), moreFields()...)
			*fields[r.Intn(len(fields))].of(&h) = edges[r.Intn(len(edges))]
			*textFields()[r.Intn(3)].of(&h) = texts[r.Intn(len(texts))]
		}
		if r.Intn(4) == 0 {
			h.Type = byte(r.Intn(256))
		}
		checkPut(t, h)
	}
}

// R3

func TestNothingThatIsHandedInIsChanged(t *testing.T) {
	for _, h := range heads() {
		was := h
		b := mustPut(t, h)
		want := bytes.Clone(b)
		got, _ := Get(b)
		Sum(b)
		if !bytes.Equal(b, want) {
			t.Error("Get or Sum has changed a block")
		}
		for at := range b {
			b[at] = 'x'
		}
		if got != was || h != was {
			t.Error("what was got has changed with its block")
		}
		_ = append(b, "behind"...)
		if again := mustPut(t, h); !bytes.Equal(again, want) {
			t.Error("what was written into a block stands in the next one")
		}
	}
	behind := append(mustPut(t, heads()[0]), "behind"...)
	want := bytes.Clone(behind)
	Get(behind[:512])
	Get(behind[:511])
	Sum(behind[:512])
	checkError(t, "a block and six bytes", behind, api.ErrArg)
	if !bytes.Equal(behind, want) {
		t.Error("Get or Sum has changed what stands behind a block")
	}
}
