package label

import (
	"bytes"
	"fmt"
	"math"
	"math/rand"
	"strings"
	"testing"

	"reelkeeper/api"
	"reelkeeper/head"
)

// letters is a text of so many bytes. Those beside each other differ, so that one left out or told twice is seen.
func letters(n int) string {
	return strings.Repeat("abcdefghijklmnopqrstuvwxyz", n/26+1)[:n]
}

// with is a text with another byte at a place.
func with(s string, at int, x byte) string {
	return s[:at] + string([]byte{x}) + s[at+1:]
}

// labels may be, each for another reason: among them are such that hold the word Volume, or end by it and a number.
func labels() []string {
	return []string{
		"a", "full", "Z", letters(2), letters(26), letters(87), letters(88),
		"0", "1", "12", "007", strings.Repeat("9", 88),
		" ", "  ", " a", "a ", " a b ", strings.Repeat(" ", 88),
		"\x01", "\n", "a\tb", "\x7f", "a/../b", "/", "..",
		"\x80", "\xff", "\xc3", "a\xff\xfeb", "\xed\xa0\x80", strings.Repeat("\xff", 88), "é", strings.Repeat("é", 44),
		"Volume", " Volume", "Volume ", " Volume ", "  Volume  ", "a Volume", "Volume a", "a Volume ", " Volume 1", "Volume 1",
		"a Volume 1", "a Volume 12", "a Volume 999", "a Volume 1000", "a Volume 0", "a Volume 01", "a Volume x", "a Volume 1 ",
		"a Volume 1 Volume 2", "a Volume  Volume 3", "a Volume Volume", "a\xff Volume 1\xff", "aVolume1", "a volume 1",
		letters(79) + " Volume 1", letters(77) + " Volume 123", strings.Repeat(" Volume ", 11),
	}
}

// noLabels may not be.
func noLabels() []string {
	list := []string{"", "\x00", "\x00\x00", letters(89), letters(90), letters(100), letters(101), letters(5000), strings.Repeat(" ", 89), strings.Repeat("é", 45), strings.Repeat("\xff", 89)}
	for _, size := range []int{2, 3, 87, 88, 89} {
		for _, at := range []int{0, 1, size / 2, size - 1} {
			list = append(list, with(letters(size), at, 0))
		}
	}
	return append(list, "a\x00 Volume 1", strings.Repeat("\x00", 88), strings.Repeat("\x00", 512))
}

// someNumbers are of 1, 2 and 3 digits.
func someNumbers() []int {
	return []int{1, 2, 5, 9, 10, 11, 12, 19, 20, 90, 99, 100, 101, 110, 123, 255, 256, 500, 512, 900, 990, 998, 999}
}

// noNumbers are those of no volume.
func noNumbers() []int {
	return []int{
		0, -1, -2, -9, -12, -999, -1000, 1000, 1001, 1100, 9999, 10000, 1<<16 + 1, 1<<31 - 1, 1<<32 + 1, 1<<40 + 12, -1 << 32, -1<<32 + 1,
		math.MinInt, math.MinInt + 1, math.MaxInt - 1, math.MaxInt,
	}
}

// wantMay says what May has to answer.
func wantMay(label string, n int) bool {
	return label != "" && len(label) < 89 && !strings.Contains(label, "\x00") && 0 < n && n < 1000
}

// wantName is the name of a label and a number that may be.
func wantName(label string, n int) string {
	return fmt.Sprintf("%s Volume %d", label, n)
}

// wantBlock is the block of a header with that name and the type V, all else zero.
func wantBlock(name string) []byte {
	b := make([]byte, 512)
	copy(b, name)
	for _, at := range []int{100, 108, 116} {
		copy(b[at:], "0000000")
	}
	for _, at := range []int{124, 136} {
		copy(b[at:], "00000000000")
	}
	b[156] = 'V'
	copy(b[257:], []byte{'u', 's', 't', 'a', 'r', 0, 48, 48})
	return summed(b)
}

// summed is the block b with its sum as it has to be.
func summed(b []byte) []byte {
	b = bytes.Clone(b)
	copy(b[148:], strings.Repeat(" ", 8))
	sum := 0
	for _, x := range b {
		sum += int(x)
	}
	copy(b[148:], fmt.Sprintf("%06o\x00 ", sum))
	return b
}

// suffixes are what stands behind a label, by their numbers.
func suffixes() []string {
	list := make([]string, 1000)
	for n := range list {
		list[n] = wantName("", n)
	}
	return list
}

// wantGet says what Get has to answer of a header's block: it tries all numbers.
func wantGet(h api.Head, behind []string) (string, int, api.Errno) {
	if h != (api.Head{Name: h.Name, Type: 'V'}) {
		return "", 0, api.ErrLabel
	}
	for n := 1; n < 1000; n++ {
		if label, ok := strings.CutSuffix(h.Name, behind[n]); ok && wantMay(label, n) {
			return label, n, api.OK
		}
	}
	return "", 0, api.ErrLabel
}

// blockOf is the block of a header that may be.
func blockOf(t *testing.T, h api.Head) []byte {
	t.Helper()
	b, ok := head.Put(h)
	if !ok {
		t.Fatalf("head's Put(%#v) = false", h)
	}
	return b
}

// mustPut is the block of a label and a number that may be.
func mustPut(t *testing.T, label string, n int) []byte {
	t.Helper()
	b, ok := Put(label, n)
	if !ok || len(b) != 512 {
		t.Fatalf("Put(%q, %d) = %d bytes, %t", label, n, len(b), ok)
	}
	return b
}

// checkPut holds May, Name and Put against what they have to answer, and Get of the block against what was put.
func checkPut(t *testing.T, label string, n int) {
	t.Helper()
	if !wantMay(label, n) {
		checkNothing(t, label, n)
		return
	}
	if !May(label, n) {
		t.Errorf("May(%q, %d) = false", label, n)
	}
	name := wantName(label, n)
	if got, ok := Name(label, n); !ok || got != name {
		t.Errorf("Name(%q, %d) = %q, %t; want %q", label, n, got, ok, name)
	}
	want := wantBlock(name)
	if got, ok := Put(label, n); !ok || !bytes.Equal(got, want) {
		t.Errorf("Put(%q, %d) = %q, %t; want %q", label, n, got, ok, want)
	}
	if got, number, e := Get(want); got != label || number != n || e != api.OK {
		t.Errorf("Get of the block of %q, %d = %q, %d, %d", label, n, got, number, e)
	}
}

// checkNothing fails if there is anything of a label and a number that may not be.
func checkNothing(t *testing.T, label string, n int) {
	t.Helper()
	if May(label, n) {
		t.Errorf("May(%q, %d) = true", label, n)
	}
	if got, ok := Name(label, n); ok || got != "" {
		t.Errorf("Name(%q, %d) = %q, %t; want nothing, false", label, n, got, ok)
	}
	if got, ok := Put(label, n); ok || len(got) != 0 {
		t.Errorf("Put(%q, %d) = %d bytes, %t; want nothing, false", label, n, len(got), ok)
	}
}

// checkError fails if Get of b is another error, or answers something with it.
func checkError(t *testing.T, why string, b []byte, want api.Errno) {
	t.Helper()
	if label, n, e := Get(b); label != "" || n != 0 || e != want {
		t.Errorf("Get of %s = %q, %d, %d; want nothing, 0, %d", why, label, n, e, want)
	}
}

// checkNoLabel fails if Get of the block of a header that may be answers something else than that it is no label's.
func checkNoLabel(t *testing.T, h api.Head) {
	t.Helper()
	checkError(t, fmt.Sprintf("the block of %#v", h), blockOf(t, h), api.ErrLabel)
}

// P14.1

func TestMayAtItsEdges(t *testing.T) {
	for _, x := range []struct {
		label string
		n     int
		want  bool
	}{
		{"a", 1, true}, {"a", 9, true}, {"a", 10, true}, {"a", 99, true}, {"a", 100, true}, {"a", 999, true},
		{"a", 0, false}, {"a", -1, false}, {"a", 1000, false}, {"a", math.MaxInt, false}, {"a", math.MinInt, false},
		{"", 1, false}, {"", 0, false}, {"", 999, false}, {"", 1000, false},
		{letters(87), 1, true}, {letters(88), 1, true}, {letters(88), 12, true}, {letters(88), 123, true}, {letters(88), 999, true},
		{letters(89), 1, false}, {letters(89), 12, false}, {letters(89), 123, false}, {letters(100), 1, false}, {letters(5000), 1, false},
		{letters(88), 0, false}, {letters(88), 1000, false}, {letters(89), 1000, false},
		{"\x00", 1, false}, {"\x00a", 1, false}, {"a\x00", 1, false}, {"a\x00b", 1, false}, {letters(87) + "\x00", 1, false},
		{" ", 1, true}, {"0", 1, true}, {"\xff", 1, true}, {"/", 1, true}, {"..", 1, true}, {"a Volume 1", 1, true},
		// Bytes count, not letters.
		{strings.Repeat("é", 44), 1, true}, {strings.Repeat("é", 45), 1, false},
	} {
		if got := May(x.label, x.n); got != x.want {
			t.Errorf("May(%q, %d) = %t; want %t", x.label, x.n, got, x.want)
		}
		checkPut(t, x.label, x.n)
	}
}

func TestNameOfSome(t *testing.T) {
	for _, x := range []struct {
		label string
		n     int
		want  string
	}{
		{"full", 12, "full Volume 12"},
		{"a", 1, "a Volume 1"}, {"a", 9, "a Volume 9"}, {"a", 10, "a Volume 10"}, {"a", 99, "a Volume 99"},
		{"a", 100, "a Volume 100"}, {"a", 105, "a Volume 105"}, {"a", 999, "a Volume 999"},
		{" ", 1, "  Volume 1"}, {"a ", 1, "a  Volume 1"}, {"1", 1, "1 Volume 1"}, {"a1", 11, "a1 Volume 11"},
		{"\xff\x80", 7, "\xff\x80 Volume 7"}, {"é", 7, "é Volume 7"}, {"a\nb", 7, "a\nb Volume 7"},
		{"Volume", 2, "Volume Volume 2"}, {" Volume ", 2, " Volume  Volume 2"}, {"a Volume 1", 2, "a Volume 1 Volume 2"},
		{strings.Repeat("x", 88), 999, strings.Repeat("x", 88) + " Volume 999"},
	} {
		if got, ok := Name(x.label, x.n); !ok || got != x.want {
			t.Errorf("Name(%q, %d) = %q, %t; want %q", x.label, x.n, got, ok, x.want)
		}
	}
}

func TestAllNumbers(t *testing.T) {
	for _, label := range []string{"a", "full", "a1", " ", "a Volume 1", "\xff", letters(88)} {
		for n := -20; n <= 1100; n++ {
			checkPut(t, label, n)
		}
	}
}

func TestAllLengths(t *testing.T) {
	for size := range 130 {
		for _, n := range []int{0, 1, 9, 10, 12, 99, 100, 123, 999, 1000} {
			want := size >= 1 && size <= 88 && n >= 1 && n <= 999
			if got := May(letters(size), n); got != want {
				t.Errorf("May of %d bytes, %d = %t; want %t", size, n, got, want)
			}
			checkPut(t, letters(size), n)
		}
	}
}

func TestEachByteAnywhere(t *testing.T) {
	for _, size := range []int{1, 2, 10, 87, 88} {
		for at := range size {
			checkNothing(t, with(letters(size), at, 0), 1)
		}
		for x := range 256 {
			for _, at := range []int{0, size / 2, size - 1} {
				label := with(letters(size), at, byte(x))
				if got := May(label, 12); got != (x != 0) {
					t.Errorf("May(%q, 12) = %t", label, got)
				}
				checkPut(t, label, 12)
			}
		}
	}
}

func TestAllLabels(t *testing.T) {
	for _, label := range labels() {
		for _, n := range someNumbers() {
			if !May(label, n) {
				t.Errorf("May(%q, %d) = false", label, n)
			}
			checkPut(t, label, n)
		}
		for _, n := range noNumbers() {
			checkNothing(t, label, n)
		}
	}
}

func TestWhatMayNotBe(t *testing.T) {
	for _, label := range noLabels() {
		for _, n := range append(someNumbers(), noNumbers()...) {
			checkNothing(t, label, n)
		}
	}
}

// P14.2

// The bytes are written out here, one by one, with the sum that they have.
func TestPutOfSome(t *testing.T) {
	for _, x := range []struct {
		label     string
		n         int
		name, sum string
	}{
		{"full", 12, "full Volume 12", "010303"},
		{"a", 1, "a Volume 1", "007477"},
		{"\xff\x80", 999, "\xff\x80 Volume 999", "010327"},
		{"a Volume 1", 2, "a Volume 1 Volume 2", "011051"},
	} {
		want := x.name + strings.Repeat("\x00", 100-len(x.name)) +
			"0000000\x00" + "0000000\x00" + "0000000\x00" + "00000000000\x00" + "00000000000\x00" +
			x.sum + "\x00 " + "V" + strings.Repeat("\x00", 100) +
			"ustar\x00" + "00" + strings.Repeat("\x00", 247)
		if got, ok := Put(x.label, x.n); !ok || string(got) != want {
			t.Errorf("Put(%q, %d) = %q, %t; want %q", x.label, x.n, got, ok, want)
		}
		if label, n, e := Get([]byte(want)); label != x.label || n != x.n || e != api.OK {
			t.Errorf("Get of the block of %q, %d = %q, %d, %d", x.label, x.n, label, n, e)
		}
	}
}

func TestTheHeaderOfALabel(t *testing.T) {
	for _, label := range labels() {
		for _, n := range someNumbers() {
			b := mustPut(t, label, n)
			want := api.Head{Name: wantName(label, n), Type: 'V'}
			if got, e := head.Get(b); e != api.OK || got != want {
				t.Errorf("the header of %q, %d = %#v, %d; want %#v", label, n, got, e, want)
			}
			if same := blockOf(t, want); !bytes.Equal(b, same) {
				t.Errorf("Put(%q, %d) = %q; head puts %q", label, n, b, same)
			}
		}
	}
}

func TestGetOfWhatIsNoBlock(t *testing.T) {
	checkError(t, "no bytes", nil, api.ErrArg)
	checkError(t, "no bytes", []byte{}, api.ErrArg)
	whole := append(mustPut(t, "full", 12), mustPut(t, "full", 13)...)
	for size := range len(whole) + 1 {
		if size != 512 {
			checkError(t, fmt.Sprintf("the first %d bytes of two labels", size), whole[:size], api.ErrArg)
			checkError(t, fmt.Sprintf("%d noughts", size), make([]byte, size), api.ErrArg)
		}
	}
	checkError(t, "many bytes", bytes.Repeat([]byte("x"), 51200), api.ErrArg)
}

func TestGetOfNoughts(t *testing.T) {
	checkError(t, "noughts", make([]byte, 512), api.ErrZero)
	for at := range 512 {
		b := make([]byte, 512)
		b[at] = 'V'
		checkError(t, fmt.Sprintf("noughts but a byte at %d", at), b, api.ErrSum)
	}
}

// Also where the byte makes another label of it: the sum is still that of the first one.
func TestGetOfALabelWithOneOtherByte(t *testing.T) {
	for _, b := range [][]byte{mustPut(t, "full", 12), mustPut(t, letters(88), 999), mustPut(t, "\xff", 1)} {
		for at := range b {
			was := b[at]
			for _, x := range []byte{was + 1, was - 1, was ^ 128, ^was, 0, ' ', '0', '1', '9', 'V', 255} {
				if b[at] = x; x != was {
					checkError(t, fmt.Sprintf("a label with a byte %d at %d", x, at), b, api.ErrSum)
				}
			}
			b[at] = was
		}
	}
}

// laid writes text into a block, with the right sum again.
func laid(b []byte, at int, text string) []byte {
	b = bytes.Clone(b)
	copy(b[at:], text)
	return summed(b)
}

func TestGetOfABlockOfNoHeader(t *testing.T) {
	b := wantBlock("full Volume 12")
	for _, x := range []struct {
		at   int
		text string
	}{
		{0, "\x00"}, {14, "\x00x"}, {99, "x"}, {100, "0000000 "}, {107, "0"}, {100, "       \x00"}, {108, "\x80\x00\x00\x00\x00\x00\x00\x00"},
		{124, "\x80"}, {135, " "}, {136, "9"}, {156, "3"}, {156, "v"}, {156, "\x00"}, {158, "x"}, {257, "USTAR"}, {263, "  "}, {265, "x"}, {346, "x"}, {500, "x"}, {511, "x"},
	} {
		checkError(t, fmt.Sprintf("a label with %q at %d", x.text, x.at), laid(b, x.at, x.text), api.ErrForm)
	}
	for _, x := range []byte{1, ' ', 'V', 'x', 255} {
		same := bytes.Repeat([]byte{x}, 512)
		checkError(t, "one byte over and over", same, api.ErrSum)
		checkError(t, "one byte over and over, with its sum", summed(same), api.ErrForm)
	}
}

// Where head tells an error, it is told, whatever the name is.
func TestGetTellsHeadsErrorFirst(t *testing.T) {
	for _, name := range []string{"full Volume 12", "full", "full Volume 1000", " Volume 1"} {
		b := wantBlock(name)
		checkError(t, "a block without its last byte", b[:511], api.ErrArg)
		checkError(t, "a block and a byte", append(bytes.Clone(b), 0), api.ErrArg)
		checkError(t, "a block of no type", laid(b, 156, "x"), api.ErrForm)
		b[156] = '0'
		checkError(t, "a block of a file with a label's sum", b, api.ErrSum)
	}
}

func TestGetOfOtherHeaders(t *testing.T) {
	for _, label := range []string{"a", "full", "a Volume 1", letters(88), "\xff"} {
		for _, n := range []int{1, 12, 999} {
			name := wantName(label, n)
			for _, kind := range []byte("0125KLM") {
				checkNoLabel(t, api.Head{Name: name, Type: kind})
			}
			checkNoLabel(t, api.Head{Name: name, Type: 'M', Size: 488, Off: 512, Real: 1000})
			for _, text := range []string{"a", " ", "0", "a Volume 1", letters(100)} {
				checkNoLabel(t, api.Head{Name: name, Type: 'V', Link: text})
				checkNoLabel(t, api.Head{Name: name, Type: 'V', Prefix: text})
				checkNoLabel(t, api.Head{Name: name, Type: 'V', Link: text, Prefix: text})
			}
			checkNoLabel(t, api.Head{Name: name, Type: 'V', Prefix: letters(155)})
			for _, x := range []int{1, 2, 420, 512, 1<<21 - 1, 1 << 21, 1<<56 - 1} {
				checkNoLabel(t, api.Head{Name: name, Type: 'V', Mode: x})
				checkNoLabel(t, api.Head{Name: name, Type: 'V', Uid: x})
				checkNoLabel(t, api.Head{Name: name, Type: 'V', Gid: x})
				checkNoLabel(t, api.Head{Name: name, Type: 'V', Size: x})
				checkNoLabel(t, api.Head{Name: name, Type: 'V', Mtime: x})
				checkNoLabel(t, api.Head{Name: name, Type: 'V', Mode: x, Uid: x, Gid: x, Size: x, Mtime: x})
			}
			checkNoLabel(t, api.Head{Name: name, Type: 'V', Size: math.MaxInt})
			checkNoLabel(t, api.Head{Name: name, Type: 'V', Mtime: math.MaxInt})
		}
	}
}

// The prefix is no part of a label's name.
func TestGetOfANameThatIsSplit(t *testing.T) {
	for _, x := range []struct{ prefix, name string }{{"full", "Volume 12"}, {"full", " Volume 12"}, {"full Volume", "12"}, {"full", "a Volume 12"}} {
		checkNoLabel(t, api.Head{Name: x.name, Prefix: x.prefix, Type: 'V'})
	}
}

func TestGetOfNamesOfNoLabel(t *testing.T) {
	for _, name := range []string{
		// no Volume
		"a", "full", " ", "1", "12", "a 1", "a 12", "full  12", "a12", letters(88), letters(100), strings.Repeat("1", 100),
		"a volume 1", "a VOLUME 1", "a Volum 1", "a Volumes 1", "a Voiume 1", "a Vo lume 1", "a\tVolume\t1", "a\xa0Volume 1",
		"aVolume 1", "a Volume1", "aVolume1", "Volume 1", "Volume", "a_Volume_1",
		// no number behind it
		"a Volume", "a Volume ", "a Volume x", "a Volume one", "a Volume 1x", "a Volume x1", "a Volume 1.", "a Volume 1.0", "a Volume 1e2", "a Volume 0x1", "a Volume 1_0",
		"a Volume 1,000", "a Volume #1", "a Volume (1)", "a Volume 1/2", "a Volume /", "a Volume :", "a Volume 1:", "a Volume :0", "a Volume \x01", "a Volume 1\n", "a Volume \n1",
		"a Volume 1 2", "a Volume 1 Volume", "a Volume 1 Volume ", "a Volume 1 Volume x", "a Volume 1 Volume 0", "a 1 Volume", "1 Volume a",
		"a Volume １", "a Volume ١", "a Volume 1é", "a Volume \xff", "a Volume 1\xff", "a Volume \xff1", "a Volume \xb1", "a Volume \xc4\xb1", "a Volume \U00010031",
		// a leading 0
		"a Volume 01", "a Volume 001", "a Volume 012", "a Volume 0999", "a Volume 0000000001", "a Volume 00", "a Volume 000",
		// numbers of no volume
		"a Volume 0", "a Volume 1000", "a Volume 1001", "a Volume 9999", "a Volume 10000", "a Volume 65537", "a Volume 4294967297", "a Volume 9223372036854775807",
		"a Volume 9223372036854775808", "a Volume 18446744073709551615", "a Volume 18446744073709551616", "a Volume 18446744073709551617", "a Volume 18446744073709551628",
		"a Volume 340282366920938463463374607431768211457", "a Volume " + strings.Repeat("9", 91), "a Volume 1" + strings.Repeat("0", 90),
		// a sign ahead of it
		"a Volume +1", "a Volume -1", "a Volume --1", "a Volume -0", "a Volume +0", "a Volume -12", "a Volume 1-", "a Volume 1+",
		// blanks
		"a Volume 1 ", "a Volume 12 ", "a Volume 1  ", "a Volume  1", "a Volume   1", "a Volume 1 1", "a Volume  ", "a Volume \t1",
		// no label ahead of it, or one that is too long
		" Volume 1", " Volume 12", " Volume 999", " Volume ", " Volume",
		letters(89) + " Volume 1", letters(89) + " Volume 12", letters(89) + " Volume 123", letters(90) + " Volume 12", letters(91) + " Volume 1", letters(92) + " Volume ",
		letters(88) + " Volume 1000", letters(88) + " Volume 0123", strings.Repeat(" ", 91) + " Volume 1",
	} {
		checkNoLabel(t, api.Head{Name: name, Type: 'V'})
	}
}

func TestGetOfNamesOfALabel(t *testing.T) {
	for _, x := range []struct {
		name, label string
		n           int
	}{
		{"full Volume 12", "full", 12},
		{"a Volume 1", "a", 1}, {"a  Volume 1", "a ", 1}, {"  Volume 1", " ", 1}, {"1 Volume 1", "1", 1},
		{"Volume Volume 1", "Volume", 1}, {" Volume Volume 1", " Volume", 1}, {" Volume  Volume 1", " Volume ", 1},
		{"a Volume 1 Volume 2", "a Volume 1", 2}, {"a Volume 1 Volume 2 Volume 3", "a Volume 1 Volume 2", 3},
		{"a Volume 0 Volume 2", "a Volume 0", 2}, {"a Volume x Volume 2", "a Volume x", 2}, {" Volume 1 Volume 2", " Volume 1", 2},
		{letters(88) + " Volume 1", letters(88), 1}, {letters(88) + " Volume 12", letters(88), 12}, {letters(88) + " Volume 999", letters(88), 999},
	} {
		if label, n, e := Get(blockOf(t, api.Head{Name: x.name, Type: 'V'})); label != x.label || n != x.n || e != api.OK {
			t.Errorf("Get of the name %q = %q, %d, %d; want %q, %d", x.name, label, n, e, x.label, x.n)
		}
	}
}

// pieces are what the names of labels, and what is nearly so, are made of.
func pieces() []string {
	return []string{"a", " ", "Volume", " Volume ", "0", "1", "9", "12", "-", ":", "\xff", "é"}
}

func TestGetOfAllNamesOfPieces(t *testing.T) {
	behind := suffixes()
	found := 0
	list := []string{""}
	for range 4 {
		var longer []string
		for _, ahead := range list {
			for _, piece := range pieces() {
				longer = append(longer, ahead+piece)
			}
		}
		for _, name := range longer {
			h := api.Head{Name: name, Type: 'V'}
			want, wantN, wantE := wantGet(h, behind)
			if label, n, e := Get(blockOf(t, h)); label != want || n != wantN || e != wantE {
				t.Errorf("Get of the name %q = %q, %d, %d; want %q, %d, %d", name, label, n, e, want, wantN, wantE)
			}
			if wantE == api.OK {
				found++
			}
		}
		list = longer
	}
	if found < 100 {
		t.Errorf("only %d of the names were labels'", found)
	}
}

func TestGetOfAllSortsOfHeaders(t *testing.T) {
	r := rand.New(rand.NewSource(14))
	behind := suffixes()
	found := 0
	for range 20000 {
		h := someHead(r)
		want, wantN, wantE := wantGet(h, behind)
		if label, n, e := Get(blockOf(t, h)); label != want || n != wantN || e != wantE {
			t.Errorf("Get of the block of %#v = %q, %d, %d; want %q, %d, %d", h, label, n, e, want, wantN, wantE)
		}
		if wantE == api.OK {
			found++
		}
	}
	if found < 1000 || found > 19000 {
		t.Errorf("%d of the headers were labels'", found)
	}
}

// someHead is some header that may be, often a label's.
func someHead(r *rand.Rand) api.Head {
	name := "n"
	for range r.Intn(8) {
		name += pieces()[r.Intn(len(pieces()))]
	}
	if r.Intn(2) == 0 {
		name += wantName("", r.Intn(1100))
	}
	h := api.Head{Name: name[:min(len(name), 100)], Type: 'V'}
	if r.Intn(4) > 0 {
		return h
	}
	for _, field := range []*int{&h.Mode, &h.Uid, &h.Gid, &h.Size, &h.Mtime} {
		if r.Intn(6) == 0 {
			*field = r.Intn(1000)
		}
	}
	for _, text := range []*string{&h.Link, &h.Prefix} {
		if r.Intn(6) == 0 {
			*text = letters(r.Intn(101))
		}
	}
	if r.Intn(6) == 0 {
		h.Type = "0125KL"[r.Intn(6)]
	}
	return h
}

// P14.3

func TestWhatIsPutIsGot(t *testing.T) {
	for _, label := range labels() {
		for n := 1; n <= 999; n++ {
			if got, number, e := Get(mustPut(t, label, n)); got != label || number != n || e != api.OK {
				t.Errorf("what was put as %q, %d is got as %q, %d, %d", label, n, got, number, e)
			}
		}
	}
}

func TestWhatIsGotIsPutAsTheSameBlock(t *testing.T) {
	r := rand.New(rand.NewSource(15))
	got := 0
	for range 20000 {
		b := blockOf(t, someHead(r))
		if r.Intn(4) == 0 {
			b[r.Intn(512)] = byte(r.Intn(256))
		}
		if r.Intn(4) > 0 {
			b = summed(b)
		}
		label, n, e := Get(b)
		if e != api.OK {
			if label != "" || n != 0 {
				t.Errorf("Get of %q = %q, %d, %d", b, label, n, e)
			}
			continue
		}
		got++
		if again, ok := Put(label, n); !ok || !bytes.Equal(again, b) {
			t.Errorf("Get of %q = %q, %d, which is put as %q, %t", b, label, n, again, ok)
		}
	}
	if got < 1000 {
		t.Errorf("only %d blocks were labels'", got)
	}
}

// One label is the beginning of the other, or its end meets the number's digits.
func TestOthersHaveOtherBlocks(t *testing.T) {
	seen := map[string]string{}
	see := func(label string, n int) {
		who := fmt.Sprintf("%q, %d", label, n)
		b := string(mustPut(t, label, n))
		if other, ok := seen[b]; ok {
			t.Errorf("%s and %s have the same block", who, other)
		}
		seen[b] = who
	}
	for _, label := range []string{
		"a", "ab", "a1", "a11", "a12", "a ", "a  ", "a 1", " ", "  ", " 1", "1", "11", "111", "12", "2", "9", "99",
		"a V", "a Volume", "a Volume ", "a Volume 1", "a Volume 11", "a Volume 12", "a Volume 1 ", "a Volume 1 Volume", "a Volume 1 Volume 1",
		"Volume", " Volume", " Volume ", " Volume 1", "\xff", "\xc3", "\xa9", "é", letters(87), letters(88), letters(87) + "1",
	} {
		for n := 1; n <= 999; n++ {
			see(label, n)
		}
	}
	// The same digits in the same order: so many are the label's, so many the number's.
	for _, digits := range []string{"111111", "123456", "999999"} {
		for at := 3; at < 6; at++ {
			see("x"+digits[:at], len(digits)-at)
			see("y"+digits[:at], int(digits[at]-'0')*100)
		}
	}
}

// R1

func TestGetOfAllSortsOfBytes(t *testing.T) {
	r := rand.New(rand.NewSource(16))
	for range 3000 {
		b := make([]byte, 510+r.Intn(5))
		r.Read(b)
		if len(b) != 512 {
			checkError(t, "random bytes", b, api.ErrArg)
			continue
		}
		checkError(t, "random bytes", b, api.ErrSum)
		checkError(t, "random bytes with their sum", summed(b), api.ErrForm)
	}
}

func TestPutOfAllSortsOfLabels(t *testing.T) {
	r := rand.New(rand.NewSource(17))
	edges := append(someNumbers(), noNumbers()...)
	for range 5000 {
		b := make([]byte, r.Intn(95))
		r.Read(b)
		label := string(b)
		if r.Intn(4) > 0 {
			label = strings.ReplaceAll(label, "\x00", " ")
		}
		checkPut(t, label, r.Intn(1010)-5)
		checkPut(t, label, edges[r.Intn(len(edges))])
	}
}

// R3

func TestNothingThatIsHandedInIsChanged(t *testing.T) {
	for _, label := range labels() {
		b := mustPut(t, label, 12)
		want := bytes.Clone(b)
		got, n, e := Get(b)
		if !bytes.Equal(b, want) {
			t.Error("Get has changed a block")
		}
		for at := range b {
			b[at] = 'x'
		}
		if got != label || n != 12 || e != api.OK {
			t.Errorf("what was got of %q has changed with its block: %q, %d, %d", label, got, n, e)
		}
		_ = append(b, "behind"...)
		if again := mustPut(t, label, 12); !bytes.Equal(again, want) {
			t.Error("what was written into a block stands in the next one")
		}
	}
}

// The block lies in the midst of other bytes: those are neither read nor changed.
func TestABlockAmongOthers(t *testing.T) {
	for _, around := range []byte{0, '1', 'x', 255} {
		many := bytes.Repeat([]byte{around}, 3*512)
		copy(many[512:], mustPut(t, "full", 12))
		want := bytes.Clone(many)
		for range 2 {
			if label, n, e := Get(many[512:1024]); label != "full" || n != 12 || e != api.OK {
				t.Errorf("Get of a block among bytes %d = %q, %d, %d", around, label, n, e)
			}
			checkError(t, "a block and what stands behind", many[512:1025], api.ErrArg)
			checkError(t, "what stands ahead, and most of a block", many[511:1023], api.ErrSum)
			if !bytes.Equal(many, want) {
				t.Error("Get has changed what it was given, or what stands about it")
			}
		}
	}
}

func TestABlockOfAnErrorIsLeftAsItWas(t *testing.T) {
	for _, b := range [][]byte{
		make([]byte, 512), make([]byte, 511), bytes.Repeat([]byte{'x'}, 512), summed(bytes.Repeat([]byte{'x'}, 512)),
		wantBlock("full"), wantBlock("full Volume 01"), wantBlock("full Volume 12")[:500],
	} {
		was := bytes.Clone(b)
		if label, n, e := Get(b); label != "" || n != 0 || e == api.OK {
			t.Errorf("Get of %q = %q, %d, %d", b, label, n, e)
		}
		if !bytes.Equal(b, was) {
			t.Error("Get has changed a block")
		}
	}
}

// R5

func TestTheSameAgainWhateverWasAsked(t *testing.T) {
	b := wantBlock("full Volume 12")
	for _, other := range []string{"full", "full Volume 1", "a Volume 999", "full Volume 1000", " Volume 1", "x"} {
		Get(wantBlock(other))
		Put(other, 7)
		checkPut(t, "full", 12)
		if label, n, e := Get(b); label != "full" || n != 12 || e != api.OK {
			t.Errorf("Get behind one of %q = %q, %d, %d", other, label, n, e)
		}
	}
}
