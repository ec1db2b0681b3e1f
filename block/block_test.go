package block

import (
	"bytes"
	"math"
	"slices"
	"strings"
	"testing"
)

// sizes are numbers of bytes about all edges of the first blocks.
func sizes() []int {
	list := []int{4000, 5120, 10239, 10240, 10241}
	for _, edge := range []int{0, 512, 1024, 1536, 2048} {
		for _, by := range []int{-2, -1, 0, 1, 2, 100} {
			if edge+by >= 0 {
				list = append(list, edge+by)
			}
		}
	}
	return list
}

// pattern is a text of so many bytes, none of them 0; no two blocks of it are the same.
func pattern(n int) string {
	text := make([]byte, n)
	for i := range text {
		text[i] = byte(1 + i%251)
	}
	return string(text)
}

// texts are of all sizes: of the pattern, of noughts alone, of bytes 255 alone, and with noughts at the end.
func texts() []string {
	var list []string
	for _, n := range sizes() {
		list = append(list, pattern(n), strings.Repeat("\x00", n), strings.Repeat("\xff", n), pattern(n)[:n/2]+strings.Repeat("\x00", n-n/2))
	}
	return list
}

// filled are blocks of the given lengths, of bytes other than 0.
func filled(lengths ...int) [][]byte {
	var list [][]byte
	for i, n := range lengths {
		list = append(list, bytes.Repeat([]byte{byte(i + 1)}, n))
	}
	return list
}

// good are so many blocks of 512 bytes, each of other bytes.
func good(n int) [][]byte {
	return filled(slices.Repeat([]int{512}, n)...)
}

// twin is the same list in other memory.
func twin(l [][]byte) [][]byte {
	var list [][]byte
	for _, b := range l {
		list = append(list, append([]byte{}, b...))
	}
	return list
}

// whole are all bytes of all blocks.
func whole(l [][]byte) string {
	return string(bytes.Join(l, nil))
}

// wantMany counts blocks up till they have room.
func wantMany(n int) int {
	count := 0
	for room := 0; room < n; room += 512 {
		count++
	}
	return count
}

// P3.1

func TestMayOfBlocks(t *testing.T) {
	wide := make([]byte, 513)
	for i, l := range [][][]byte{
		nil,
		{},
		good(1),
		good(2),
		good(20),
		good(401),
		{make([]byte, 512)},
		{make([]byte, 512), bytes.Repeat([]byte{255}, 512)},
		{wide[:512]},
		{wide[1:]},
		slices.Repeat(good(1), 3),
	} {
		if !May(l) {
			t.Errorf("May of list %d, of %d blocks, = false", i, len(l))
		}
	}
}

func TestMayNotBe(t *testing.T) {
	for _, size := range []int{0, 1, 256, 511, 513, 1023, 1024, 1025, 10240} {
		wrong := bytes.Repeat([]byte{7}, size)
		if May([][]byte{wrong}) {
			t.Errorf("May of one block of %d bytes = true", size)
		}
		if May([][]byte{wrong, wrong}) {
			t.Errorf("May of two blocks of %d bytes = true", size)
		}
		for count := range 5 {
			for at := range count + 1 {
				l := slices.Insert(good(count), at, wrong)
				if May(l) {
					t.Errorf("May of %d good blocks and one of %d bytes at place %d = true", count, size, at)
				}
			}
		}
	}
	if May([][]byte{nil}) || May(append(good(1), nil)) || May(append([][]byte{nil}, good(1)...)) {
		t.Error("May with a block that is nil = true")
	}
	if May(filled(511, 513)) || May(filled(513, 511)) || May(filled(256, 256)) || May(filled(0, 1024)) {
		t.Error("May of lengths that are 512 on the whole, but not each = true")
	}
}

func TestSameOfListsThatAreTheSame(t *testing.T) {
	for i, l := range [][][]byte{
		nil,
		{},
		good(1),
		good(2),
		good(7),
		filled(0),
		filled(1),
		filled(0, 0),
		filled(511, 513),
		filled(10240, 512, 3),
		{make([]byte, 512), make([]byte, 512)},
	} {
		if !Same(l, l) || !Same(l, twin(l)) || !Same(twin(l), l) {
			t.Errorf("Same of list %d and the same one = false", i)
		}
	}
}

func TestSameOfNilAndEmpty(t *testing.T) {
	if !Same(nil, nil) || !Same(nil, [][]byte{}) || !Same([][]byte{}, nil) || !Same([][]byte{}, [][]byte{}) {
		t.Error("Same of lists without blocks = false")
	}
	if !Same([][]byte{nil}, [][]byte{{}}) || !Same([][]byte{{}}, [][]byte{nil}) || !Same([][]byte{nil}, [][]byte{nil}) {
		t.Error("Same of blocks without bytes = false")
	}
	one := good(1)
	if !Same([][]byte{one[0], nil}, [][]byte{one[0], {}}) {
		t.Error("Same of blocks without bytes, behind another one, = false")
	}
}

// differ fails if either order of both is said to be the same.
func differ(t *testing.T, why string, a, b [][]byte) {
	t.Helper()
	if Same(a, b) || Same(b, a) {
		t.Errorf("Same of lists that differ = true: %s", why)
	}
}

func TestSameOfListsThatDifferInOneByte(t *testing.T) {
	for _, count := range []int{1, 2, 4} {
		l := good(count)
		for at := range count {
			for place := range 512 {
				other := twin(l)
				other[at][place] ^= 1 << (place % 8)
				differ(t, "one byte", l, other)
			}
		}
	}
}

func TestSameOfAllPairsOfBytes(t *testing.T) {
	for a := range 256 {
		for b := range 256 {
			one, other := [][]byte{{byte(a)}}, [][]byte{{byte(b)}}
			if got := Same(one, other); got != (a == b) {
				t.Errorf("Same of a byte %d and a byte %d = %t", a, b, got)
			}
		}
	}
}

func TestSameOfListsThatDifferInLength(t *testing.T) {
	for count := range 5 {
		l := good(count)
		differ(t, "one block more behind", l, append(twin(l), make([]byte, 512)))
		differ(t, "one block more ahead", l, append([][]byte{make([]byte, 512)}, twin(l)...))
		differ(t, "one block more, without bytes", l, append(twin(l), nil))
		differ(t, "one block more, empty", l, append([][]byte{{}}, twin(l)...))
		if count > 0 {
			differ(t, "one block less", l, twin(l)[:count-1])
			differ(t, "no block", l, nil)
			differ(t, "an empty list", l, [][]byte{})
		}
	}
}

func TestSameOfListsThatDifferInABlocksLength(t *testing.T) {
	for _, count := range []int{1, 2, 4} {
		l := good(count)
		for at := range count {
			for _, size := range []int{0, 1, 511} {
				shorter := twin(l)
				shorter[at] = shorter[at][:size]
				differ(t, "a shorter block", l, shorter)
			}
			longer := twin(l)
			longer[at] = append(longer[at], longer[at][0])
			differ(t, "a longer block", l, longer)
			zero := twin(l)
			zero[at] = append(zero[at], 0)
			differ(t, "a nought more", l, zero)
		}
	}
}

func TestSameOfListsThatDifferInOrderOrInCuts(t *testing.T) {
	l := good(3)
	differ(t, "first ones swapped", l, [][]byte{l[1], l[0], l[2]})
	differ(t, "last ones swapped", l, [][]byte{l[0], l[2], l[1]})
	differ(t, "turned around", l, [][]byte{l[2], l[1], l[0]})
	differ(t, "one twice", l, [][]byte{l[0], l[1], l[1]})
	differ(t, "the same bytes, cut elsewhere", [][]byte{[]byte("ab"), []byte("c")}, [][]byte{[]byte("a"), []byte("bc")})
	differ(t, "the same bytes, in fewer blocks", [][]byte{[]byte("ab"), []byte("c")}, [][]byte{[]byte("abc")})
	differ(t, "an empty block elsewhere", [][]byte{{}, []byte("a")}, [][]byte{[]byte("a"), {}})
	differ(t, "noughts, not so many", [][]byte{make([]byte, 511)}, [][]byte{make([]byte, 512)})
}

func TestZeroOfNoughts(t *testing.T) {
	if !Zero(nil) || !Zero([]byte{}) {
		t.Error("Zero of no bytes = false")
	}
	for _, n := range sizes() {
		if !Zero(make([]byte, n)) {
			t.Errorf("Zero of %d noughts = false", n)
		}
	}
	behind := []byte{1, 0, 0, 1}
	if !Zero(behind[1:3]) {
		t.Error("Zero of noughts between other bytes = false")
	}
}

func TestZeroWithOneOtherByte(t *testing.T) {
	for _, n := range []int{1, 2, 511, 512, 513, 1024, 1025} {
		b := make([]byte, n)
		for at := range b {
			for _, x := range []byte{1, 32, '0', 127, 128, 255} {
				b[at] = x
				if Zero(b) {
					t.Errorf("Zero of %d bytes with a byte %d at place %d = true", n, x, at)
				}
			}
			b[at] = 0
		}
	}
	for _, l := range [][]byte{{1, 255}, {128, 128}, {255, 1, 0}, bytes.Repeat([]byte{64}, 512)} {
		if Zero(l) {
			t.Error("Zero of bytes whose sum wraps around to 0 = true")
		}
	}
}

func TestZerosOfAsManyAsThereMayBe(t *testing.T) {
	for _, n := range []int{1, 2, 3, 20, 200, 399, 400} {
		got := Zeros(n)
		if len(got) != n {
			t.Fatalf("Zeros(%d) has %d blocks", n, len(got))
		}
		for i, b := range got {
			if len(b) != 512 || !bytes.Equal(b, make([]byte, 512)) {
				t.Errorf("Zeros(%d) has at place %d what is no block of noughts", n, i)
			}
		}
	}
}

func TestZerosOfTooFewOrTooMany(t *testing.T) {
	for _, n := range []int{0, -1, -2, -400, math.MinInt, math.MinInt + 1, 401, 402, 1000, 1 << 31, math.MaxInt - 1, math.MaxInt} {
		if got := Zeros(n); len(got) != 0 {
			t.Errorf("Zeros(%d) has %d blocks; want nothing", n, len(got))
		}
	}
}

// P3.2

func TestManyAtTheEdges(t *testing.T) {
	for _, x := range [][2]int{
		{0, 0}, {1, 1}, {2, 1}, {511, 1}, {512, 1}, {513, 2}, {1023, 2}, {1024, 2}, {1025, 3},
		{4000, 8}, {10240, 20}, {10241, 21},
		{-1, 0}, {-511, 0}, {-512, 0}, {-513, 0}, {-100000, 0}, {math.MinInt, 0}, {math.MinInt + 1, 0}, {math.MinInt + 512, 0},
		{1 << 31, 1 << 22}, {1<<31 + 1, 1<<22 + 1}, {1 << 62, 1 << 53}, {1<<62 + 1, 1<<53 + 1},
		{math.MaxInt - 512, 1<<54 - 1}, {math.MaxInt - 511, 1<<54 - 1}, {math.MaxInt - 510, 1 << 54}, {math.MaxInt - 1, 1 << 54}, {math.MaxInt, 1 << 54},
	} {
		if got := Many(x[0]); got != x[1] {
			t.Errorf("Many(%d) = %d; want %d", x[0], got, x[1])
		}
	}
}

func TestManyOfAllSmallNumbers(t *testing.T) {
	for n := -1100; n <= 11000; n++ {
		if got := Many(n); got != wantMany(n) {
			t.Errorf("Many(%d) = %d; want %d", n, got, wantMany(n))
		}
	}
}

func TestCutAtTheEdges(t *testing.T) {
	for _, x := range []struct{ bytes, blocks, noughts int }{
		{1, 1, 511}, {2, 1, 510}, {511, 1, 1}, {512, 1, 0}, {513, 2, 511}, {1024, 2, 0}, {1025, 3, 511}, {4000, 8, 96},
	} {
		text := pattern(x.bytes)
		got := Cut(text)
		if len(got) != x.blocks {
			t.Fatalf("Cut of %d bytes has %d blocks; want %d", x.bytes, len(got), x.blocks)
		}
		want := text + strings.Repeat("\x00", x.noughts)
		for i, b := range got {
			if string(b) != want[512*i:512*i+512] {
				t.Errorf("Cut of %d bytes has another block at place %d", x.bytes, i)
			}
		}
	}
	if got := Cut(""); len(got) != 0 {
		t.Errorf("Cut of no bytes has %d blocks; want none", len(got))
	}
}

func TestCutOfAllTexts(t *testing.T) {
	for _, text := range texts() {
		got := Cut(text)
		if len(got) != wantMany(len(text)) {
			t.Fatalf("Cut of %d bytes has %d blocks; want %d", len(text), len(got), wantMany(len(text)))
		}
		for i, b := range got {
			if len(b) != 512 {
				t.Fatalf("Cut of %d bytes has a block of %d bytes at place %d", len(text), len(b), i)
			}
		}
		if want := text + strings.Repeat("\x00", 512*len(got)-len(text)); whole(got) != want {
			t.Errorf("Cut of %d bytes, from %q on, has other bytes", len(text), text[:min(len(text), 4)])
		}
	}
}

func TestTextOfBlocks(t *testing.T) {
	l := [][]byte{[]byte(pattern(512)), []byte(pattern(1024)[512:]), []byte(pattern(1536)[1024:])}
	for _, x := range []struct{ blocks, n int }{
		{0, 0}, {1, 1}, {1, 2}, {1, 511}, {1, 512}, {2, 513}, {2, 1023}, {2, 1024}, {3, 1025}, {3, 1535}, {3, 1536},
	} {
		if got, ok := Text(l[:x.blocks], x.n); !ok || got != pattern(x.n) {
			t.Errorf("Text of %d blocks, %d bytes = %d bytes, %t; want the first ones", x.blocks, x.n, len(got), ok)
		}
	}
	if got, ok := Text([][]byte{}, 0); !ok || got != "" {
		t.Errorf("Text of an empty list = %q, %t; want no bytes, true", got, ok)
	}
	if got, ok := Text([][]byte{make([]byte, 512)}, 3); !ok || got != "\x00\x00\x00" {
		t.Errorf("Text of noughts = %q, %t; want three", got, ok)
	}
}

// What stands behind the first n bytes need not be noughts.
func TestTextOfAllNumbersOfBytes(t *testing.T) {
	for count := range 5 {
		l := good(count)
		for n := -600; n <= 3100; n++ {
			got, ok := Text(l, n)
			if n < 0 || wantMany(n) != count {
				if ok || got != "" {
					t.Errorf("Text of %d blocks, %d bytes = %d bytes, %t; want none", count, n, len(got), ok)
				}
				continue
			}
			if !ok || got != whole(l)[:n] {
				t.Errorf("Text of %d blocks, %d bytes = %d bytes, %t; want the first ones", count, n, len(got), ok)
			}
		}
	}
}

func TestTextOfMoreOrFewerBytesThanTheBlocksHold(t *testing.T) {
	far := []int{math.MinInt, math.MinInt + 1, math.MinInt + 512, -1 << 54, -512, -511, -1, 10241, 1 << 31, 1 << 54, 1 << 62, math.MaxInt - 511, math.MaxInt - 1, math.MaxInt}
	for count := range 4 {
		wrong := append([]int{512*count + 1, 512*count + 512, 512*count - 512, 512*count - 513}, far...)
		for _, n := range wrong {
			if got, ok := Text(good(count), n); ok || got != "" {
				t.Errorf("Text of %d blocks, %d bytes = %d bytes, %t; want none", count, n, len(got), ok)
			}
		}
	}
	if got, ok := Text(nil, -1); ok || got != "" {
		t.Errorf("Text of no blocks, -1 bytes = %q, %t; want none", got, ok)
	}
}

func TestTextOfBlocksThatMayNotBe(t *testing.T) {
	for _, l := range [][][]byte{
		{nil}, {{}}, filled(1), filled(511), filled(513), filled(1024),
		filled(511, 512), filled(512, 511), filled(513, 512), filled(512, 513), filled(511, 513), filled(513, 511), filled(0, 1024), filled(1024, 0),
		filled(512, 0, 512), filled(512, 511, 512), filled(512, 513, 512), filled(512, 512, 0), filled(0, 512, 512),
	} {
		size := len(whole(l))
		for _, n := range []int{-1, 0, 1, size - 1, size, size + 1, 512*len(l) - 511, 512*len(l) - 1, 512 * len(l), 512*len(l) + 1, math.MinInt, math.MaxInt} {
			if got, ok := Text(l, n); ok || got != "" {
				t.Errorf("Text of %d blocks that may not be, %d bytes = %d bytes, %t; want none", len(l), n, len(got), ok)
			}
		}
	}
}

// P3.3

func TestWhatIsCutIsToldAgain(t *testing.T) {
	for _, text := range texts() {
		l := Cut(text)
		if got, ok := Text(l, len(text)); !ok || got != text {
			t.Errorf("Text of the Cut of %d bytes, from %q on, = %d bytes, %t", len(text), text[:min(len(text), 4)], len(got), ok)
		}
		if !May(l) || len(l) != Many(len(text)) {
			t.Errorf("Cut of %d bytes has %d blocks, or one that is none", len(text), len(l))
		}
		if behind := whole(l)[len(text):]; len(behind) > 511 || !Zero([]byte(behind)) {
			t.Errorf("Cut of %d bytes has other bytes than noughts behind, or too many", len(text))
		}
		if !Same(l, Cut(text)) {
			t.Errorf("Cut of %d bytes has not twice the same blocks", len(text))
		}
	}
}

func TestCutAndZerosOfNoughtsAreTheSame(t *testing.T) {
	for _, n := range []int{1, 2, 20, 400} {
		if !Same(Cut(strings.Repeat("\x00", 512*n)), Zeros(n)) {
			t.Errorf("Cut of %d noughts and Zeros(%d) differ", 512*n, n)
		}
	}
}

// R3

// spoil writes into each block of l, and behind it, where its memory goes on.
func spoil(l [][]byte) {
	for _, b := range l {
		for at := range b {
			b[at] = 'x'
		}
		_ = append(b, strings.Repeat("x", cap(b)-len(b))...)
	}
}

func TestBlocksOfAnAnswerShareNoMemory(t *testing.T) {
	for _, call := range []func() [][]byte{
		func() [][]byte { return Cut(pattern(1400)) },
		func() [][]byte { return Cut(pattern(1536)) },
		func() [][]byte { return Zeros(3) },
	} {
		want := twin(call())
		for at := range want {
			l := call()
			spoil(l[at : at+1 : at+1])
			for i := range l {
				if i != at && !bytes.Equal(l[i], want[i]) {
					t.Errorf("what was written into block %d, or behind it, stands in block %d", at, i)
				}
			}
		}
		first, second := call(), call()
		spoil(first)
		_ = append(first[:0], []byte("another"))
		if !Same(second, want) || !Same(call(), want) {
			t.Error("what was written into an answer stands in another one")
		}
	}
}

func TestTextKeepsNoBlock(t *testing.T) {
	for _, n := range []int{512, 1000, 1024} {
		l := Cut(pattern(n))
		got, _ := Text(l, n)
		spoil(l)
		if got != pattern(n) {
			t.Errorf("Text of %d bytes has changed with the blocks", n)
		}
	}
}

func TestNothingThatIsHandedInIsChanged(t *testing.T) {
	for _, l := range [][][]byte{good(1), good(3), filled(511, 513), filled(0, 1, 512), Zeros(2), nil} {
		behind := append(twin(l), []byte("behind"))
		want := twin(behind)
		list := behind[:len(l)]
		May(list)
		Same(list, list)
		Same(list, behind)
		Text(list, 512*len(l))
		Text(list, -1)
		for _, b := range list {
			Zero(b)
		}
		if !slices.EqualFunc(behind, want, bytes.Equal) {
			t.Errorf("a list of %d blocks was changed", len(l))
		}
	}
}
