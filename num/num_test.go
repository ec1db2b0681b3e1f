package num

import (
	"bytes"
	"math"
	"math/big"
	"strconv"
	"strings"
	"testing"
)

// samples are numbers about all edges: each power of 2, what is next to it, and the least and the greatest int.
func samples() []int {
	list := []int{math.MinInt, math.MinInt + 1, -1 << 40, -512, -8, -2, -1, 0, 420, 1000, 123456789, math.MaxInt - 1, math.MaxInt}
	for shift := range 63 {
		list = append(list, 1<<shift-1, 1<<shift, 1<<shift+1)
	}
	return list
}

// sizes are widths and numbers of digits within their bounds, next to them, and far away.
func sizes() []int {
	list := []int{math.MinInt, math.MinInt + 1, -20, -2, 64, 512, 1 << 40, math.MaxInt - 1, math.MaxInt}
	for size := -1; size <= 23; size++ {
		list = append(list, size)
	}
	return list
}

// wantOctal says by the library what Octal has to answer.
func wantOctal(n, digits int) (string, bool) {
	text := strconv.FormatInt(int64(n), 8)
	if n < 0 || digits < 1 || digits > 20 || len(text) > digits {
		return "", false
	}
	return strings.Repeat("0", digits-len(text)) + text, true
}

// wantPut says by the library what Put has to answer.
func wantPut(n, wide int) (string, bool) {
	if n < 0 || wide < 2 || wide > 20 {
		return "", false
	}
	if text, ok := wantOctal(n, wide-1); ok {
		return text + "\x00", true
	}
	low := big.NewInt(int64(n)).Bytes()
	if len(low) > wide-1 {
		return "", false
	}
	return "\x80" + strings.Repeat("\x00", wide-1-len(low)) + string(low), true
}

// P1.1

func TestOctalOfOrdinaryNumbers(t *testing.T) {
	for _, x := range []struct {
		n, digits int
		want      string
	}{
		{0, 1, "0"},
		{0, 3, "000"},
		{7, 1, "7"},
		{8, 2, "10"},
		{8, 3, "010"},
		{64, 3, "100"},
		{420, 7, "0000644"},
		{1234567, 7, "4553207"},
		{5, 20, "00000000000000000005"},
	} {
		if got, ok := Octal(x.n, x.digits); !ok || got != x.want {
			t.Errorf("Octal(%d, %d) = %q, %t; want %q", x.n, x.digits, got, ok, x.want)
		}
	}
}

func TestOctalAtTheGreatestNumberOfEachNumberOfDigits(t *testing.T) {
	for digits := 1; digits <= 20; digits++ {
		greatest := 1<<(3*digits) - 1
		if got, ok := Octal(greatest, digits); !ok || got != strings.Repeat("7", digits) {
			t.Errorf("Octal(%d, %d) = %q, %t; want sevens alone", greatest, digits, got, ok)
		}
		if got, ok := Octal(greatest+1, digits); ok || got != "" {
			t.Errorf("Octal(%d, %d) = %q, %t; want none: one digit too many", greatest+1, digits, got, ok)
		}
	}
}

func TestOctalRefusesWrongArguments(t *testing.T) {
	for _, x := range [][2]int{
		{-1, 3}, {math.MinInt, 20}, {-8, 1},
		{5, 0}, {0, 0}, {5, -1}, {0, math.MinInt},
		{5, 21}, {0, 21}, {1 << 60, 21}, {0, math.MaxInt},
		{math.MaxInt, 20},
	} {
		if got, ok := Octal(x[0], x[1]); ok || got != "" {
			t.Errorf("Octal(%d, %d) = %q, %t; want none", x[0], x[1], got, ok)
		}
	}
}

func TestPlainAtTheEdges(t *testing.T) {
	for _, x := range []struct {
		n, wide int
		want    bool
	}{
		{0, 2, true}, {7, 2, true}, {8, 2, false},
		{511, 4, true}, {512, 4, false},
		{1<<57 - 1, 20, true}, {1 << 57, 20, false}, {math.MaxInt, 20, false},
		{0, 1, false}, {0, 0, false}, {0, 21, false}, {0, -1, false}, {0, math.MinInt, false}, {0, math.MaxInt, false},
		{-1, 8, false}, {math.MinInt, 8, false},
	} {
		if got := Plain(x.n, x.wide); got != x.want {
			t.Errorf("Plain(%d, %d) = %t; want %t", x.n, x.wide, got, x.want)
		}
	}
}

func TestOctalAndPlainAtAllSamples(t *testing.T) {
	for _, n := range samples() {
		for _, size := range sizes() {
			want, wantOk := wantOctal(n, size)
			if got, ok := Octal(n, size); got != want || ok != wantOk {
				t.Errorf("Octal(%d, %d) = %q, %t; want %q, %t", n, size, got, ok, want, wantOk)
			}
			_, wantPlain := wantOctal(n, size-1)
			wantPlain = wantPlain && size >= 2 && size <= 20
			if got := Plain(n, size); got != wantPlain {
				t.Errorf("Plain(%d, %d) = %t; want %t", n, size, got, wantPlain)
			}
		}
	}
}

// P1.2

func TestPutOfOrdinaryNumbers(t *testing.T) {
	for _, x := range []struct {
		n, wide int
		want    string
	}{
		{8, 4, "010\x00"},
		{512, 4, "\x80\x00\x02\x00"},
		{0, 2, "0\x00"},
		{7, 2, "7\x00"},
		{8, 2, "\x80\x08"},
		{420, 8, "0000644\x00"},
		{0x010203, 5, "\x80\x00\x01\x02\x03"},
		{1 << 40, 8, "\x80\x00\x01\x00\x00\x00\x00\x00"},
		{math.MaxInt, 9, "\x80\x7f\xff\xff\xff\xff\xff\xff\xff"},
		{math.MaxInt, 20, "\x80" + strings.Repeat("\x00", 11) + "\x7f\xff\xff\xff\xff\xff\xff\xff"},
	} {
		if got, ok := Put(x.n, x.wide); !ok || string(got) != x.want {
			t.Errorf("Put(%d, %d) = %q, %t; want %q", x.n, x.wide, got, ok, x.want)
		}
	}
}

func TestPutAtTheGreatestNumberOfEachWidth(t *testing.T) {
	for wide := 2; wide <= 20; wide++ {
		digits := 1<<(3*(wide-1)) - 1
		if got, ok := Put(digits, wide); !ok || string(got) != strings.Repeat("7", wide-1)+"\x00" {
			t.Errorf("Put(%d, %d) = %q, %t; want sevens and a nought", digits, wide, got, ok)
		}
		if got, ok := Put(digits+1, wide); !ok || len(got) != wide || got[0] != 128 {
			t.Errorf("Put(%d, %d) = %q, %t; want bytes behind a mark", digits+1, wide, got, ok)
		}
	}
	for wide := 2; wide <= 8; wide++ {
		greatest := 1<<(8*(wide-1)) - 1
		if got, ok := Put(greatest, wide); !ok || string(got) != "\x80"+strings.Repeat("\xff", wide-1) {
			t.Errorf("Put(%d, %d) = %q, %t; want all bytes 255", greatest, wide, got, ok)
		}
		if got, ok := Put(greatest+1, wide); ok || len(got) != 0 {
			t.Errorf("Put(%d, %d) = %q, %t; want none: one byte too many", greatest+1, wide, got, ok)
		}
	}
}

func TestPutRefusesWrongArguments(t *testing.T) {
	for _, x := range [][2]int{
		{-1, 8}, {-1, 20}, {math.MinInt, 20}, {math.MinInt, 2}, {-256, 9},
		{0, 1}, {0, 0}, {0, -1}, {0, math.MinInt}, {math.MaxInt, math.MinInt},
		{0, 21}, {7, 21}, {math.MaxInt, 21}, {0, math.MaxInt},
		{256, 2}, {1 << 56, 8}, {math.MaxInt, 8},
	} {
		if got, ok := Put(x[0], x[1]); ok || len(got) != 0 {
			t.Errorf("Put(%d, %d) = %q, %t; want none", x[0], x[1], got, ok)
		}
	}
}

func TestPutAtAllSamples(t *testing.T) {
	for _, n := range samples() {
		for _, wide := range sizes() {
			want, wantOk := wantPut(n, wide)
			if got, ok := Put(n, wide); string(got) != want || ok != wantOk {
				t.Errorf("Put(%d, %d) = %q, %t; want %q, %t", n, wide, got, ok, want, wantOk)
			}
		}
	}
}

func TestGetOfFields(t *testing.T) {
	for _, x := range []struct {
		field string
		want  int
	}{
		{"0\x00", 0},
		{"010\x00", 8},
		{"0000644\x00", 420},
		{"7777777777777777777\x00", 1<<57 - 1},
		{"\x80\x08", 8},
		{"\x80\xff", 255},
		{"\x80\x00\x02\x00", 512},
		{"\x80\x7f\xff\xff\xff\xff\xff\xff\xff", math.MaxInt},
		{"\x80" + strings.Repeat("\x00", 11) + "\x7f\xff\xff\xff\xff\xff\xff\xff", math.MaxInt},
	} {
		if got, ok := Get([]byte(x.field)); !ok || got != x.want {
			t.Errorf("Get(%q) = %d, %t; want %d", x.field, got, ok, x.want)
		}
	}
}

func TestGetRefusesWhatIsNoField(t *testing.T) {
	for _, field := range []string{
		"",                                     // no width
		"\x00",                                 // no width
		"0",                                    // no width
		"\x80",                                 // no width
		"00000000000000000000\x00",             // 21 bytes: no width
		"\x80" + strings.Repeat("\x00", 20),    // 21 bytes: no width
		strings.Repeat("0", 511) + "\x00",      // no width
		"010",                                  // no byte 0 behind
		"010 ",                                 // another byte behind
		"0100",                                 // a digit behind
		"01\x000",                              // a byte 0 in the midst
		"01\x00\x00",                           // one digit too few
		"\x00\x00",                             // no digit
		" 10\x00",                              // a space ahead
		"08\x00",                               // no digit to the base of 8
		"09\x00",                               // likewise
		"0x0\x00",                              // likewise
		"-10\x00",                              // a number below 0
		"+10\x00",                              // a sign
		"/0\x00",                               // the byte ahead of 0
		"0/\x00",                               // worth -1 as a digit
		"1/\x00",                               // worth 7 as a digit
		"\x80\x07",                             // its digits would go in
		"\x80\x00\x00\x00",                     // likewise
		"\x80\x00\x01\xff",                     // likewise
		"\x80" + strings.Repeat("\x00", 19),    // likewise
		"\x81\x08",                             // another mark
		"\x00\x08",                             // no mark
		"\xff\xf8",                             // a number below 0, by its two's complement
		"\xff" + strings.Repeat("\xff", 11),    // likewise
		"\x80" + strings.Repeat("\xff", 8),     // above the greatest int: wraps around to -1
		"\x80\x80" + strings.Repeat("\x00", 7), // the greatest int, and 1
		"\x80\x01" + strings.Repeat("\x00", 8), // wraps around to 0
		"\x80\x01\x00\x00\x00\x00\x00\x40\x00\x00\x00", // wraps around to a number that would not be plain
		"\x80" + strings.Repeat("\xff", 19),
	} {
		if got, ok := Get([]byte(field)); ok || got != 0 {
			t.Errorf("Get(%q) = %d, %t; want none", field, got, ok)
		}
	}
	if got, ok := Get(nil); ok || got != 0 {
		t.Errorf("Get(nil) = %d, %t; want none", got, ok)
	}
}

// All fields of two and of three bytes: those that Put makes are got, and none else.
func TestGetOfAllShortFields(t *testing.T) {
	for wide := 2; wide <= 3; wide++ {
		fields := map[string]int{}
		for n := range 1 << (8 * (wide - 1)) {
			field, _ := wantPut(n, wide)
			fields[field] = n
		}
		field := make([]byte, wide)
		for number := range 1 << (8 * wide) {
			for i := range field {
				field[i] = byte(number >> (8 * i))
			}
			want, wantOk := fields[string(field)]
			if got, ok := Get(field); got != want || ok != wantOk {
				t.Fatalf("Get(%q) = %d, %t; want %d, %t", field, got, ok, want, wantOk)
			}
		}
	}
}

// P1.3

func TestWhatIsPutIsGot(t *testing.T) {
	for _, n := range samples() {
		for wide := 2; wide <= 20; wide++ {
			field, ok := Put(n, wide)
			if !ok {
				continue
			}
			if got, ok := Get(field); !ok || got != n {
				t.Errorf("Get(Put(%d, %d)) = %d, %t", n, wide, got, ok)
			}
		}
	}
}

// Of each sample's field each byte is made each other one: what is still got has to be put as the same bytes.
func TestWhatIsGotIsPutAsTheSameBytes(t *testing.T) {
	for _, n := range samples() {
		for _, wide := range []int{2, 4, 8, 9, 12, 20} {
			field, _ := Put(n, wide)
			for place := range field {
				for value := range 256 {
					changed := bytes.Clone(field)
					changed[place] = byte(value)
					got, ok := Get(changed)
					if !ok {
						if got != 0 {
							t.Fatalf("Get(%q) = %d beside a false", changed, got)
						}
						continue
					}
					if again, ok := Put(got, wide); !ok || !bytes.Equal(again, changed) {
						t.Fatalf("Get(%q) = %d, but Put(%d, %d) = %q, %t", changed, got, got, wide, again, ok)
					}
				}
			}
		}
	}
}

// P1 and R3

func TestGetChangesNothing(t *testing.T) {
	for _, text := range []string{"0000644\x00", "\x80\x00\x02\x00", "08\x00", ""} {
		field := append([]byte(text), "behind"...)
		Get(field[:len(text)])
		if string(field) != text+"behind" {
			t.Errorf("Get has made %q of %q", field, text+"behind")
		}
	}
}

func TestPutAnswersNewMemory(t *testing.T) {
	for _, n := range []int{8, 512} {
		first, _ := Put(n, 4)
		want := string(first)
		second, _ := Put(n, 4)
		for i := range first {
			first[i] = 'x'
		}
		_ = append(first[:0], "changed"...)
		third, _ := Put(n, 4)
		if string(second) != want || string(third) != want {
			t.Errorf("Put(%d, 4) = %q and %q; want %q", n, second, third, want)
		}
	}
}
