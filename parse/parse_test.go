package parse

import (
	"bytes"
	"fmt"
	"math"
	"math/rand"
	"slices"
	"strings"
	"testing"

	"reelkeeper/api"
	"reelkeeper/block"
	"reelkeeper/head"
	"reelkeeper/long"
	"reelkeeper/path"
	"reelkeeper/stream"
	"reelkeeper/tree"
)

// letters is a text of so many bytes, without a slash. Those beside each other differ, so that one left out or told twice is seen.
func letters(n int) string {
	return strings.Repeat("abcdefghijklmnopqrstuvwxyz", n/26+1)[:n]
}

// upper likewise, of letters that letters has none of: what stands in another one's place is seen.
func upper(n int) string {
	return strings.ToUpper(letters(n))
}

// wide is a path of so many bytes that begins by a text.
func wide(first string, n int) string {
	return first + letters(n-len(first))
}

func file(p, data string) api.Node { return api.Node{Path: p, Kind: '0', Data: data} }

func hard(p, link string) api.Node { return api.Node{Path: p, Link: link, Kind: '1'} }

func sym(p, link string) api.Node { return api.Node{Path: p, Link: link, Kind: '2'} }

func dir(p string) api.Node { return api.Node{Path: p, Kind: '5'} }

// bare is a node as it is told: without its bytes.
func bare(n api.Node) api.Node {
	n.Data = ""
	return n
}

// block512 is a block of parts, each with its place ahead of it, and noughts between.
func block512(parts ...any) []byte {
	b := make([]byte, 512)
	for i := 0; i < len(parts); i += 2 {
		copy(b[parts[i].(int):], parts[i+1].(string))
	}
	return b
}

// noughts is a block of noughts.
func noughts() []byte { return make([]byte, 512) }

// headed is the block of a header.
func headed(h api.Head) []byte {
	b, ok := head.Put(h)
	if !ok {
		panic(fmt.Sprintf("no header: %#v", h))
	}
	return b
}

// ofLong is the block of a long text's header.
func ofLong(kind byte, size int) []byte {
	return headed(api.Head{Name: "././@LongLink", Size: size, Type: kind})
}

// summed is a block with the sum that it has, whatever stands there.
func summed(b []byte) []byte {
	copy(b[148:], fmt.Sprintf("%06o\x00 ", head.Sum(b)))
	return b
}

// What is told

func begun(n api.Node) api.Ev { return api.Ev{Kind: 0, Node: n} }

func came(data string) api.Ev { return api.Ev{Kind: 1, Data: data} }

func over() api.Ev { return api.Ev{Kind: 2} }

// States

func ahead(name, link string) api.State { return api.State{Phase: 0, Name: name, Link: link} }

func naming(size int, link string) api.State {
	return api.State{Phase: 1, Size: size, Left: size, Link: link}
}

func linking(size int, name string) api.State {
	return api.State{Phase: 2, Size: size, Left: size, Name: name}
}

func within(n api.Node, size, left int) api.State {
	return api.State{Phase: 3, Node: n, Size: size, Left: left}
}

func oneNought() api.State { return api.State{Phase: 4} }

func ended() api.State { return api.State{Phase: 5} }

// Telling what was answered

func short(s string) string { return fmt.Sprintf("%.20q (%d)", s, len(s)) }

func showNode(n api.Node) string {
	return fmt.Sprintf("{%s kind %q link %s %d %d %d %d data %s}", short(n.Path), n.Kind, short(n.Link), n.Mode, n.Uid, n.Gid, n.Mtime, short(n.Data))
}

func show(s api.State) string {
	return fmt.Sprintf("[phase %d node %s size %d left %d text %s name %s link %s]", s.Phase, showNode(s.Node), s.Size, s.Left, short(s.Text), short(s.Name), short(s.Link))
}

func showAll(l []api.Ev) string {
	var all []string
	for _, e := range l {
		all = append(all, fmt.Sprintf("%d %s %s", e.Kind, showNode(e.Node), short(e.Data)))
	}
	return fmt.Sprint(len(l), " told: ", strings.Join(all, "; "))
}

// isStep holds Step against what it has to answer.
func isStep(t *testing.T, s api.State, b []byte, next api.State, told []api.Ev, e api.Errno) {
	t.Helper()
	got, evs, err := Step(s, b)
	if got != next || !slices.Equal(evs, told) || err != e {
		t.Errorf("Step of %s and %.40q (%d) = %s, %s, %d; want %s, %s, %d", show(s), b, len(b), show(got), showAll(evs), err, show(next), showAll(told), e)
	}
	if May(s) && !May(got) {
		t.Errorf("Step of %s and %.40q leads to %s, which may not be", show(s), b, show(got))
	}
}

// takes holds Step against what it has to answer with no error.
func takes(t *testing.T, s api.State, b []byte, next api.State, told ...api.Ev) {
	t.Helper()
	isStep(t, s, b, next, told, 0)
}

// refuses holds Step against an error.
func refuses(t *testing.T, s api.State, b []byte, e api.Errno) {
	t.Helper()
	isStep(t, s, b, s, nil, e)
}

// isRun holds Run against what it has to answer.
func isRun(t *testing.T, s api.State, l [][]byte, next api.State, told []api.Ev, taken int, e api.Errno) {
	t.Helper()
	got, evs, n, err := Run(s, l)
	if got != next || !slices.Equal(evs, told) || n != taken || err != e {
		t.Errorf("Run of %s and %d blocks = %s, %s, %d, %d; want %s, %s, %d, %d", show(s), len(l), show(got), showAll(evs), n, err, show(next), showAll(told), taken, e)
	}
}

// P9.1: May

// safeFile is a file that bytes may come of.
func safeFile() api.Node {
	return api.Node{Path: "a/b", Kind: '0', Mode: 4095, Uid: 1 << 40, Gid: 1 << 40, Mtime: 1 << 40}
}

// mayStates are states that may be, in each phase.
func mayStates() []api.State {
	list := []api.State{oneNought(), ended()}
	for _, x := range []string{"", "x", "../x", "/", ".", letters(100), letters(101), upper(299), upper(300)} {
		for _, y := range []string{"", "y", "y//", letters(300)} {
			list = append(list, ahead(x, y), ahead(y, x))
		}
		for _, size := range []int{2, 3, 100, 101, 300, 301} {
			list = append(list, naming(size, x), linking(size, x))
		}
	}
	for _, n := range []api.Node{safeFile(), file("a", ""), file(letters(300), "")} {
		for _, x := range [][2]int{
			{1, 1}, {2, 2}, {301, 301}, {511, 511}, {512, 512}, {513, 513}, {513, 1}, {1024, 1024}, {1024, 512}, {1025, 1}, {1025, 513},
			{4000, 4000}, {4000, 3488}, {4000, 2976}, {4000, 928}, {4000, 416}, {3999, 415}, {3585, 1}, {3584, 512},
		} {
			list = append(list, within(n, x[0], x[1]))
		}
	}
	return list
}

// mayNotStates are states that may not be.
func mayNotStates() []api.State {
	list := []api.State{
		{Phase: -1}, {Phase: 6}, {Phase: 7}, {Phase: math.MinInt}, {Phase: math.MaxInt}, {Phase: 256}, {Phase: 1}, {Phase: 2}, {Phase: 3},
	}
	for _, s := range []api.State{ahead("", ""), ahead("x", "y"), naming(2, ""), naming(301, "y"), linking(2, ""), linking(301, "x"), within(file("a", ""), 4000, 4000), oneNought(), ended()} {
		list = append(list, changed(s)...)
	}
	for _, size := range []int{math.MinInt, -2, -1, 0, 1, 302, 303, 512, 4000, math.MaxInt} {
		list = append(list, naming(size, ""), linking(size, ""), naming(size, "y"), linking(size, "x"))
	}
	for _, x := range [][2]int{{2, 1}, {2, 3}, {3, 2}, {300, 301}, {301, 300}, {301, 0}, {301, 301 - 512}, {301, 512}, {301, 813}} {
		list = append(list, api.State{Phase: 1, Size: x[0], Left: x[1]}, api.State{Phase: 2, Size: x[0], Left: x[1]})
	}
	for _, x := range [][2]int{
		{0, 0}, {1, 0}, {0, 1}, {1, 2}, {2, 1}, {512, 0}, {512, 1}, {513, 2}, {513, 512}, {1, 513}, {1, -511}, {1024, 0}, {1024, 1536}, {1024, 511}, {1024, 513},
		{4001, 4001}, {4001, 3489}, {4001, 1}, {4096, 4096}, {4096, 512}, {4000, 4512}, {4000, 0}, {4000, 1}, {4000, 4001}, {4000, 3999}, {4000, -96}, {4000, 417}, {4000, 415},
		{-512, -512}, {0, -512}, {-1, -1}, {math.MaxInt, math.MaxInt}, {math.MinInt, math.MinInt}, {math.MinInt, 512}, {math.MaxInt, -1}, {-512, math.MaxInt - 511},
	} {
		list = append(list, within(file("a", ""), x[0], x[1]))
	}
	for _, n := range []api.Node{
		{}, {Path: "a"}, file("", ""), file("a", "x"), file("/a", ""), file("a/../b", ""), file("a\x00", ""), file(letters(301), ""), {Path: "a", Kind: '0', Link: "b"},
		dir("a"), sym("a", "b"), hard("a", "b"), {Path: "a", Kind: 'K'}, {Path: "a", Kind: 'M'}, {Path: "a", Kind: 0},
		{Path: "a", Kind: '0', Mode: -1}, {Path: "a", Kind: '0', Mode: 4096}, {Path: "a", Kind: '0', Uid: 1<<40 + 1}, {Path: "a", Kind: '0', Gid: -1}, {Path: "a", Kind: '0', Mtime: 1<<40 + 1},
	} {
		list = append(list, within(n, 4000, 4000), within(n, 1, 1), within(n, 513, 1))
	}
	for _, x := range []string{"\x00", "a\x00", "\x00a", letters(150) + "\x00" + letters(149), letters(301), letters(302), letters(5000)} {
		list = append(list, ahead(x, ""), ahead("", x), ahead("x", x), ahead(x, "y"), naming(5, x), linking(5, x))
	}
	return list
}

// changed are states that differ from s in one thing by which they may not be.
func changed(s api.State) []api.State {
	var list []api.State
	change := func(how func(*api.State)) {
		c := s
		how(&c)
		list = append(list, c)
	}
	change(func(c *api.State) { c.Text = "x" })
	change(func(c *api.State) { c.Text = "\x00" })
	change(func(c *api.State) { c.Size++ })
	change(func(c *api.State) { c.Size-- })
	change(func(c *api.State) { c.Left++ })
	change(func(c *api.State) { c.Left-- })
	if s.Phase != 3 {
		change(func(c *api.State) { c.Left += 512 })
		change(func(c *api.State) { c.Node.Path = "a" })
		change(func(c *api.State) { c.Node.Kind = '0' })
		change(func(c *api.State) { c.Node.Mode = 1 })
		change(func(c *api.State) { c.Node.Uid = 1 })
		change(func(c *api.State) { c.Node.Gid = 1 })
		change(func(c *api.State) { c.Node.Mtime = 1 })
		change(func(c *api.State) { c.Node.Data = "x" })
		change(func(c *api.State) { c.Node = safeFile() })
		change(func(c *api.State) { c.Size, c.Left = c.Size+512, c.Left+512 })
	}
	if s.Phase != 0 && s.Phase != 2 {
		change(func(c *api.State) { c.Name = "x" })
	}
	if s.Phase != 0 && s.Phase != 1 {
		change(func(c *api.State) { c.Link = "y" })
	}
	change(func(c *api.State) { c.Node.Link = "b" })
	change(func(c *api.State) { c.Node.Data = "\x00" })
	return list
}

func TestStatesThatMayBe(t *testing.T) {
	for _, s := range mayStates() {
		if !May(s) {
			t.Errorf("May of %s = false", show(s))
		}
	}
}

func TestStatesThatMayNotBe(t *testing.T) {
	for _, s := range mayNotStates() {
		if May(s) {
			t.Errorf("May of %s = true", show(s))
		}
	}
}

// wantMay says by the chapter's words whether a state may be.
func wantMay(s api.State) bool {
	isText := func(x string) bool { return len(x) > 0 && len(x) < 301 && !strings.Contains(x, "\x00") }
	noName, noLink, noNode, noBytes := s.Name == "", s.Link == "", s.Node == (api.Node{}), s.Size == 0 && s.Left == 0
	name, link := noName || isText(s.Name), noLink || isText(s.Link)
	textComes := s.Size > 1 && s.Size < 302 && s.Size == s.Left
	fileComes := s.Size > 0 && s.Size < 4001 && s.Left > 0 && s.Left <= s.Size && (s.Size-s.Left)&511 == 0
	isFile := s.Node.Kind == '0' && len(s.Node.Data) == 0 && tree.One(s.Node)
	by := map[int]bool{
		0: noNode && noBytes && name && link,
		1: noNode && textComes && noName && link,
		2: noNode && textComes && name && noLink,
		3: isFile && fileComes && noName && noLink,
		4: noNode && noBytes && noName && noLink,
		5: noNode && noBytes && noName && noLink,
	}
	return len(s.Text) == 0 && by[s.Phase]
}

func TestAllSortsOfStates(t *testing.T) {
	var counts [8]int
	for _, size := range []int{-1, 0, 1, 2, 300, 301, 302, 512, 513, 1024, 4000, 4001, 4096} {
		for _, left := range []int{-511, -1, 0, 1, 2, 300, 301, 302, 416, 512, 513, 1024, 4000, 4001, 4096} {
			for _, name := range []string{"", "x", letters(300), letters(301), "x\x00"} {
				for _, link := range []string{"", "y", letters(300), letters(301), "\x00"} {
					for _, n := range []api.Node{{}, file("a", ""), file("a", "x"), dir("a"), file("..", "")} {
						for phase := -1; phase < 7; phase++ {
							s := api.State{Phase: phase, Node: n, Size: size, Left: left, Name: name, Link: link}
							want := wantMay(s)
							if got := May(s); got != want {
								t.Errorf("May of %s = %t; want %t", show(s), got, want)
							}
							if want {
								counts[phase+1]++
							}
						}
					}
				}
			}
		}
	}
	// Of texts three may be at hand; of pairs of Size and Left twelve are of a file.
	if want := [8]int{0, 9, 9, 9, 12, 1, 1, 0}; counts != want {
		t.Errorf("so many states may be, by phase: %v; want %v", counts, want)
	}
}

// P9.1: Same

func TestSame(t *testing.T) {
	n := safeFile()
	lists := [][]api.Ev{
		{},
		{over()},
		{over(), over()},
		{over(), over(), over()},
		{begun(n)},
		{begun(n), over()},
		{over(), begun(n)},
		{begun(n), came("x"), over()},
		{begun(n), came("y"), over()},
		{begun(n), came("x"), came("x"), over()},
		{came("x")},
		{came("")},
		{came("x\x00")},
		{{Kind: -1}},
		{{Kind: 3}},
		{{}},
		{{Kind: 2, Data: "x"}},
		{{Kind: 2, Node: n}},
		{{Kind: 1, Node: n, Data: "x"}},
	}
	for which := range 8 {
		m := n
		switch which {
		case 0:
			m.Path = "a/c"
		case 1:
			m.Link = "b"
		case 2:
			m.Kind = '2'
		case 3:
			m.Mode--
		case 4:
			m.Uid--
		case 5:
			m.Gid--
		case 6:
			m.Mtime--
		case 7:
			m.Data = "x"
		}
		lists = append(lists, []api.Ev{begun(m)})
	}
	for i, a := range lists {
		for j, b := range lists {
			if got := Same(a, slices.Clone(b)); got != (i == j) {
				t.Errorf("Same of %s and %s = %t", showAll(a), showAll(b), got)
			}
		}
	}
	if !Same(nil, nil) || !Same(nil, []api.Ev{}) || !Same([]api.Ev{}, nil) {
		t.Error("lists without elements are not the same")
	}
	if Same(nil, []api.Ev{{}}) || Same([]api.Ev{{}}, nil) {
		t.Error("nothing is the same as something")
	}
}

// P9.2: what a state and a block must be

func TestBlocksOfOtherLengths(t *testing.T) {
	whole := headed(api.Head{Name: "a", Type: '5'})
	long := make([]byte, 1024)
	for _, s := range mayStates() {
		for _, b := range [][]byte{nil, {}, {0}, whole[:511], noughts()[:511], append(slices.Clone(whole), 0), append(slices.Clone(whole), 'x'), long[:513], long} {
			refuses(t, s, b, 1)
		}
	}
}

func TestStepOfStatesThatMayNotBe(t *testing.T) {
	for _, s := range mayNotStates() {
		for _, b := range [][]byte{nil, noughts()[:511], noughts(), headed(api.Head{Name: "a", Type: '5'}), block512(0, "x"), block512(0, letters(512))} {
			refuses(t, s, b, 1)
		}
	}
}

func TestBehindTheEnd(t *testing.T) {
	for _, b := range [][]byte{noughts(), block512(0, "x"), block512(511, "x"), headed(api.Head{Name: "a", Type: '5'}), ofLong('L', 5), headed(api.Head{Name: "a", Type: 'V'})} {
		refuses(t, ended(), b, 17)
	}
	refuses(t, ended(), noughts()[:511], 1)
	refuses(t, ended(), make([]byte, 513), 1)
	refuses(t, ended(), nil, 1)
}

// P9.2: blocks of noughts

func TestTwoBlocksOfNoughts(t *testing.T) {
	takes(t, api.State{}, noughts(), oneNought())
	takes(t, oneNought(), noughts(), ended())
	refuses(t, ended(), noughts(), 17)
}

func TestOneBlockOfNoughtsAndAnotherBlock(t *testing.T) {
	for _, b := range [][]byte{block512(0, "x"), block512(511, "x"), block512(148, " "), headed(api.Head{Name: "a", Type: '5'}), ofLong('L', 5), ofLong('K', 5), headed(api.Head{Name: "a", Type: 'M'})} {
		refuses(t, oneNought(), b, 2)
	}
	for at := range 512 {
		refuses(t, oneNought(), block512(at, "\x01"), 2)
	}
}

func TestNoughtsWithATextAtHand(t *testing.T) {
	for _, x := range []string{"x", letters(100), letters(101), letters(300)} {
		refuses(t, ahead(x, ""), noughts(), 2)
		refuses(t, ahead("", x), noughts(), 2)
		refuses(t, ahead(x, "y"), noughts(), 2)
	}
}

// P9.2: head's errors

func TestErrorsOfAHeader(t *testing.T) {
	for _, s := range []api.State{ahead("", ""), ahead("a", ""), ahead("", "b"), ahead("a", "b")} {
		broken := headed(api.Head{Name: "a", Type: '5'})
		broken[0] = 'b'
		refuses(t, s, broken, 3)
		refuses(t, s, block512(0, "x"), 3)
		refuses(t, s, block512(511, "\x01"), 3)
		refuses(t, s, block512(0, letters(512)), 3)
		refuses(t, s, summed(block512(0, "x")), 2)
		other := headed(api.Head{Name: "a", Type: '5'})
		copy(other[257:], "other")
		refuses(t, s, summed(other), 2)
		kind := headed(api.Head{Name: "a", Type: '5'})
		kind[156] = '3'
		refuses(t, s, summed(kind), 2)
		kind[156] = 0
		refuses(t, s, summed(kind), 2)
	}
}

// P9.2: headers that have no place

func TestHeadersOfTypesMAndV(t *testing.T) {
	for _, s := range []api.State{ahead("", ""), ahead("a", ""), ahead("", "b"), ahead("a", "b"), ahead(letters(300), letters(300))} {
		for _, h := range []api.Head{
			{Name: "a", Type: 'M'}, {Name: "a", Type: 'V'}, {Name: "a", Link: "b", Type: 'M'}, {Name: "a", Link: "b", Type: 'V'}, {Name: "a", Type: 'M', Size: 488, Off: 512, Real: 1000},
			{Name: "..", Type: 'M'}, {Name: "../a", Type: 'V'}, {Name: "/", Prefix: "..", Type: 'V'}, {Name: "././@LongLink", Type: 'M', Size: 5}, {Name: "././@LongLink", Type: 'V', Size: 5},
			{Name: "a", Type: 'V', Size: 4001}, {Name: "a", Type: 'M', Size: 4001}, {Name: "a", Type: 'V', Mode: 4096},
		} {
			refuses(t, s, headed(h), 5)
		}
	}
}

// P9.2: headers of long texts

func TestHeadersOfLongTexts(t *testing.T) {
	for _, size := range []int{2, 3, 101, 121, 300, 301} {
		for _, x := range []string{"", "x", "../x", letters(101), letters(300)} {
			takes(t, ahead("", x), ofLong('L', size), naming(size, x))
			takes(t, ahead(x, ""), ofLong('K', size), linking(size, x))
		}
	}
	for _, size := range []int{0, 1, 302, 303, 512, 513, 813, 4000, 1 << 32, 1<<32 + 2, math.MaxInt} {
		for _, x := range []string{"", "x"} {
			refuses(t, ahead("", x), ofLong('L', size), 2)
			refuses(t, ahead(x, ""), ofLong('K', size), 2)
		}
	}
}

func TestASecondLongTextOfOneKind(t *testing.T) {
	for _, x := range []string{"x", letters(101), letters(300)} {
		for _, y := range []string{"", "y", letters(300)} {
			// Whatever else is wrong with the header: what has no place is told first.
			for _, size := range []int{0, 1, 2, 301, 302} {
				refuses(t, ahead(x, y), ofLong('L', size), 5)
				refuses(t, ahead(y, x), ofLong('K', size), 5)
			}
			for _, h := range []api.Head{{Name: "a", Size: 5}, {Name: "././@LongLink", Size: 5, Mode: 1}, {Name: "..", Link: "b"}} {
				h.Type = 'L'
				refuses(t, ahead(x, y), headed(h), 5)
				h.Type = 'K'
				refuses(t, ahead(y, x), headed(h), 5)
			}
		}
	}
}

func TestHeadersOfLongTextsWithAnythingElse(t *testing.T) {
	for _, kind := range []byte{'L', 'K'} {
		for _, h := range []api.Head{
			{Name: "a"}, {Name: "././@LongLin"}, {Name: "././@LongLinkx"}, {Name: "././@LONGLINK"}, {Name: "/././@LongLink"}, {Name: "@LongLink"}, {Name: " "},
			{Name: "././@LongLink", Prefix: "a"}, {Name: "@LongLink", Prefix: "./."}, {Name: "././@LongLink", Link: "b"},
			{Name: "././@LongLink", Mode: 1}, {Name: "././@LongLink", Uid: 1}, {Name: "././@LongLink", Gid: 1}, {Name: "././@LongLink", Mtime: 1},
			{Name: "././@LongLink", Mode: 420}, {Name: "././@LongLink", Mtime: math.MaxInt},
		} {
			for _, size := range []int{1, 2, 5, 301, 302} {
				h.Type, h.Size = kind, size
				refuses(t, ahead("", ""), headed(h), 2)
				if kind == 'L' {
					refuses(t, ahead("", "y"), headed(h), 2)
				} else {
					refuses(t, ahead("x", ""), headed(h), 2)
				}
			}
		}
	}
}

// The blocks that long's Put makes are the ones that are taken.
func TestLongTextsThatArePut(t *testing.T) {
	for _, n := range []int{1, 2, 99, 100, 101, 120, 299, 300} {
		x := letters(n)
		l, ok := long.Put('L', x)
		k, okLink := long.Put('K', x)
		if !ok || !okLink || len(l) != 2 || len(k) != 2 {
			t.Fatalf("long's Put of %d bytes = %q, %t, %q, %t", n, l, ok, k, okLink)
		}
		takes(t, api.State{}, l[0], naming(n+1, ""))
		takes(t, naming(n+1, ""), l[1], ahead(x, ""))
		takes(t, ahead(x, ""), k[0], linking(n+1, x))
		takes(t, linking(n+1, x), k[1], ahead(x, x))
		takes(t, api.State{}, k[0], linking(n+1, ""))
		takes(t, linking(n+1, ""), k[1], ahead("", x))
		takes(t, ahead("", x), l[0], naming(n+1, x))
		takes(t, naming(n+1, x), l[1], ahead(x, x))
	}
}

// P9.2: blocks of long texts

func TestBlocksOfLongTexts(t *testing.T) {
	for _, n := range []int{1, 2, 100, 101, 299, 300} {
		for _, x := range []string{letters(n), strings.Repeat("/", n), strings.Repeat("\xff", n), strings.Repeat(".", n)} {
			for _, other := range []string{"", "y", upper(300)} {
				takes(t, naming(n+1, other), block512(0, x), ahead(x, other))
				takes(t, linking(n+1, other), block512(0, x), ahead(other, x))
			}
		}
	}
}

func TestBlocksThatAreNoLongTexts(t *testing.T) {
	isNone := func(size int, b []byte) {
		t.Helper()
		refuses(t, naming(size, ""), b, 2)
		refuses(t, naming(size, "y"), b, 2)
		refuses(t, linking(size, ""), b, 2)
		refuses(t, linking(size, "x"), b, 2)
	}
	for _, size := range []int{2, 3, 50, 101, 300, 301} {
		x := letters(size - 1)
		isNone(size, noughts())
		// A byte 0 too early.
		isNone(size, block512(0, x[1:]))
		isNone(size, block512(0, x, 0, "\x00"))
		isNone(size, block512(0, x, size/2-1, "\x00"))
		isNone(size, block512(0, x, size-2, "\x00"))
		isNone(size, block512(1, x))
		// None at the end.
		isNone(size, block512(0, letters(size)))
		isNone(size, block512(0, x, size-1, "\x01"))
		isNone(size, block512(0, letters(512)))
		// Another byte behind.
		for _, at := range []int{size, size + 1, 302, 400, 510, 511} {
			isNone(size, block512(0, x, at, "\x01"))
			isNone(size, block512(0, x, at, "x"))
		}
		isNone(size, headed(api.Head{Name: "a", Type: '5'}))
	}
}

// P9.2: a file's bytes

func TestBytesOfAFile(t *testing.T) {
	n := safeFile()
	full := letters(512)
	for _, size := range []int{1, 2, 100, 511, 512} {
		// What stands behind the file's bytes is none of them, whatever it is.
		takes(t, within(n, size, size), block512(0, full), api.State{}, came(full[:size]), over())
		takes(t, within(n, size, size), block512(0, full[:size]), api.State{}, came(full[:size]), over())
		takes(t, within(n, size, size), noughts(), api.State{}, came(strings.Repeat("\x00", size)), over())
		takes(t, within(n, size+512, size), block512(0, full), api.State{}, came(full[:size]), over())
	}
	for _, x := range [][2]int{{513, 513}, {514, 514}, {1023, 1023}, {1024, 1024}, {1025, 1025}, {1025, 513}, {3999, 3999}, {4000, 4000}, {4000, 3488}, {4000, 928}} {
		takes(t, within(n, x[0], x[1]), block512(0, full), within(n, x[0], x[1]-512), came(full))
		takes(t, within(n, x[0], x[1]), noughts(), within(n, x[0], x[1]-512), came(strings.Repeat("\x00", 512)))
		takes(t, within(n, x[0], x[1]), headed(api.Head{Name: "a", Type: '5'}), within(n, x[0], x[1]-512), came(string(headed(api.Head{Name: "a", Type: '5'}))))
	}
	takes(t, within(n, 4000, 416), block512(0, full), api.State{}, came(full[:416]), over())
	takes(t, within(n, 1024, 512), block512(0, full), api.State{}, came(full), over())
	takes(t, within(n, 1025, 1), block512(0, full), api.State{}, came("a"), over())
}

// P9.2: a node's header

// numbered is a header with numbers that a node may have, none of them another one.
func numbered(h api.Head) api.Head {
	h.Mode, h.Uid, h.Gid, h.Mtime = 4095, 1<<40, 1<<40-1, 1<<40-2
	return h
}

// nodeOf is the node of numbered's header.
func nodeOf(n api.Node) api.Node {
	n.Mode, n.Uid, n.Gid, n.Mtime = 4095, 1<<40, 1<<40-1, 1<<40-2
	return n
}

func TestHeadersOfEachKind(t *testing.T) {
	isWhole := func(h api.Head, n api.Node) {
		t.Helper()
		takes(t, api.State{}, headed(h), api.State{}, begun(n), over())
	}
	isWhole(api.Head{Name: "a", Type: '0'}, file("a", ""))
	isWhole(api.Head{Name: "a", Type: '5'}, dir("a"))
	isWhole(api.Head{Name: "a", Link: "b", Type: '1'}, hard("a", "b"))
	isWhole(api.Head{Name: "a", Link: "b", Type: '2'}, sym("a", "b"))
	isWhole(api.Head{Name: "a", Link: "../b", Type: '2'}, sym("a", "../b"))
	isWhole(api.Head{Name: "a", Link: "/", Type: '2'}, sym("a", "/"))
	isWhole(numbered(api.Head{Name: "a", Type: '0'}), nodeOf(file("a", "")))
	isWhole(numbered(api.Head{Name: "a", Type: '5'}), nodeOf(dir("a")))
	isWhole(numbered(api.Head{Name: "a", Link: "b", Type: '2'}), nodeOf(sym("a", "b")))
	for _, h := range []api.Head{{Mode: 1}, {Uid: 1}, {Gid: 1}, {Mtime: 1}} {
		n := file("a", "")
		n.Mode, n.Uid, n.Gid, n.Mtime = h.Mode, h.Uid, h.Gid, h.Mtime
		h.Name, h.Type = "a", '0'
		isWhole(h, n)
	}
	isWhole(api.Head{Name: letters(100), Type: '5'}, dir(letters(100)))
	isWhole(api.Head{Name: "b/c", Prefix: "a", Type: '5'}, dir("a/b/c"))
	isWhole(api.Head{Name: letters(100), Prefix: upper(155), Type: '5'}, dir(upper(155)+"/"+letters(100)))
	isWhole(api.Head{Name: letters(100), Link: upper(100), Type: '1'}, hard(letters(100), upper(100)))
	isWhole(api.Head{Name: letters(100), Link: upper(100), Prefix: "a", Type: '2'}, sym("a/"+letters(100), upper(100)))
	isWhole(api.Head{Name: "a/@LongLink", Type: '0'}, file("a/@LongLink", ""))
}

func TestHeadersOfFiles(t *testing.T) {
	for _, size := range []int{1, 2, 301, 302, 511, 512, 513, 1024, 1025, 3999, 4000} {
		n := nodeOf(file("a/b", ""))
		takes(t, api.State{}, headed(numbered(api.Head{Name: "a/b", Size: size, Type: '0'})), within(n, size, size), begun(n))
		n.Path = upper(300)
		takes(t, ahead(n.Path, ""), headed(numbered(api.Head{Name: upper(100), Size: size, Type: '0'})), within(n, size, size), begun(n))
	}
	for _, size := range []int{4001, 4002, 4096, 4512, 1 << 32, 1<<32 + 1, math.MaxInt - 511, math.MaxInt} {
		refuses(t, api.State{}, headed(api.Head{Name: "a", Size: size, Type: '0'}), 2)
		refuses(t, ahead(upper(101), ""), headed(api.Head{Name: upper(100), Size: size, Type: '0'}), 2)
	}
	for _, size := range []int{1, 2, 512, 4000, 4001, math.MaxInt} {
		refuses(t, api.State{}, headed(api.Head{Name: "a", Size: size, Type: '5'}), 2)
		refuses(t, api.State{}, headed(api.Head{Name: "a", Link: "b", Size: size, Type: '2'}), 2)
		refuses(t, api.State{}, headed(api.Head{Name: "a", Link: "b", Size: size, Type: '1'}), 2)
		refuses(t, ahead(upper(101), letters(101)), headed(api.Head{Name: upper(100), Link: letters(100), Size: size, Type: '2'}), 2)
	}
}

func TestHeadersWithTextsAtHand(t *testing.T) {
	for _, n := range []int{1, 2, 99, 100, 101, 102, 156, 255, 299, 300} {
		x := letters(n)
		first := x[:min(n, 100)]
		takes(t, ahead(x, ""), headed(api.Head{Name: first, Type: '5'}), api.State{}, begun(dir(x)), over())
		takes(t, ahead(x, ""), headed(api.Head{Name: first, Type: '0'}), api.State{}, begun(file(x, "")), over())
		takes(t, ahead(x, ""), headed(api.Head{Name: first, Link: "b", Type: '2'}), api.State{}, begun(sym(x, "b")), over())
		takes(t, ahead(x, ""), headed(api.Head{Name: first, Link: "b", Type: '1'}), api.State{}, begun(hard(x, "b")), over())
		takes(t, ahead("", x), headed(api.Head{Name: "b", Link: first, Type: '2'}), api.State{}, begun(sym("b", x)), over())
		takes(t, ahead("", x), headed(api.Head{Name: "b", Link: first, Type: '1'}), api.State{}, begun(hard("b", x)), over())
		takes(t, ahead("", x), headed(api.Head{Name: "b", Prefix: "a", Link: first, Type: '1'}), api.State{}, begun(hard("a/b", x)), over())
		for _, m := range []int{1, 100, 101, 300} {
			y := upper(m)
			h := api.Head{Name: first, Link: y[:min(m, 100)], Type: '2'}
			takes(t, ahead(x, y), headed(h), api.State{}, begun(sym(x, y)), over())
			h.Type = '1'
			takes(t, ahead(x, y), headed(h), api.State{}, begun(hard(x, y)), over())
		}
	}
	// A link that is long need not be safe, if it is a symbolic one's.
	x := wide("../", 150)
	takes(t, ahead("", x), headed(api.Head{Name: "a", Link: x[:100], Type: '2'}), api.State{}, begun(sym("a", x)), over())
	refuses(t, ahead("", x), headed(api.Head{Name: "a", Link: x[:100], Type: '1'}), 2)
}

func TestHeadersThatAreNoTextsBeginning(t *testing.T) {
	for _, n := range []int{1, 2, 99, 100, 101, 102, 200, 300} {
		x := letters(n)
		first := x[:min(n, 100)]
		var others []string
		for _, y := range []string{"x", upper(n), "b" + letters(99), first[:len(first)-1], first[:len(first)-1] + "X", "X" + first[1:], x[n-min(n, 100):], letters(n + 1), letters(100), letters(99), "././@LongLink"} {
			if y = y[:min(len(y), 100)]; y != "" && y != first {
				others = append(others, y)
			}
		}
		for _, y := range others {
			refuses(t, ahead(x, ""), headed(api.Head{Name: y, Type: '5'}), 2)
			refuses(t, ahead(x, ""), headed(api.Head{Name: y, Type: '0', Size: 5}), 2)
			refuses(t, ahead("", x), headed(api.Head{Name: "a", Link: y, Type: '2'}), 2)
			refuses(t, ahead("", x), headed(api.Head{Name: "a", Link: y, Type: '1'}), 2)
			refuses(t, ahead(x, x), headed(api.Head{Name: first, Link: y, Type: '2'}), 2)
			refuses(t, ahead(x, x), headed(api.Head{Name: y, Link: first, Type: '2'}), 2)
		}
		refuses(t, ahead("", x), headed(api.Head{Name: "a", Type: '2'}), 2)
		refuses(t, ahead("", x), headed(api.Head{Name: "a", Type: '5'}), 2)
		refuses(t, ahead("", x), headed(api.Head{Name: "a", Type: '0'}), 2)
		refuses(t, ahead(x, ""), headed(api.Head{Name: first, Prefix: "p", Type: '5'}), 2)
		refuses(t, ahead(x, ""), headed(api.Head{Name: first, Prefix: x[:min(n, 155)], Type: '5'}), 2)
	}
	// A prefix and a name that are the long name's beginning only together.
	refuses(t, ahead("a/b", ""), headed(api.Head{Name: "b", Prefix: "a", Type: '5'}), 2)
	refuses(t, ahead(wide("a/b", 300), ""), headed(api.Head{Name: wide("a/b", 100)[2:], Prefix: "a", Type: '5'}), 2)
}

func TestPathsThatAreNotSafe(t *testing.T) {
	for _, p := range []string{"/", "/a", "a/", "a//b", ".", "..", "./a", "../a", "a/.", "a/..", "a/./b", "a/../b", "a/b/..", "././@LongLink"} {
		for _, h := range []api.Head{{Type: '5'}, {Type: '0'}, {Type: '0', Size: 5}, {Type: '2', Link: "b"}, {Type: '1', Link: "b"}, numbered(api.Head{Type: '0'})} {
			h.Name = p
			refuses(t, api.State{}, headed(h), 6)
			refuses(t, ahead(p, ""), headed(h), 6)
			h.Prefix = "p"
			refuses(t, api.State{}, headed(h), 6)
			h.Name, h.Prefix = "n", p
			refuses(t, api.State{}, headed(h), 6)
		}
	}
	for _, p := range []string{wide("../", 300), wide("/", 101), wide("a//", 200), letters(150) + "/..", letters(101) + "/", letters(101) + "/./b", letters(120) + "//" + letters(120)} {
		refuses(t, ahead(p, ""), headed(api.Head{Name: p[:100], Type: '5'}), 6)
		refuses(t, ahead(p, ""), headed(api.Head{Name: p[:100], Type: '0', Size: 4000}), 6)
		refuses(t, ahead(p, letters(101)), headed(api.Head{Name: p[:100], Link: letters(100), Type: '2'}), 6)
	}
}

func TestNodesThatMayNotBeAlone(t *testing.T) {
	for _, h := range []api.Head{
		{Type: '0', Link: "b"}, {Type: '0', Link: "b", Size: 5}, {Type: '5', Link: "b"}, {Type: '2'}, {Type: '1'},
		{Type: '1', Link: ".."}, {Type: '1', Link: "/b"}, {Type: '1', Link: "b/"}, {Type: '1', Link: "b/../c"},
		{Type: '1', Link: "b", Mode: 1}, {Type: '1', Link: "b", Uid: 1}, {Type: '1', Link: "b", Gid: 1}, {Type: '1', Link: "b", Mtime: 1},
	} {
		h.Name = "a"
		refuses(t, api.State{}, headed(h), 2)
		h.Prefix = "p"
		refuses(t, api.State{}, headed(h), 2)
	}
	for _, kind := range []byte{'0', '2', '5'} {
		for _, h := range []api.Head{{Mode: 4096}, {Mode: 1 << 40}, {Uid: 1<<40 + 1}, {Gid: 1<<40 + 1}, {Mtime: 1<<40 + 1}, {Uid: 1 << 50}, {Mtime: math.MaxInt}} {
			h.Name, h.Type = "a", kind
			if kind == '2' {
				h.Link = "b"
			}
			refuses(t, api.State{}, headed(h), 2)
		}
	}
	// A long link of what has none.
	x := letters(101)
	for _, kind := range []byte{'0', '5'} {
		refuses(t, ahead("", x), headed(api.Head{Name: "a", Link: x[:100], Type: kind}), 2)
		refuses(t, ahead(x, x), headed(api.Head{Name: x[:100], Link: x[:100], Type: kind}), 2)
	}
}

// P9.2: which error is told first

func TestWhichErrorIsToldFirst(t *testing.T) {
	x, bad := letters(101), wide("../", 101)
	for _, c := range []struct {
		s api.State
		b []byte
		e api.Errno
	}{
		// What may not be, ahead of the end.
		{ended(), noughts()[:511], 1},
		{api.State{Phase: 5, Name: "x"}, noughts(), 1},
		{api.State{Phase: 4, Size: 1}, block512(0, "x"), 1},
		// The header's own error, ahead of what its type would be told of.
		{ahead("", ""), append(headed(api.Head{Name: "a", Type: 'M'})[:511], 1), 3},
		// The type, ahead of the form and of the name.
		{ahead(x, ""), ofLong('L', 1), 5},
		{ahead("", x), headed(api.Head{Name: "..", Type: 'K'}), 5},
		{ahead(x, x), headed(api.Head{Name: "..", Type: 'M'}), 5},
		{ahead(x, x), headed(api.Head{Name: "..", Prefix: "p", Type: 'V'}), 5},
		// A beginning that is another one, ahead of a name that is not safe.
		{ahead(x, ""), headed(api.Head{Name: "..", Type: '5'}), 2},
		{ahead(bad, ""), headed(api.Head{Name: "a", Type: '5'}), 2},
		{ahead(bad, ""), headed(api.Head{Name: bad[:100], Prefix: "p", Type: '5'}), 2},
		{ahead("", x), headed(api.Head{Name: "..", Link: "b", Type: '2'}), 2},
		{ahead("", x), headed(api.Head{Name: "..", Type: '2'}), 2},
		{ahead(bad, x), headed(api.Head{Name: bad[:100], Link: "b", Type: '2'}), 2},
		// A name that is not safe, ahead of what may not be alone, and of sizes.
		{ahead("", ""), headed(api.Head{Name: "..", Type: '2'}), 6},
		{ahead("", ""), headed(api.Head{Name: "..", Type: '0', Link: "b"}), 6},
		{ahead("", ""), headed(api.Head{Name: "..", Type: '0', Mode: 4096}), 6},
		{ahead("", ""), headed(api.Head{Name: "..", Type: '0', Size: 4001}), 6},
		{ahead("", ""), headed(api.Head{Name: "..", Type: '5', Size: 1}), 6},
		{ahead("", ""), headed(api.Head{Name: "a", Prefix: "..", Type: '1', Link: "..", Mode: 1, Size: 1}), 6},
		{ahead(bad, ""), headed(api.Head{Name: bad[:100], Type: '0', Size: 4001}), 6},
		{ahead(bad, bad), headed(api.Head{Name: bad[:100], Link: bad[:100], Type: '1', Size: 1}), 6},
	} {
		refuses(t, c.s, c.b, c.e)
	}
}

// P9.3: Run

// wholeTree is a tree of all kinds and about all edges, and how many blocks each of its nodes takes.
func wholeTree() ([]api.Node, []int) {
	folder, target := wide("F", 101), wide("E", 299)
	list := []api.Node{
		sym(wide("A", 150), upper(101)),
		dir("B"),
		file("B/a", ""),
		file("B/b", letters(1)),
		file("B/c", letters(511)),
		file("B/d", letters(512)),
		file("B/e", letters(513)),
		file("B/f", letters(1024)),
		file("B/g", letters(4000)),
		file("B/h", strings.Repeat("\x00", 1025)),
		hard("B/i", "B/h"),
		sym("B/j", "../.."),
		sym("B/k", upper(300)),
		file(target, upper(513)),
		dir(folder),
		hard(folder+"/a", target),
		file(wide(folder+"/b", 202), ""),
	}
	list[2] = nodeOf(list[2])
	list[8].Mode, list[8].Uid, list[8].Gid, list[8].Mtime = 420, 1000, 100, 1700000000
	return list, []int{5, 1, 1, 2, 2, 2, 3, 3, 9, 4, 1, 1, 3, 5, 3, 3, 1}
}

// toldOf is all that is told of a tree, block by block: those of the nodes, and two behind.
func toldOf(list []api.Node, many []int) [][]api.Ev {
	var all [][]api.Ev
	for i, n := range list {
		data := (len(n.Data) + 511) / 512
		for range many[i] - 1 - data {
			all = append(all, nil)
		}
		first := []api.Ev{begun(bare(n))}
		if n.Data == "" {
			first = append(first, over())
		}
		all = append(all, first)
		for rest := n.Data; rest != ""; rest = rest[min(len(rest), 512):] {
			some := []api.Ev{came(rest[:min(len(rest), 512)])}
			if len(rest) <= 512 {
				some = append(some, over())
			}
			all = append(all, some)
		}
	}
	return append(all, nil, nil)
}

// wholeStream is the stream of that tree, and what is told of it, block by block.
func wholeStream(t *testing.T) ([][]byte, [][]api.Ev) {
	t.Helper()
	list, many := wholeTree()
	l, ok := stream.All(list)
	told := toldOf(list, many)
	if !ok || len(l) != len(told) || len(l) != 51 {
		t.Fatalf("the stream has %d blocks, %t; want %d", len(l), ok, len(told))
	}
	return l, told
}

func TestAWholeStreamBlockByBlock(t *testing.T) {
	l, told := wholeStream(t)
	s := api.State{}
	for i, b := range l {
		next, evs, e := Step(s, b)
		if e != 0 || !slices.Equal(evs, told[i]) {
			t.Errorf("Step of block %d tells %s, %d; want %s", i, showAll(evs), e, showAll(told[i]))
		}
		if !May(next) {
			t.Errorf("Step of block %d leads to %s", i, show(next))
		}
		if (next.Phase == 4) != (i == len(l)-2) || (next.Phase == 5) != (i == len(l)-1) {
			t.Errorf("Step of block %d of %d leads to %s", i, len(l), show(next))
		}
		s = next
	}
}

func TestAWholeStreamAtOnce(t *testing.T) {
	l, told := wholeStream(t)
	all := slices.Concat(told...)
	isRun(t, api.State{}, l, ended(), all, len(l), 0)
	for _, behind := range [][]byte{noughts(), block512(0, "x"), nil, l[0]} {
		// What stands behind the end is not taken, and is no error.
		isRun(t, api.State{}, append(slices.Clone(l), behind), ended(), all, len(l), 0)
		isRun(t, api.State{}, append(slices.Clone(l), behind, behind, behind), ended(), all, len(l), 0)
	}
}

// states are the states ahead of each block of a stream, and behind all.
func states(t *testing.T, l [][]byte) []api.State {
	t.Helper()
	list := []api.State{{}}
	for i, b := range l {
		next, _, e := Step(list[i], b)
		if e != 0 {
			t.Fatalf("Step of block %d has the error %d", i, e)
		}
		list = append(list, next)
	}
	return list
}

func TestRunOfAnyPieceOfAStream(t *testing.T) {
	l, told := wholeStream(t)
	at := states(t, l)
	for i := range len(l) + 1 {
		for j := i; j <= len(l); j++ {
			isRun(t, at[i], l[i:j], at[j], slices.Concat(told[i:j]...), j-i, 0)
		}
	}
}

func TestRunUpToABlockThatHasAnError(t *testing.T) {
	l, told := wholeStream(t)
	at := states(t, l)
	for i := range l {
		for _, b := range [][]byte{nil, {}, l[i][:511], append(slices.Clone(l[i]), 0)} {
			m := slices.Clone(l)
			m[i] = b
			isRun(t, api.State{}, m, at[i], slices.Concat(told[:i]...), i, 1)
			isRun(t, at[i], m[i:], at[i], nil, 0, 1)
		}
		m := slices.Clone(l)
		m[i] = block512(0, "x", 500, "y")
		switch at[i].Phase {
		case 0:
			isRun(t, api.State{}, m, at[i], slices.Concat(told[:i]...), i, 3)
		case 1, 2, 4:
			isRun(t, api.State{}, m, at[i], slices.Concat(told[:i]...), i, 2)
		}
		// A block of noughts between two nodes is taken: the one behind it is not.
		if at[i] == (api.State{}) && i < len(l)-2 {
			isRun(t, api.State{}, slices.Insert(slices.Clone(l), i, noughts()), oneNought(), slices.Concat(told[:i]...), i+1, 2)
		}
	}
}

func TestRunOfNoBlocks(t *testing.T) {
	for _, s := range slices.Concat(mayStates(), mayNotStates()) {
		// No block is asked, so no error is told, either.
		isRun(t, s, nil, s, nil, 0, 0)
		isRun(t, s, [][]byte{}, s, nil, 0, 0)
	}
}

func TestRunFromTheEnd(t *testing.T) {
	isRun(t, ended(), [][]byte{noughts()}, ended(), nil, 0, 17)
	isRun(t, ended(), [][]byte{noughts(), noughts()}, ended(), nil, 0, 17)
	isRun(t, ended(), [][]byte{block512(0, "x"), nil}, ended(), nil, 0, 17)
	isRun(t, ended(), [][]byte{headed(api.Head{Name: "a", Type: '5'})}, ended(), nil, 0, 17)
	isRun(t, ended(), [][]byte{nil, noughts()}, ended(), nil, 0, 1)
	isRun(t, ended(), [][]byte{noughts()[:511]}, ended(), nil, 0, 1)
	isRun(t, ended(), [][]byte{make([]byte, 513)}, ended(), nil, 0, 1)
}

func TestRunOfNoughts(t *testing.T) {
	for many := range 6 {
		l := make([][]byte, many)
		for i := range l {
			l[i] = noughts()
		}
		switch many {
		case 0:
			isRun(t, api.State{}, l, api.State{}, nil, 0, 0)
		case 1:
			isRun(t, api.State{}, l, oneNought(), nil, 1, 0)
		default:
			isRun(t, api.State{}, l, ended(), nil, 2, 0)
			isRun(t, oneNought(), l, ended(), nil, 1, 0)
		}
	}
	isRun(t, api.State{}, block.Zeros(2), ended(), nil, 2, 0)
	isRun(t, ahead("x", ""), block.Zeros(2), ahead("x", ""), nil, 0, 2)
	isRun(t, api.State{}, [][]byte{noughts(), headed(api.Head{Name: "a", Type: '5'}), noughts(), noughts()}, oneNought(), nil, 1, 2)
}

// One block of noughts between two nodes, or two of them.
func TestRunOfNoughtsBetweenNodes(t *testing.T) {
	a, b := headed(api.Head{Name: "a", Type: '5'}), headed(api.Head{Name: "b", Type: '0', Size: 1})
	told := []api.Ev{begun(dir("a")), over()}
	isRun(t, api.State{}, [][]byte{a, noughts(), b}, oneNought(), told, 2, 2)
	isRun(t, api.State{}, [][]byte{a, noughts(), b, noughts(), noughts()}, oneNought(), told, 2, 2)
	isRun(t, api.State{}, [][]byte{a, noughts(), noughts(), b}, ended(), told, 3, 0)
	// Noughts that are a file's bytes are none that end.
	isRun(t, api.State{}, [][]byte{b, noughts(), noughts(), noughts(), a}, ended(), []api.Ev{begun(file("b", "")), came("\x00"), over()}, 4, 0)
	isRun(t, api.State{}, [][]byte{b, noughts(), a}, api.State{}, []api.Ev{begun(file("b", "")), came("\x00"), over(), begun(dir("a")), over()}, 3, 0)
}

func TestRunOfStatesThatMayNotBe(t *testing.T) {
	for _, s := range mayNotStates() {
		isRun(t, s, [][]byte{noughts()}, s, nil, 0, 1)
		isRun(t, s, [][]byte{headed(api.Head{Name: "a", Type: '5'}), noughts(), noughts()}, s, nil, 0, 1)
		isRun(t, s, [][]byte{nil}, s, nil, 0, 1)
	}
}

// Paths need not rise, nor must their parents be there: that is no part of this layer.
func TestRunOfNodesThatAreNoTree(t *testing.T) {
	h := headed(api.Head{Name: "b/c", Type: '5'})
	told := []api.Ev{begun(dir("b/c")), over()}
	isRun(t, api.State{}, [][]byte{h, h, h}, api.State{}, slices.Concat(told, told, told), 3, 0)
	l := headed(api.Head{Name: "x", Link: "nowhere", Type: '1'})
	isRun(t, api.State{}, [][]byte{l}, api.State{}, []api.Ev{begun(hard("x", "nowhere")), over()}, 1, 0)
}

func TestRunOfMoreNodesThanATreeHas(t *testing.T) {
	var l [][]byte
	var told []api.Ev
	for i := range 500 {
		p := fmt.Sprint("n", i)
		l = append(l, headed(api.Head{Name: p, Type: '0', Size: 1}), block512(0, "x"))
		told = append(told, begun(file(p, "")), came("x"), over())
	}
	isRun(t, api.State{}, l, api.State{}, told, 1000, 0)
}

// The long name ahead of the long link, and the other way round.
func TestLongTextsInEitherOrder(t *testing.T) {
	x, y := letters(120), upper(300)
	name, _ := long.Put('L', x)
	link, _ := long.Put('K', y)
	h := headed(api.Head{Name: x[:100], Link: y[:100], Type: '2'})
	told := []api.Ev{begun(sym(x, y)), over()}
	isRun(t, api.State{}, slices.Concat(name, link, [][]byte{h}), api.State{}, told, 5, 0)
	isRun(t, api.State{}, slices.Concat(link, name, [][]byte{h}), api.State{}, told, 5, 0)
	isRun(t, api.State{}, slices.Concat(link, name, link, [][]byte{h}), ahead(x, y), nil, 4, 5)
	isRun(t, api.State{}, slices.Concat(name, name, [][]byte{h}), ahead(x, ""), nil, 2, 5)
	isRun(t, api.State{}, slices.Concat(name, [][]byte{name[0]}), ahead(x, ""), nil, 2, 5)
	// Nothing of them is at hand any more, when the node is over.
	next := headed(api.Head{Name: "z", Type: '5'})
	isRun(t, api.State{}, slices.Concat(link, name, [][]byte{h, next}), api.State{}, append(slices.Clone(told), begun(dir("z")), over()), 6, 0)
	isRun(t, api.State{}, slices.Concat(link, name, [][]byte{h, noughts(), noughts()}), ended(), told, 7, 0)
	isRun(t, api.State{}, slices.Concat(link, [][]byte{noughts()}), ahead("", y), nil, 2, 2)
	isRun(t, api.State{}, slices.Concat(name, link, [][]byte{noughts()}), ahead(x, y), nil, 4, 2)
}

// The bytes are written out here, with the sums that they have.
func TestAStreamThatIsWrittenOut(t *testing.T) {
	a, b := dir("a"), file("a/b", "")
	a.Mode, a.Uid, a.Gid, a.Mtime = 493, 1000, 100, 1700000000
	b.Mode, b.Uid, b.Gid, b.Mtime = 420, 1000, 100, 1700000001
	x := strings.Repeat("n", 120)
	l := [][]byte{
		block512(0, "a", 100, "0000755\x000001750\x000000144\x0000000000000\x0014524770400\x00006176\x00 5", 257, "ustar\x0000"),
		block512(0, "a/b", 100, "0000644\x000001750\x000000144\x0000000000005\x0014524770401\x00006415\x00 0", 257, "ustar\x0000"),
		block512(0, "bytes"),
		block512(0, "././@LongLink", 100, "0000000\x000000000\x000000000\x0000000000171\x0000000000000\x00010014\x00 L", 257, "ustar\x0000"),
		block512(0, x),
		block512(0, x[:100], 100, "0000000\x000000000\x000000000\x0000000000000\x0000000000000\x00033672\x00 1a/b", 257, "ustar\x0000"),
		noughts(),
		noughts(),
	}
	for i, b := range l[:6] {
		if i != 2 && i != 4 && fmt.Sprintf("%06o\x00 ", head.Sum(b)) != string(b[148:156]) {
			t.Errorf("block %d has the sum %06o", i, head.Sum(b))
		}
	}
	told := []api.Ev{begun(a), over(), begun(b), came("bytes"), over(), begun(hard(x, "a/b")), over()}
	isRun(t, api.State{}, l, ended(), told, 8, 0)
	l[4][120] = 'n'
	isRun(t, api.State{}, l, naming(121, ""), told[:5], 4, 2)
}

// P9.4: what follows, and all of it against a model

// model is Step by the chapter's words, written another way.
func model(s api.State, b []byte) (api.State, []api.Ev, api.Errno) {
	fails := func(e api.Errno) (api.State, []api.Ev, api.Errno) { return s, nil, e }
	if !wantMay(s) || len(b) != 512 {
		return fails(1)
	}
	if s.Phase == 5 {
		return fails(17)
	}
	text := string(b)
	isNought := strings.Trim(text, "\x00") == ""
	if s.Phase == 4 {
		if !isNought {
			return fails(2)
		}
		return ended(), nil, 0
	}
	if s.Phase == 1 || s.Phase == 2 {
		x := strings.TrimRight(text, "\x00")
		if len(x) != s.Size-1 || strings.Contains(x, "\x00") {
			return fails(2)
		}
		if s.Phase == 1 {
			return ahead(x, s.Link), nil, 0
		}
		return ahead(s.Name, x), nil, 0
	}
	if s.Phase == 3 {
		if s.Left <= 512 {
			return api.State{}, []api.Ev{came(text[:s.Left]), over()}, 0
		}
		return within(s.Node, s.Size, s.Left-512), []api.Ev{came(text)}, 0
	}
	return modelHeader(s, b, fails)
}

// modelHeader is what a model does of a state to which a header comes.
func modelHeader(s api.State, b []byte, fails func(api.Errno) (api.State, []api.Ev, api.Errno)) (api.State, []api.Ev, api.Errno) {
	h, e := head.Get(b)
	if e == 4 {
		if len(s.Name)+len(s.Link) > 0 {
			return fails(2)
		}
		return oneNought(), nil, 0
	}
	if e != 0 {
		return fails(e)
	}
	if strings.IndexByte("MV", h.Type) >= 0 || h.Type == 'L' && s.Name != "" || h.Type == 'K' && s.Link != "" {
		return fails(5)
	}
	if h.Type == 'L' || h.Type == 'K' {
		if h.Size < 2 || h.Size > 301 || !bytes.Equal(b, ofLong(h.Type, h.Size)) {
			return fails(2)
		}
		if h.Type == 'L' {
			return naming(h.Size, s.Link), nil, 0
		}
		return linking(h.Size, s.Name), nil, 0
	}
	n := api.Node{Path: h.Name, Link: h.Link, Kind: h.Type, Mode: h.Mode, Uid: h.Uid, Gid: h.Gid, Mtime: h.Mtime}
	if h.Prefix != "" {
		n.Path = h.Prefix + "/" + h.Name
	}
	if s.Name != "" {
		if n.Path != h.Name || (s.Name + strings.Repeat("\x00", 100))[:100] != (h.Name + strings.Repeat("\x00", 100))[:100] {
			return fails(2)
		}
		n.Path = s.Name
	}
	if s.Link != "" {
		if len(h.Link) < 100 && h.Link != s.Link || !strings.HasPrefix(s.Link, h.Link) {
			return fails(2)
		}
		n.Link = s.Link
	}
	if !path.May(n.Path) {
		return fails(6)
	}
	n.Data = strings.Repeat("x", min(h.Size, 4001))
	if !tree.One(n) {
		return fails(2)
	}
	if n = bare(n); h.Size > 0 {
		return within(n, h.Size, h.Size), []api.Ev{begun(n)}, 0
	}
	return api.State{}, []api.Ev{begun(n), over()}, 0
}

// isModel holds Step of one block against the model.
func isModel(t *testing.T, s api.State, b []byte) api.Errno {
	t.Helper()
	next, told, e := model(s, b)
	isStep(t, s, b, next, told, e)
	return e
}

// pick is one of a list, by chance.
func pick[T any](r *rand.Rand, list ...T) T {
	return list[r.Intn(len(list))]
}

// randomText is a text of a length about an edge, at times with something in it that is not safe.
func randomText(r *rand.Rand) string {
	n := pick(r, 1, 2, 5, 99, 100, 101, 120, 155, 299, 300)
	x := []byte(pick(r, letters(n), upper(n)))
	for r.Intn(4) == 0 {
		copy(x[r.Intn(n):], pick(r, "/", "//", "/../", "/.", "\xff"))
	}
	return string(x)
}

// randomHead is a header of any type, mostly one that something is told of.
func randomHead(r *rand.Rand) api.Head {
	cut := func(x string, n int) string { return x[:min(len(x), n)] }
	h := api.Head{Name: cut(randomText(r), 100), Type: pick[byte](r, '0', '0', '0', '1', '2', '5', 'K', 'L', 'M', 'V')}
	switch h.Type {
	case '1', '2':
		h.Link = cut(randomText(r), 100)
	case 'K', 'L':
		h.Name, h.Size = "././@LongLink", pick(r, 1, 2, 3, 6, 100, 101, 102, 121, 300, 301, 302)
	case '0':
		h.Size = pick(r, 0, 1, 511, 512, 513, 1024, 3999, 4000, 4001)
	}
	if h.Type != 'K' && h.Type != 'L' && h.Type != 'M' && r.Intn(4) == 0 {
		h.Prefix = cut(randomText(r), 155)
	}
	for r.Intn(6) == 0 {
		*pick(r, &h.Mode, &h.Uid, &h.Gid, &h.Mtime, &h.Size) = pick(r, 0, 1, 4095, 4096, 1<<40, 1<<40+1)
	}
	if r.Intn(20) == 0 {
		h.Link = cut(randomText(r), 100)
	}
	return h
}

// fitting is a block that s may well take.
func fitting(r *rand.Rand, s api.State) []byte {
	switch s.Phase {
	case 1, 2:
		x := (randomText(r) + letters(300))[:max(0, min(300, s.Size-1))]
		return block512(0, x)
	case 0:
		if r.Intn(8) == 0 {
			return noughts()
		}
		h := randomHead(r)
		if s.Name != "" && r.Intn(8) > 0 {
			h.Name, h.Prefix = s.Name[:min(len(s.Name), 100)], ""
		}
		if s.Link != "" && r.Intn(8) > 0 {
			h.Link = s.Link[:min(len(s.Link), 100)]
		}
		if b, ok := head.Put(h); ok {
			return b
		}
	}
	return block512(0, letters(r.Intn(513)), r.Intn(512), upper(r.Intn(100)))
}

// randomBlock is a block that fits, or is spoilt in some way.
func randomBlock(r *rand.Rand, s api.State) []byte {
	b := fitting(r, s)
	switch r.Intn(24) {
	case 0:
		b[r.Intn(512)] ^= byte(1 + r.Intn(255))
	case 1:
		b[r.Intn(512)] ^= byte(1 + r.Intn(255))
		return summed(b)
	case 2:
		return noughts()
	case 3:
		return b[:r.Intn(512)]
	case 4:
		return append(b, 0)
	case 5:
		return headed(api.Head{Name: "a", Type: '5'})
	}
	return b
}

// randomState is a state that may be, or one that is near to such ones.
func randomState(r *rand.Rand) api.State {
	if r.Intn(8) == 0 {
		return pick(r, mayNotStates()...)
	}
	switch r.Intn(8) {
	case 0:
		return naming(pick(r, 2, 3, 101, 102, 300, 301), pick(r, "", "y", letters(300)))
	case 1:
		return linking(pick(r, 2, 3, 101, 102, 300, 301), pick(r, "", "x", letters(300)))
	case 2:
		size := 1 + r.Intn(4000)
		return within(nodeOf(file("a", "")), size, size-512*r.Intn((size+511)/512))
	case 3:
		return pick(r, oneNought(), ended())
	case 4:
		return ahead(randomText(r), randomText(r))
	case 5:
		return pick(r, ahead(randomText(r), ""), ahead("", randomText(r)))
	}
	return api.State{}
}

func TestAllSortsOfSteps(t *testing.T) {
	r := rand.New(rand.NewSource(9))
	counts := map[api.Errno]int{}
	for range 60000 {
		s := randomState(r)
		counts[isModel(t, s, randomBlock(r, s))]++
	}
	for _, e := range []api.Errno{0, 1, 2, 3, 5, 6, 17} {
		if counts[e] < 300 {
			t.Errorf("only %d steps have the error %d", counts[e], e)
		}
	}
}

// watch is what is told, held against P9.4.
type watch struct {
	left        int
	open        bool
	nodes, ends int
}

// see takes what was told of a step that has led to next.
func (w *watch) see(t *testing.T, told []api.Ev, next api.State) {
	t.Helper()
	for _, e := range told {
		switch e.Kind {
		case 0:
			if w.open || !path.May(e.Node.Path) || !tree.One(e.Node) || e.Node.Data != "" || e.Data != "" {
				t.Errorf("told: a node %s, %q", showNode(e.Node), e.Data)
			}
			w.open, w.left = true, next.Size
			w.nodes++
		case 1:
			if !w.open || e.Data == "" || len(e.Data) > 512 || e.Node != (api.Node{}) {
				t.Errorf("told: bytes %s of %s", short(e.Data), showNode(e.Node))
			}
			w.left -= len(e.Data)
		case 2:
			if !w.open || w.left != 0 || e != over() {
				t.Errorf("told: a node is over, with %d bytes left", w.left)
			}
			w.open = false
			w.ends++
		default:
			t.Errorf("told: %#v", e)
		}
	}
	if (next.Phase == 3) != w.open || next.Phase == 3 && next.Left != w.left {
		t.Errorf("it is %s, with %d bytes left", show(next), w.left)
	}
}

func TestAllSortsOfStreams(t *testing.T) {
	r := rand.New(rand.NewSource(94))
	nodes, ends, fails := 0, 0, 0
	for range 2500 {
		var w watch
		var l [][]byte
		var all []api.Ev
		s := api.State{}
		for range r.Intn(60) {
			b := randomBlock(r, s)
			l = append(l, b)
			next, told, e := Step(s, b)
			isModel(t, s, b)
			if e != 0 {
				isRun(t, api.State{}, l, s, all, len(l)-1, e)
				fails++
				l = l[:len(l)-1]
				continue
			}
			w.see(t, told, next)
			s, all = next, append(all, told...)
			if !May(s) {
				t.Errorf("what may be has led to %s", show(s))
			}
			if s.Phase == 5 {
				break
			}
		}
		isRun(t, api.State{}, l, s, all, len(l), 0)
		nodes, ends = nodes+w.nodes, ends+w.ends
	}
	if nodes < 2000 || ends < 2000 || fails < 2000 {
		t.Errorf("only %d nodes, %d ends and %d errors", nodes, ends, fails)
	}
}

// One byte more, or another one, in a stream that is read: what is told is still of safe names, and of so many bytes.
func TestStreamsOfWhichABlockIsAnotherOne(t *testing.T) {
	l, _ := wholeStream(t)
	at := states(t, l)
	r := rand.New(rand.NewSource(95))
	for i := range l {
		for range 60 {
			b := slices.Clone(l[i])
			b[r.Intn(512)] ^= byte(1 + r.Intn(255))
			isModel(t, at[i], b)
			isModel(t, at[i], summed(b))
		}
		for j := range l {
			isModel(t, at[i], l[j])
		}
	}
}

// R3

func TestAnswersAreNewMemory(t *testing.T) {
	n := file("a", "")
	h, b := headed(api.Head{Name: "a", Size: 513, Type: '0'}), block512(0, letters(512))
	l := [][]byte{h, b, block512(0, "z"), noughts(), noughts()}
	want := []api.Ev{begun(n), came(letters(512)), came("z"), over()}
	s, told, _, _ := Run(api.State{}, l)
	text, evs, _ := Step(naming(101, ""), block512(0, letters(100)))
	for _, x := range l {
		for i := range x {
			x[i] = '!'
		}
	}
	if s != ended() || !slices.Equal(told, want) || text.Name != letters(100) || len(evs) != 0 {
		t.Errorf("what was told changes with the blocks: %s", showAll(told))
	}
	a := block512(0, letters(512))
	_, first, _ := Step(within(n, 4000, 4000), a)
	_, second, _ := Step(within(n, 4000, 4000), a)
	first[0].Data = "other"
	_ = append(first[:0], over(), over(), over())
	if !slices.Equal(second, []api.Ev{came(letters(512))}) {
		t.Errorf("what was told changes with what was told before: %s", showAll(second))
	}
}

func TestWhatIsHandedInStays(t *testing.T) {
	l, _ := wholeStream(t)
	at := states(t, l)
	l = append(l, noughts(), block512(0, "x"), nil, make([]byte, 513))
	was := make([][]byte, len(l))
	for i, b := range l {
		was[i] = bytes.Clone(b)
	}
	Run(api.State{}, l)
	for i, s := range at {
		Step(s, l[i])
		Run(s, l[i:])
		Run(s, l[i+1:])
	}
	for i := range l {
		if !bytes.Equal(l[i], was[i]) {
			t.Errorf("block %d has changed", i)
		}
	}
	a, b := []api.Ev{begun(safeFile()), over()}, []api.Ev{begun(safeFile()), came("x")}
	Same(a, b)
	Same(a[:1], b[:1])
	if a[0] != begun(safeFile()) || a[1] != over() || b[0] != a[0] || b[1] != came("x") {
		t.Error("Same changes what it is given")
	}
}

// R5

func TestTheSameAgainWhateverWasAsked(t *testing.T) {
	l, told := wholeStream(t)
	all := slices.Concat(told...)
	for _, s := range []api.State{{}, ahead("x", "y"), naming(2, "y"), linking(301, "x"), within(safeFile(), 513, 1), oneNought(), ended(), {Phase: 6}} {
		isRun(t, api.State{}, l, ended(), all, len(l), 0)
		Run(s, l)
		Step(s, l[3])
		isRun(t, api.State{}, l, ended(), all, len(l), 0)
	}
}
