package dots

import (
	"slices"
	"strings"
	"testing"

	"sennit/brief"
	"sennit/every"
	"sennit/lines"
)

// texts begin with points, are points, or look like these; not all of them are lines.
var texts = []string{"", ".", ".\n", "..\n", ".a\n", "a\n", "a.\n", "\n", ".\r\n", " .\n", ".\n.\n", "\n.\n"}

func checkBlock(t *testing.T, text, want []string, dotted bool) {
	t.Helper()
	if got, is := Block(text); !slices.Equal(got, want) || is != dotted {
		t.Fatalf("%q: %q, %v, want %q, %v", text, got, is, want, dotted)
	}
}

func checkUnblock(t *testing.T, l, want []string, took int) {
	t.Helper()
	if got, n := Unblock(l); !slices.Equal(got, want) || n != took {
		t.Fatalf("%q: %q, %d, want %q, %d", l, got, n, want, took)
	}
}

func checkStrip(t *testing.T, text, want []string, dotted bool) {
	t.Helper()
	if got, was := Strip(text); !slices.Equal(got, want) || was != dotted {
		t.Fatalf("%q: %q, %v, want %q, %v", text, got, was, want, dotted)
	}
}

// checkThereAndBack holds P15.3 of a text, and of what stands behind its block.
func checkThereAndBack(t *testing.T, text, behind []string) {
	t.Helper()
	block, dotted := Block(text)
	checkUnblock(t, slices.Concat(block, behind), block[:len(block)-1], len(block))
	got, _ := Unblock(slices.Concat(block, behind))
	if dotted {
		checkStrip(t, got, text, true)
	} else if !slices.Equal(got, text) {
		t.Fatalf("%q has no point, but is handed over as %q", text, got)
	}
}

// beginsByWords tells whether the first byte is a point.
func beginsByWords(text string) bool {
	return len(text) > 0 && text[0] == 0x2e
}

// blockByWords is P15.1, word by word, from the last text back.
func blockByWords(text []string) ([]string, bool) {
	block := []string{"\x2e\x0a"}
	for _, line := range slices.Backward(text) {
		if beginsByWords(line) {
			line = "\x2e" + line
		}
		block = slices.Insert(block, 0, line)
	}
	return block, slices.ContainsFunc(text, beginsByWords)
}

// unblockByWords is what P15.2 says of Unblock, word by word, from the last text back.
func unblockByWords(l []string) ([]string, int) {
	var ahead []string
	took := 0
	for at, line := range slices.Backward(l) {
		if len(line) == 2 && line[0] == 0x2e && line[1] == 0x0a {
			ahead, took = l[:at], at+1
		}
	}
	return ahead, took
}

// stripByWords is what P15.2 says of Strip, word by word, from the last text back.
func stripByWords(text []string) ([]string, bool) {
	var l []string
	for _, line := range slices.Backward(text) {
		if beginsByWords(line) {
			line = line[1:]
		}
		l = slices.Insert(l, 0, line)
	}
	return l, slices.ContainsFunc(text, beginsByWords)
}

// P15.1.

func TestTheExample(t *testing.T) {
	checkBlock(t, []string{".a\n", "b\n"}, []string{"..a\n", "b\n", ".\n"}, true)
}

func TestBlock(t *testing.T) {
	for _, c := range []struct {
		name, strokes, handed string
		dotted                bool
	}{
		{"no text", "", "", false},
		{"a line", "a/", "a/", false},
		{"an empty line", "/", "/", false},
		{"an open line", "a", "a", false},
		{"a point that ends texts", "./", "../", true},
		{"a point that is open", ".", "..", true},
		{"the first begins with one", ".a/b/c/", "..a/b/c/", true},
		{"one within begins with one", "a/.b/c/", "a/..b/c/", true},
		{"the last begins with one", "a/b/.c/", "a/b/..c/", true},
		{"an open line begins with one", "a/.b", "a/..b", true},
		{"two begin with one", ".a/b/.c/", "..a/b/..c/", true},
		{"all begin with one", ".a/.b/", "..a/..b/", true},
		{"two points", "../a/", ".../a/", true},
		{"many points", "......../", "........./", true},
		{"points within, and behind", "a.b/c./d../", "a.b/c./d../", false},
		{"a blank ahead of the point", " ./", " ./", false},
		{"a blank behind the point", ". /", ".. /", true},
		{"all end texts", "./././", "../../../", true},
		{"a block", "..a/./", "...a/../", true},
	} {
		t.Run(c.name, func(t *testing.T) {
			checkBlock(t, brief.Lines(c.strokes), append(brief.Lines(c.handed), ".\n"), c.dotted)
		})
	}
}

// Texts need not be lines: their first byte is all that is asked.
func TestBlockOfTextsThatAreNoLines(t *testing.T) {
	checkBlock(t, []string{""}, []string{"", ".\n"}, false)
	checkBlock(t, []string{"", "", "."}, []string{"", "", "..", ".\n"}, true)
	checkBlock(t, []string{".\n.\n", "\n.\n"}, []string{"..\n.\n", "\n.\n", ".\n"}, true)
	checkBlock(t, []string{"a", "b\n"}, []string{"a", "b\n", ".\n"}, false)
	checkBlock(t, []string{".\r\n"}, []string{"..\r\n", ".\n"}, true)
	checkBlock(t, []string{".\xff\x00"}, []string{"..\xff\x00", ".\n"}, true)
}

// P15.2.

func TestUnblock(t *testing.T) {
	for _, c := range []struct {
		name, strokes, ahead string
		took                 int
	}{
		{"the end alone", "./", "", 1},
		{"a line", "a/./", "a/", 2},
		{"lines", "a/b/c/./", "a/b/c/", 4},
		{"an empty line", "/./", "/", 2},
		{"a text behind", "a/./b/", "a/", 2},
		{"an open text behind", "a/./b", "a/", 2},
		{"an open point behind", "a/./.", "a/", 2},
		{"an end behind", "a/././", "a/", 2},
		{"another block behind", "a/./b/./", "a/", 2},
		{"ends alone", "./././", "", 1},
		{"points stay", "..a/.b/../..././", "..a/.b/../.../", 5},
		{"a blank makes it another text", " ./. /./", " ./. /", 3},
		{"a point behind a letter", "a./.a/./", "a./.a/", 3},
	} {
		t.Run(c.name, func(t *testing.T) {
			checkUnblock(t, brief.Lines(c.strokes), brief.Lines(c.ahead), c.took)
		})
	}
}

func TestUnblockWithoutAnEnd(t *testing.T) {
	for _, strokes := range []string{"", "/", "a/", "a/b/c/", ".", "a/.", "../", "../.", "a./", ".a/", " ./", ". /", "a/b"} {
		checkUnblock(t, brief.Lines(strokes), nil, 0)
	}
}

// An end is the two bytes, and nothing else.
func TestUnblockOfTextsThatAreNoLines(t *testing.T) {
	others := []string{"", ".", "\n", "\n.", "\n.\n", ".\n\n", ".\n.\n", ".\r\n", ".\r", ".\x00\n", "\x00.\n", ".\n\x00", "\u2024\n", "\uff0e\n", "\xae\n", ".\x8a"}
	for _, other := range others {
		checkUnblock(t, []string{other}, nil, 0)
		checkUnblock(t, []string{other, ".\n"}, []string{other}, 2)
		checkUnblock(t, []string{".\n", other}, nil, 1)
	}
	checkUnblock(t, others, nil, 0)
	checkUnblock(t, slices.Concat(others, []string{".\n"}, others), others, len(others)+1)
}

func TestStrip(t *testing.T) {
	for _, c := range []struct {
		name, strokes, want string
		dotted              bool
	}{
		{"no text", "", "", false},
		{"a line", "a/", "a/", false},
		{"an empty line", "/", "/", false},
		{"an open line", "a", "a", false},
		{"a point alone", "./", "/", true},
		{"two points", "../", "./", true},
		{"many points", "........./", "......../", true},
		{"the first begins with one", ".a/b/c/", "a/b/c/", true},
		{"one within begins with one", "a/.b/c/", "a/b/c/", true},
		{"the last begins with one", "a/b/.c/", "a/b/c/", true},
		{"an open line begins with one", "a/.b", "a/b", true},
		{"two begin with one", "..a/b/.c/", ".a/b/c/", true},
		{"all begin with one", ".a/.b/", "a/b/", true},
		{"points within, and behind", "a.b/c./d../", "a.b/c./d../", false},
		{"a blank ahead of the point", " ./", " ./", false},
		{"a blank behind the point", ". /", " /", true},
		{"lines behind an end", "a/./.b/", "a//b/", true},
	} {
		t.Run(c.name, func(t *testing.T) {
			checkStrip(t, brief.Lines(c.strokes), brief.Lines(c.want), c.dotted)
		})
	}
}

// Texts need not be lines, and a text of which nothing is left stays in its place.
func TestStripOfTextsThatAreNoLines(t *testing.T) {
	checkStrip(t, []string{""}, []string{""}, false)
	checkStrip(t, []string{"."}, []string{""}, true)
	checkStrip(t, []string{"..a\n", "b\n", "."}, []string{".a\n", "b\n", ""}, true)
	checkStrip(t, []string{"", ".", "", "."}, []string{"", "", "", ""}, true)
	checkStrip(t, []string{".\n.\n", "\n.\n"}, []string{"\n.\n", "\n.\n"}, true)
	checkStrip(t, []string{".\xff\x00", "\xff.\n"}, []string{"\xff\x00", "\xff.\n"}, true)
}

// P15.1, P15.2.

func TestEachByte(t *testing.T) {
	for b := range 256 {
		s := string([]byte{byte(b)})
		for _, behind := range []string{"", "\n", "a\n", ".\n", s} {
			text := s + behind
			if b == '.' {
				checkBlock(t, []string{text}, []string{"." + text, ".\n"}, true)
				checkStrip(t, []string{text}, []string{behind}, true)
			} else {
				checkBlock(t, []string{text}, []string{text, ".\n"}, false)
				checkStrip(t, []string{text}, []string{text}, false)
			}
		}
		for text, isEnd := range map[string]bool{s + "\n": b == '.', "." + s: b == '\n', s + ".\n": false, ".\n" + s: false, "." + s + "\n": false} {
			if isEnd {
				checkUnblock(t, []string{"a\n", text, "b\n"}, []string{"a\n"}, 2)
			} else {
				checkUnblock(t, []string{"a\n", text, "b\n"}, nil, 0)
			}
		}
	}
}

// What looks like a point, and is none.
func TestOtherPoints(t *testing.T) {
	for _, point := range []string{"\u00b7", "\u2024", "\u2026", "\uff0e", "\u0307.", "\xc0\xae", "\xae", "\x00.", "\ufeff."} {
		text := []string{point + "\n", point + "a\n"}
		checkBlock(t, text, append(slices.Clone(text), ".\n"), false)
		checkUnblock(t, text, nil, 0)
		checkStrip(t, text, text, false)
	}
}

func TestAllIsAsTheWordsSay(t *testing.T) {
	for text := range every.UpTo(texts, 4) {
		want, dotted := blockByWords(text)
		checkBlock(t, text, want, dotted)
		ahead, took := unblockByWords(text)
		checkUnblock(t, text, ahead, took)
		want, dotted = stripByWords(text)
		checkStrip(t, text, want, dotted)
	}
}

// Nil and empty are the same.
func TestEmptyLists(t *testing.T) {
	for _, empty := range [][]string{nil, {}} {
		checkBlock(t, empty, []string{".\n"}, false)
		checkUnblock(t, empty, nil, 0)
		checkStrip(t, empty, nil, false)
	}
}

func TestLongTexts(t *testing.T) {
	long := brief.Numbered(20000)
	checkBlock(t, long, append(slices.Clone(long), ".\n"), false)
	checkUnblock(t, long, nil, 0)
	checkStrip(t, long, long, false)
	for _, at := range []int{0, 10000, 19999} {
		one, more, ended := slices.Clone(long), slices.Clone(long), slices.Clone(long)
		one[at], more[at], ended[at] = ".x\n", "..x\n", ".\n"
		checkBlock(t, one, append(slices.Clone(more), ".\n"), true)
		checkStrip(t, more, one, true)
		checkUnblock(t, ended, long[:at], at+1)
	}
	points := strings.Repeat(".", 1<<20)
	checkBlock(t, []string{points}, []string{points + ".", ".\n"}, true)
	checkStrip(t, []string{points + "."}, []string{points}, true)
	checkUnblock(t, []string{points, points + "\n"}, nil, 0)
}

// What was told ahead leaves nothing behind.
func TestNothingIsKept(t *testing.T) {
	for range 2 {
		checkBlock(t, brief.Lines(".a/"), brief.Lines("..a/./"), true)
		checkBlock(t, brief.Lines("a/"), brief.Lines("a/./"), false)
		checkStrip(t, brief.Lines(".a/"), brief.Lines("a/"), true)
		checkStrip(t, brief.Lines("a/"), brief.Lines("a/"), false)
		checkUnblock(t, brief.Lines("a/./"), brief.Lines("a/"), 2)
		checkUnblock(t, brief.Lines("a/"), nil, 0)
	}
}

// What is handed in stays as it is, also where it has room behind its end, and where what is told is written into.
func TestWhatIsHandedInStays(t *testing.T) {
	calls := map[string]func([]string) []string{
		"block":   func(l []string) []string { told, _ := Block(l); return told },
		"unblock": func(l []string) []string { told, _ := Unblock(l); return told },
		"strip":   func(l []string) []string { told, _ := Strip(l); return told },
	}
	for _, strokes := range []string{"", "a/", "a/b/./", ".a/b/./c/", "./", "././", "a/.b"} {
		for name, call := range calls {
			l, all := brief.Roomy(brief.Lines(strokes))
			first := call(l)
			want := slices.Clone(first)
			second := call(l)
			first = append(first, "!")
			for i := range first {
				first[i] = "!"
			}
			if !slices.Equal(second, want) || !slices.Equal(call(l), want) {
				t.Errorf("%s, of %s: what was told again has become %q", name, strokes, second)
			}
			if want := append(brief.Lines(strokes), "room"); !slices.Equal(all, want) {
				t.Errorf("%s, of %s: what was handed in has become %q", name, strokes, all)
			}
		}
	}
}

// P15.3.

func TestThereAndBack(t *testing.T) {
	for text := range every.UpTo(texts, 3) {
		for behind := range every.UpTo([]string{"", ".", ".\n", "..\n", "a\n"}, 2) {
			checkThereAndBack(t, text, behind)
		}
	}
}

func TestLongTextsThereAndBack(t *testing.T) {
	long := brief.Numbered(20000)
	checkThereAndBack(t, long, nil)
	for _, at := range []int{0, 10000, 19999} {
		for _, line := range []string{".\n", "..\n", ".", "", ".1\n"} {
			other := slices.Clone(long)
			other[at] = line
			checkThereAndBack(t, other, nil)
			checkThereAndBack(t, other, other)
		}
	}
}

// A block in a block comes back as it was.
func TestBlocksWithinBlocks(t *testing.T) {
	for text := range every.UpTo(texts, 2) {
		block := text
		for range 5 {
			checkThereAndBack(t, block, nil)
			block, _ = Block(block)
		}
	}
}

// Texts that may be lines, and are ended, are handed over as such, with no end but the last one.
func TestBlocksOfLines(t *testing.T) {
	for text := range every.UpTo([]string{".\n", "..\n", ".a\n", "a\n", "\n"}, 4) {
		block, _ := Block(text)
		if !lines.May(block) || lines.Open(block) || slices.Index(block, ".\n") != len(text) {
			t.Fatalf("%q: %q", text, block)
		}
	}
}
