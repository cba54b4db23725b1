package lines

import (
	"bytes"
	"slices"
	"strings"
	"testing"

	"sennit/every"
)

// allTexts are all texts of at most n bytes of the alphabet.
func allTexts(alphabet string, n int) []string {
	all := []string{""}
	from := 0
	for range n {
		to := len(all)
		for _, text := range all[from:to] {
			for i := range len(alphabet) {
				all = append(all, text+alphabet[i:i+1])
			}
		}
		from = to
	}
	return all
}

// isLine is the document's word: at least one byte, the last one a line feed, and no other one.
func isLine(text string) bool {
	return strings.HasSuffix(text, "\n") && strings.Count(text, "\n") == 1
}

// isOpenLine is the document's word: at least one byte, without a line feed.
func isOpenLine(text string) bool {
	return text != "" && !strings.Contains(text, "\n")
}

// mayBe is what P1.2 asks of May, by the document's words.
func mayBe(l []string) bool {
	for i, text := range l {
		if !isLine(text) && !(i == len(l)-1 && isOpenLine(text)) {
			return false
		}
	}
	return true
}

// P1.1: Split.

func TestSplitCutsBehindEachLineFeed(t *testing.T) {
	for _, c := range []struct {
		name, bytes string
		want        []string
	}{
		{"no bytes", "", nil},
		{"the document's example", "a\nb", []string{"a\n", "b"}},
		{"one line", "a\n", []string{"a\n"}},
		{"an open line alone", "a", []string{"a"}},
		{"a line feed alone", "\n", []string{"\n"}},
		{"line feeds alone", "\n\n\n", []string{"\n", "\n", "\n"}},
		{"a line feed ahead", "\na", []string{"\n", "a"}},
		{"an empty line between", "a\n\nb\n", []string{"a\n", "\n", "b\n"}},
		{"a carriage return is no line feed", "a\r\nb\rc", []string{"a\r\n", "b\rc"}},
		{"other breaks are no line feeds", "a\v\f\u0085\u2028b\n", []string{"a\v\f\u0085\u2028b\n"}},
		{"bytes that are no characters", "\x00\xff\n\xc3\n\xa9", []string{"\x00\xff\n", "\xc3\n", "\xa9"}},
	} {
		if l := Split([]byte(c.bytes)); !slices.Equal(l, c.want) {
			t.Errorf("%s: %q, want %q", c.name, l, c.want)
		}
	}
	if l := Split(nil); len(l) != 0 {
		t.Errorf("nil: %q", l)
	}
}

func TestSplitTellsLinesAndAtLastAnOpenLine(t *testing.T) {
	for _, b := range allTexts("a\n\r\x00\xff", 6) {
		l := Split([]byte(b))
		for i, text := range l {
			if !isLine(text) && !(i == len(l)-1 && isOpenLine(text)) {
				t.Fatalf("%q: %q", b, l)
			}
		}
	}
}

func TestSplitKeepsNothingOfItsBytes(t *testing.T) {
	b := []byte("ab\ncd")
	l := Split(b)
	if string(b) != "ab\ncd" {
		t.Errorf("bytes changed: %q", b)
	}
	for i := range b {
		b[i] = 'x'
	}
	if !slices.Equal(l, []string{"ab\n", "cd"}) {
		t.Errorf("lines follow the bytes: %q", l)
	}
}

// P1.1: Join.

func TestJoinPutsAllTextsOfAllLists(t *testing.T) {
	for _, c := range []struct {
		name  string
		lists [][]string
		want  string
	}{
		{"no lists", nil, ""},
		{"a list that is nil", [][]string{nil}, ""},
		{"lists that are empty", [][]string{{}, nil, {}}, ""},
		{"one list", [][]string{{"a\n", "b"}}, "a\nb"},
		{"lists in turn", [][]string{{"a\n", "b\n"}, {"c\n"}, {"d"}}, "a\nb\nc\nd"},
		{"an empty list between", [][]string{{"a\n"}, nil, {"b\n"}}, "a\nb\n"},
		{"an open list ahead isn't ended", [][]string{{"a"}, {"b\n"}}, "ab\n"},
		{"an empty text", [][]string{{"a\n", ""}, {"", "b"}}, "a\nb"},
		{"texts that are no lines", [][]string{{"a\nb", "\nc"}, {"\n\n"}}, "a\nb\nc\n\n"},
		{"bytes that are no characters", [][]string{{"\xff\x00\n"}, {"\xc3"}}, "\xff\x00\n\xc3"},
	} {
		if b := Join(c.lists...); string(b) != c.want {
			t.Errorf("%s: %q, want %q", c.name, b, c.want)
		}
	}
	if b := Join(); len(b) != 0 {
		t.Errorf("without lists: %q", b)
	}
}

func TestJoinSharesNothing(t *testing.T) {
	list := []string{"a\n", "b"}
	first, second := Join(list), Join(list)
	first[0] = 'x'
	if string(second) != "a\nb" || !slices.Equal(list, []string{"a\n", "b"}) {
		t.Errorf("second %q, list %q", second, list)
	}
}

// P1.2: May.

func TestMayOfListsThatMayBe(t *testing.T) {
	for _, l := range [][]string{
		nil, {}, {"\n"}, {"a"}, {"a\n"}, {"a\n", "b"}, {"a\n", "b\n"}, {"\n", "\n"}, {"\n", "a"}, {"a\r\n", "\r"}, {"\xff\n", "\x00"},
	} {
		if !May(l) {
			t.Errorf("%q may be", l)
		}
	}
}

func TestMayOfListsThatMayNotBe(t *testing.T) {
	for name, l := range map[string][]string{
		"an empty text alone":               {""},
		"an empty text as the last one":     {"a\n", ""},
		"an empty text behind an open line": {"a", ""},
		"an empty text ahead":               {"", "a\n"},
		"an empty text between":             {"a\n", "", "b\n"},
		"an open line ahead":                {"a", "b\n"},
		"an open line ahead of an open one": {"a", "b"},
		"an open line in the middle":        {"a\n", "b", "c\n"},
		"two lines in a text":               {"a\nb\n"},
		"a line and an open line in a text": {"a\nb"},
		"a line feed ahead in a text":       {"\na"},
		"two line feeds in a text":          {"\n\n"},
		"two lines in the last text":        {"a\n", "b\nc\n"},
	} {
		if May(l) {
			t.Errorf("%s: %q may not be", name, l)
		}
	}
}

func TestMayIsWhatTheWordsSay(t *testing.T) {
	for l := range every.UpTo(allTexts("a\n", 3), 3) {
		if May(l) != mayBe(l) {
			t.Fatalf("%q: %v", l, May(l))
		}
	}
}

// P1.2: Open.

func TestOpen(t *testing.T) {
	for _, c := range []struct {
		name string
		l    []string
		want bool
	}{
		{"nil", nil, false},
		{"no texts", []string{}, false},
		{"an open line", []string{"a"}, true},
		{"a last line that is open", []string{"a\n", "b"}, true},
		{"an empty text", []string{""}, true},
		{"an empty text as the last one", []string{"a\n", ""}, true},
		{"a line feed alone", []string{"\n"}, false},
		{"lines", []string{"a\n", "b\n"}, false},
		{"the last one counts", []string{"a", "", "b\n"}, false},
		{"a line feed within", []string{"a\nb"}, true},
		{"line feeds", []string{"\n\n"}, false},
		{"a carriage return", []string{"a\r"}, true},
	} {
		if got := Open(c.l); got != c.want {
			t.Errorf("%s: %v", c.name, got)
		}
	}
}

// P1.3.

func TestBytesThereAndBack(t *testing.T) {
	for _, b := range allTexts("a\n\r\x00\xff", 6) {
		l := Split([]byte(b))
		if back := Join(l); string(back) != b {
			t.Fatalf("%q: %q", b, back)
		}
		if !May(l) {
			t.Fatalf("%q: %q may not be", b, l)
		}
		if open := b != "" && !strings.HasSuffix(b, "\n"); Open(l) != open {
			t.Fatalf("%q: open %v", b, !open)
		}
	}
}

func TestManyBytesThereAndBack(t *testing.T) {
	every := make([]byte, 256)
	for i := range every {
		every[i] = byte(i)
	}
	b := bytes.Repeat(every, 1000)
	l := Split(b)
	if len(l) != 1001 || !May(l) || !Open(l) || !bytes.Equal(Join(l), b) {
		t.Errorf("%d texts, may %v, open %v", len(l), May(l), Open(l))
	}
	long := append(bytes.Repeat([]byte{'a'}, 1<<20), '\n')
	if l := Split(long); len(l) != 1 || !bytes.Equal(Join(l), long) {
		t.Errorf("a long line: %d texts", len(l))
	}
}

func TestListsThatMayBeThereAndBackAndNoOthers(t *testing.T) {
	for l := range every.UpTo(allTexts("a\n", 3), 3) {
		back := slices.Equal(Split(Join(l)), l)
		if back != mayBe(l) {
			t.Fatalf("%q: there and back %v", l, back)
		}
	}
}

// What is ranged over ends where its reader leaves it, and can be ranged over again.
func TestCutIsLeftAndRangedOverAgain(t *testing.T) {
	seq := cut("a\nb\nc")
	for range 2 {
		var seen []string
		for line := range seq {
			seen = append(seen, line)
			if line == "b\n" {
				break
			}
		}
		if !slices.Equal(seen, []string{"a\n", "b\n"}) {
			t.Errorf("%q", seen)
		}
	}
}
