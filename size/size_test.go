package size

import (
	"math"
	"slices"
	"strconv"
	"strings"
	"testing"

	"sennit/api"
	"sennit/every"
)

// fourSigns are the marker signs, one by one, as the chapter tells them.
var fourSigns = []string{"<", "|", "=", ">"}

func checkRun(t *testing.T, s string, want int) {
	t.Helper()
	if got := Run(s); got != want {
		t.Fatalf("%q: %d, want %d", s, got, want)
	}
}

// runByWords is P11.1, word by word: the greatest number of bytes, tried from all bytes down.
func runByWords(s string) int {
	for n := len(s); n > 0; n-- {
		for _, sign := range fourSigns {
			if strings.HasPrefix(s, strings.Repeat(sign, n)) {
				return n
			}
		}
	}
	return 0
}

// autoByWords and fitsByWords are P11.2, word by word.
func autoByWords(files [][]string) int {
	greatest := 0
	for _, text := range slices.Concat(files...) {
		if n := runByWords(text); n > greatest {
			greatest = n
		}
	}
	if greatest+1 > 7 {
		return greatest + 1
	}
	return 7
}

func fitsByWords(size int, files [][]string) bool {
	tooLong := func(text string) bool { return runByWords(text) >= size }
	return size >= 1 && !slices.ContainsFunc(slices.Concat(files...), tooLong)
}

func TestRunOfCases(t *testing.T) {
	for _, c := range []struct {
		name, s string
		want    int
	}{
		{"the example", "<<<=", 3},
		{"no text", "", 0},
		{"a line feed alone", "\n", 0},
		{"one sign", "<", 1},
		{"one sign, ended", "=\n", 1},
		{"all the text", "|||||||", 7},
		{"a mark", "<<<<<<< 1\n", 7},
		{"another sign behind", "=>", 1},
		{"the same sign behind another one", "<=<", 1},
		{"the same sign behind a blank", ">> >", 2},
		{"the same sign behind a line feed", "|\n|", 1},
		{"a sign behind a letter", "a<", 0},
		{"a sign behind a blank", " <<", 0},
		{"a sign behind a line feed", "\n<<", 0},
		{"a sign of commands, not of marks", "---", 0},
		{"signs of columns", "++", 0},
		{"letters", "aaa", 0},
		{"a nought's byte", "\x00\x00", 0},
		{"a nought's byte behind", "<\x00<", 1},
	} {
		t.Run(c.name, func(t *testing.T) { checkRun(t, c.s, c.want) })
	}
}

func TestRunOfEachByte(t *testing.T) {
	for b := range 256 {
		first := string([]byte{byte(b)})
		want := strings.Count(strings.Join(fourSigns, ""), first)
		checkRun(t, first, want)
		checkRun(t, first+first, 2*want)
		checkRun(t, first+"a", want)
		for _, sign := range fourSigns {
			same := strings.Count(sign, first)
			checkRun(t, sign+sign+first, 2+same)
			checkRun(t, sign+sign+first+sign, 2+2*same)
		}
	}
}

// TestRunOfBytesNotRunes: what is more than a byte long, or no rune, is no sign, though it may look like one, or end with its number.
func TestRunOfBytesNotRunes(t *testing.T) {
	for _, sign := range fourSigns {
		wide := string(rune(sign[0]) - '!' + '\uff01')
		sameEnd := string(0x100 + rune(sign[0]))
		overlong := string([]byte{0xc0 | sign[0]>>6, 0x80 | sign[0]&0x3f})
		for _, other := range []string{wide, sameEnd, overlong, "\ufffd", "\xff", "\x80", "\xe2\x82", "\xed\xa0\x80"} {
			checkRun(t, other, 0)
			checkRun(t, other+sign, 0)
			checkRun(t, other+other, 0)
			checkRun(t, sign+other+sign, 1)
			checkRun(t, sign+sign+sign+other, 3)
		}
	}
}

func TestRunByWords(t *testing.T) {
	for list := range every.UpTo([]string{"<", "|", "=", ">", "a", "\n", "\xff"}, 6) {
		s := strings.Join(list, "")
		checkRun(t, s, runByWords(s))
	}
}

func TestRunOfLongTexts(t *testing.T) {
	for _, sign := range fourSigns {
		for _, n := range []int{7, 8, 255, 256, 257, api.MaxSize, 65536, 1 << 22} {
			long := strings.Repeat(sign, n)
			checkRun(t, long, n)
			checkRun(t, long+"\n", n)
			checkRun(t, "a"+long, 0)
		}
	}
}

func checkSizes(t *testing.T, files [][]string) {
	t.Helper()
	auto := autoByWords(files)
	if got := Auto(files...); got != auto {
		t.Fatalf("%q: %d, want %d", files, got, auto)
	}
	for size := -2; size < auto+3; size++ {
		if got, want := Fits(size, files...), fitsByWords(size, files); got != want {
			t.Fatalf("%q, %d: %t, want %t", files, size, got, want)
		}
	}
}

func TestAutoOfCases(t *testing.T) {
	for _, c := range []struct {
		name  string
		files [][]string
		want  int
	}{
		{"no files", nil, 7},
		{"a file without texts", [][]string{nil}, 7},
		{"an empty text", [][]string{{""}}, 7},
		{"no signs", [][]string{{"a\n", "b"}}, 7},
		{"few signs", [][]string{{"<<<=\n"}}, 7},
		{"one less than what isn't told", [][]string{{"======\n"}}, 7},
		{"as many as what isn't told", [][]string{{"=======\n"}}, 8},
		{"one more", [][]string{{"|||||||| a"}}, 9},
		{"signs within a text", [][]string{{"a<<<<<<<<<<", "b\n>>>>>>>>>>\n"}}, 7},
		{"signs that differ", [][]string{{"<<<<====\n", "||||>>>>"}}, 7},
		{"signs of texts side by side", [][]string{{"<<<<", "<<<<"}, {"<<<<"}}, 7},
		{"the greatest is the first one", [][]string{{"<<<<<<<<<\n", "<<<<<<<<\n", "<<<<<<<\n"}}, 10},
		{"the greatest is the last one", [][]string{{"a\n", ">>>>>>>\n", ">>>>>>>>>\n"}}, 10},
		{"the greatest is in the first file", [][]string{{"||||||||||"}, {"<<<"}, nil}, 11},
		{"the greatest is in the last file", [][]string{nil, {"======="}, {"a", "||||||||||"}}, 11},
		{"the greatest is in the middle", [][]string{{"======="}, {"=", "==========", "="}, {"========"}}, 11},
	} {
		t.Run(c.name, func(t *testing.T) {
			if got := Auto(c.files...); got != c.want {
				t.Errorf("%d, want %d", got, c.want)
			}
			checkSizes(t, c.files)
		})
	}
}

func TestFitsOfCases(t *testing.T) {
	seven := []string{"a\n", "=======\n"}
	for _, c := range []struct {
		name  string
		size  int
		files [][]string
		want  bool
	}{
		{"no sign", 0, nil, false},
		{"less than none", -1, nil, false},
		{"the least number", math.MinInt, [][]string{{"a"}}, false},
		{"no sign, and texts without signs", 0, [][]string{{"a"}}, false},
		{"one sign, and no files", 1, nil, true},
		{"one sign, and a file without texts", 1, [][]string{nil}, true},
		{"one sign, and texts without signs", 1, [][]string{{"a", "", "\n", "a<"}}, true},
		{"one sign, and a text of one", 1, [][]string{{"<"}}, false},
		{"one more than there are", 8, [][]string{seven}, true},
		{"as many as there are", 7, [][]string{seven}, false},
		{"fewer than there are", 6, [][]string{seven}, false},
		{"one sign, and more", 1, [][]string{seven}, false},
		{"as many as in the last file", 7, [][]string{{"<"}, nil, seven}, false},
		{"as many as in the first file", 7, [][]string{seven, nil, {"<"}}, false},
		{"another sign", 7, [][]string{{"<<<<<<<\n"}}, false},
		{"longer than what marks may be", api.MaxSize + 1, [][]string{seven}, true},
		{"the greatest number", math.MaxInt, [][]string{seven}, true},
	} {
		t.Run(c.name, func(t *testing.T) {
			if got := Fits(c.size, c.files...); got != c.want {
				t.Errorf("%t, want %t", got, c.want)
			}
		})
	}
}

// smallTexts have each number of signs around those that are asked of.
func smallTexts() []string {
	texts := []string{"", "\n", "a=======", "<<<<====", "<<<<<<<>"}
	for _, n := range []int{1, 6, 7, 8, 9} {
		texts = append(texts, strings.Repeat(fourSigns[n%len(fourSigns)], n)+"\n")
	}
	return texts
}

func TestSizesByWords(t *testing.T) {
	lists := slices.Collect(every.UpTo(smallTexts(), 2))
	for files := range every.UpTo(lists, 2) {
		checkSizes(t, files)
	}
	for texts := range every.List(smallTexts(), 4) {
		checkSizes(t, [][]string{texts[:1], texts[1:3], nil, texts[3:]})
	}
}

// TestAutoFits is P11.3.
func TestAutoFits(t *testing.T) {
	for n := range 40 {
		for _, sign := range fourSigns {
			files := [][]string{{"a\n", "=\n"}, {strings.Repeat(sign, n) + "\n"}}
			auto := Auto(files...)
			for size := api.Shortest; size < auto; size++ {
				if Fits(size, files...) {
					t.Fatalf("%d of %q: %d fits", n, sign, size)
				}
			}
			for _, more := range []int{0, 1, 2, 100, math.MaxInt - auto} {
				if !Fits(auto+more, files...) {
					t.Fatalf("%d of %q: %d doesn't fit", n, sign, auto+more)
				}
			}
		}
	}
}

func TestManyLongFiles(t *testing.T) {
	files := make([][]string, 100)
	for k := range files {
		for i := range api.MaxLines {
			files[k] = append(files[k], strconv.Itoa(i)+"\n")
		}
	}
	if got := Auto(files...); got != 7 || !Fits(1, files...) {
		t.Errorf("without signs: %d", got)
	}
	files[99][1999] = strings.Repeat(">", 100000)
	if got := Auto(files...); got != 100001 || Fits(100000, files...) || !Fits(100001, files...) {
		t.Errorf("the last text: %d", got)
	}
}

func TestWhatIsHandedInStays(t *testing.T) {
	all := []string{"<<<<<<<\n", "a", "=", "room"}
	files := [][]string{all[:3], nil, {">"}}
	if got := Auto(files...); got != 8 || !Fits(8, files...) || Fits(7, files...) {
		t.Errorf("%d", got)
	}
	if !slices.Equal(all, []string{"<<<<<<<\n", "a", "=", "room"}) || len(files) != 3 || len(files[0]) != 3 || files[1] != nil || files[2][0] != ">" {
		t.Errorf("what was handed in has become %q of %q", files, all)
	}
}
