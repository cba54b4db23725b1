package flags

import (
	"math"
	"slices"
	"strings"
	"testing"

	"sennit/brief"
	"sennit/every"
	"sennit/lines"
)

const known = "ex3EXA"

// kinds is numbers of kinds, and such as are none, also those of which a byte, or two, would keep a kind.
var kinds = []int{math.MinInt, -256, -3, -2, -1, None, Mine, Yours, Both, All, 5, 6, 256 + Yours, 256 + All, 1<<16 + All, math.MaxInt}

func checkKind(t *testing.T, mine, older, yours []string, want int) {
	t.Helper()
	if got := Kind(mine, older, yours); got != want {
		t.Fatalf("%q, %q, %q: kind %d, want %d", mine, older, yours, got, want)
	}
}

func checkResult(t *testing.T, flag byte, mine, older, yours, want []string) {
	t.Helper()
	if got := Result(flag, mine, older, yours); !slices.Equal(got, want) {
		t.Fatalf("%q, of %q, %q, %q: %q, want %q", flag, mine, older, yours, got, want)
	}
}

// checkFiles holds what becomes of files that are written as letters.
func checkFiles(t *testing.T, flag byte, files, strokes string) {
	t.Helper()
	f := brief.Files(files)
	checkResult(t, flag, f[0], f[1], f[2], brief.Lines(strokes))
}

// eachThree hands over all small files, three by three.
func eachThree(see func(mine, older, yours []string)) {
	for files := range every.List(brief.All("ab", 2), 3) {
		see(files[0], files[1], files[2])
	}
	for files := range every.List([][]string{nil, {""}, {"a"}, {"a\n", ""}, {"", "a\n"}, {"a", "b\n"}, {"\n\n"}, {"a\nb"}}, 3) {
		see(files[0], files[1], files[2])
	}
}

// eachFlag hands over all bytes.
func eachFlag(see func(flag byte)) {
	for flag := range 256 {
		see(byte(flag))
	}
}

// P14.1.

func TestNumbers(t *testing.T) {
	if got, want := []int{None, Mine, Yours, Both, All}, []int{0, 1, 2, 3, 4}; !slices.Equal(got, want) {
		t.Errorf("kinds %v, want %v", got, want)
	}
	if got, want := []int{Leave, Take, Bracket, Show}, []int{0, 1, 2, 3}; !slices.Equal(got, want) {
		t.Errorf("what is done %v, want %v", got, want)
	}
}

func TestKindOfFiles(t *testing.T) {
	for _, c := range []struct {
		files string
		want  int
	}{
		{",,", None},
		{"a,a,a", None},
		{"ab~,ab~,ab~", None},
		{"b,a,a", Mine},
		{"b,,", Mine},
		{",a,a", Mine},
		{"ab,a,a", Mine},
		{"a~,a,a", Mine},
		{"a,a,b", Yours},
		{",,b", Yours},
		{"a,a,", Yours},
		{"a,a,ab", Yours},
		{"a,a,a~", Yours},
		{"b,a,b", Both},
		{"b,,b", Both},
		{",a,", Both},
		{"ab,a,ab", Both},
		{"a~,a,a~", Both},
		{"a,b,c", All},
		{",b,c", All},
		{"a,,c", All},
		{"a,b,", All},
		{"a,ab,abc", All},
		{"abc,ab,a", All},
		{"ab,ba,bb", All},
		{"a,a~,b", All},
		{"a~,a,b", All},
		{"b,a,a~", All},
	} {
		f := brief.Files(c.files)
		checkKind(t, f[0], f[1], f[2], c.want)
	}
}

func TestKindOfOtherTexts(t *testing.T) {
	cut, whole := []string{"a", "b"}, []string{"ab"}
	checkKind(t, cut, whole, whole, Mine)
	checkKind(t, whole, whole, cut, Yours)
	checkKind(t, cut, whole, cut, Both)
	checkKind(t, cut, whole, []string{"a", "", "b"}, All)
	checkKind(t, []string{""}, nil, nil, Mine)
	checkKind(t, nil, nil, []string{""}, Yours)
	checkKind(t, []string{""}, nil, []string{""}, Both)
	checkKind(t, []string{""}, nil, []string{"", ""}, All)
	checkKind(t, []string{"\u00e9"}, []string{"e\u0301"}, []string{"\xe9"}, All)
	checkKind(t, []string{"\xff"}, []string{"\xfe"}, []string{"\ufffd"}, All)
	checkKind(t, []string{"a\r\n"}, []string{"a\n"}, []string{"a\n"}, Mine)
}

// Nil and empty are the same.
func TestKindOfEmptyLists(t *testing.T) {
	empty, a := []string{}, []string{"a\n"}
	for lists := range every.List([][]string{nil, empty}, 3) {
		checkKind(t, lists[0], lists[1], lists[2], None)
		checkKind(t, a, lists[0], lists[1], Mine)
		checkKind(t, lists[0], lists[1], a, Yours)
		checkKind(t, lists[0], a, lists[1], Both)
	}
}

func TestKindOfLongFiles(t *testing.T) {
	long := brief.Numbered(5000)
	for _, at := range []int{0, 2500, 4999} {
		other, another := slices.Clone(long), slices.Clone(long)
		other[at], another[at] = "x\n", "y\n"
		checkKind(t, other, long, long, Mine)
		checkKind(t, long, long, other, Yours)
		checkKind(t, other, long, other, Both)
		checkKind(t, other, long, another, All)
	}
	checkKind(t, long[:4999], long, long, Mine)
	checkKind(t, long, long[:4999], long[:4998], All)
}

// kindsByWords is all kinds that P14.1's words have three texts be.
func kindsByWords(mine, older, yours []string) []int {
	sameBytes := func(a, b []string) bool {
		same := len(a) == len(b)
		for i := 0; same && i < len(a); i++ {
			same = a[i] == b[i]
		}
		return same
	}
	mo, oy, my := sameBytes(mine, older), sameBytes(older, yours), sameBytes(mine, yours)
	var are []int
	for kind, is := range []bool{mo && oy && my, oy && !mo, mo && !oy, my && !mo, !mo && !oy && !my} {
		if is {
			are = append(are, kind)
		}
	}
	return are
}

func TestKindIsAsTheWordsSay(t *testing.T) {
	met := map[int]bool{}
	eachThree(func(mine, older, yours []string) {
		are := kindsByWords(mine, older, yours)
		if len(are) != 1 {
			t.Fatalf("%q, %q, %q: by the words %v", mine, older, yours, are)
		}
		checkKind(t, mine, older, yours, are[0])
		met[are[0]] = true
	})
	if len(met) != 5 {
		t.Errorf("kinds met: %v", met)
	}
}

// P14.2.

func TestKnown(t *testing.T) {
	for flag, want := range map[byte]bool{
		'e': true, 'x': true, '3': true, 'E': true, 'X': true, 'A': true,
		'a': false, '0': false, '1': false, '2': false, '4': false, 3: false, 0: false, 255: false, 'm': false, 'i': false, '-': false, ' ': false, 'e' | 0x80: false,
	} {
		if Known(flag) != want {
			t.Errorf("%q: known %v", flag, !want)
		}
	}
	eachFlag(func(flag byte) {
		if got, want := Known(flag), strings.Contains(known, string(rune(flag))); got != want {
			t.Errorf("%q: known %v", flag, got)
		}
	})
}

// doesByWords is the table of P14.2.
func doesByWords(flag byte, kind int) int {
	switch string(rune(flag)) + " " + map[int]string{Yours: "yours", All: "all"}[kind] {
	case "e yours", "3 yours", "E yours", "A yours", "e all", "x all":
		return Take
	case "E all", "X all":
		return Bracket
	case "A all":
		return Show
	}
	return Leave
}

func TestDoes(t *testing.T) {
	for _, c := range []struct {
		flag       byte
		yours, all int
	}{
		{'e', Take, Take},
		{'x', Leave, Take},
		{'3', Take, Leave},
		{'E', Take, Bracket},
		{'X', Leave, Bracket},
		{'A', Take, Show},
		{'a', Leave, Leave},
		{3, Leave, Leave},
		{0, Leave, Leave},
	} {
		if yours, all := Does(c.flag, Yours), Does(c.flag, All); yours != c.yours || all != c.all {
			t.Errorf("%q: %d, %d, want %d, %d", c.flag, yours, all, c.yours, c.all)
		}
		for _, kind := range []int{None, Mine, Both} {
			if got := Does(c.flag, kind); got != Leave {
				t.Errorf("%q, kind %d: %d, want Leave", c.flag, kind, got)
			}
		}
	}
}

func TestDoesOfEachFlagAndKind(t *testing.T) {
	eachFlag(func(flag byte) {
		for _, kind := range kinds {
			if got, want := Does(flag, kind), doesByWords(flag, kind); got != want {
				t.Errorf("%q, kind %d: %d, want %d", flag, kind, got, want)
			}
		}
	})
}

// P14.3.

func TestTheExample(t *testing.T) {
	checkFiles(t, '3', "a,b,c", "a/")
}

func TestResultOfEachKind(t *testing.T) {
	for _, c := range []struct{ flags, files, want string }{
		{known + "?", "a,a,a", "a/"},
		{known + "?", ",,", ""},
		{known + "?", "b,a,a", "b/"},
		{known + "?", ",a,a", ""},
		{known + "?", "b,a,b", "b/"},
		{known + "?", ",a,", ""},
		{"e3EA", "a,a,b", "b/"},
		{"e3EA", "a,a,", ""},
		{"e3EA", ",,b", "b/"},
		{"xX?", "a,a,b", "a/"},
		{"xX?", "a,a,", "a/"},
		{"xX?", ",,b", ""},
		{"ex", "a,b,c", "c/"},
		{"ex", "a,b,", ""},
		{"ex", ",b,c", "c/"},
		{"3?", "a,b,c", "a/"},
		{"3?", ",b,c", ""},
		{"EX", "a,b,c", "<<<<<<< MINE/a/=======/c/>>>>>>> YOURS/"},
		{"EX", "ab,,cd", "<<<<<<< MINE/a/b/=======/c/d/>>>>>>> YOURS/"},
		{"EX", ",b,c", "<<<<<<< MINE/=======/c/>>>>>>> YOURS/"},
		{"EX", "a,b,", "<<<<<<< MINE/a/=======/>>>>>>> YOURS/"},
		{"A", "a,b,c", "<<<<<<< MINE/a/||||||| OLDER/b/=======/c/>>>>>>> YOURS/"},
		{"A", "ab,cde,fg", "<<<<<<< MINE/a/b/||||||| OLDER/c/d/e/=======/f/g/>>>>>>> YOURS/"},
		{"A", ",b,c", "<<<<<<< MINE/||||||| OLDER/b/=======/c/>>>>>>> YOURS/"},
		{"A", "a,,c", "<<<<<<< MINE/a/||||||| OLDER/=======/c/>>>>>>> YOURS/"},
		{"A", "a,b,", "<<<<<<< MINE/a/||||||| OLDER/b/=======/>>>>>>> YOURS/"},
	} {
		for _, flag := range []byte(c.flags) {
			checkFiles(t, flag, c.files, c.want)
		}
	}
}

// A list that is open is ended between marks, and there alone.
func TestResultOfOpenLists(t *testing.T) {
	for _, c := range []struct{ flags, files, want string }{
		{known + "?", "a~,a~,a~", "a"},
		{known + "?", "ab~,a,a", "a/b"},
		{known + "?", "b~,a,b~", "b"},
		{known + "?", ",b~,", ""},
		{"e3EA", "a,a,b~", "b"},
		{"e3EA", "a,a,a~", "a"},
		{"e3EA", "a~,a~,a", "a/"},
		{"xX?", "a~,a~,b", "a"},
		{"ex", "a,b,cd~", "c/d"},
		{"3?", "a~,b,c", "a"},
		{"EX", "a~,b,c", "<<<<<<< MINE/a/=======!/c/>>>>>>> YOURS/"},
		{"EX", "a,b,c~", "<<<<<<< MINE/a/=======/c/>>>>>>>! YOURS/"},
		{"EX", "a~,b,c~", "<<<<<<< MINE/a/=======!/c/>>>>>>>! YOURS/"},
		{"EX", "a,b~,c", "<<<<<<< MINE/a/=======/c/>>>>>>> YOURS/"},
		{"EX", "ab~,c~,de~", "<<<<<<< MINE/a/b/=======!/d/e/>>>>>>>! YOURS/"},
		{"EX", "a~,b,", "<<<<<<< MINE/a/=======!/>>>>>>> YOURS/"},
		{"EX", ",b,c~", "<<<<<<< MINE/=======/c/>>>>>>>! YOURS/"},
		{"EX", "a~,b,a", "<<<<<<< MINE/a/=======!/a/>>>>>>> YOURS/"},
		{"A", "a~,b,c", "<<<<<<< MINE/a/|||||||! OLDER/b/=======/c/>>>>>>> YOURS/"},
		{"A", "a,b~,c", "<<<<<<< MINE/a/||||||| OLDER/b/=======!/c/>>>>>>> YOURS/"},
		{"A", "a,b,c~", "<<<<<<< MINE/a/||||||| OLDER/b/=======/c/>>>>>>>! YOURS/"},
		{"A", "a~,b,c~", "<<<<<<< MINE/a/|||||||! OLDER/b/=======/c/>>>>>>>! YOURS/"},
		{"A", "ab~,cd~,ef~", "<<<<<<< MINE/a/b/|||||||! OLDER/c/d/=======!/e/f/>>>>>>>! YOURS/"},
		{"A", "a~,,c~", "<<<<<<< MINE/a/|||||||! OLDER/=======/c/>>>>>>>! YOURS/"},
		{"A", ",b~,c", "<<<<<<< MINE/||||||| OLDER/b/=======!/c/>>>>>>> YOURS/"},
	} {
		for _, flag := range []byte(c.flags) {
			checkFiles(t, flag, c.files, c.want)
		}
	}
}

// Texts need not be lines, and the last one alone tells whether a list is open.
func TestResultOfTextsThatAreNoLines(t *testing.T) {
	empty, within, ahead := []string{"a\n", ""}, []string{"a\nb"}, []string{"a", "", "b\n\n"}
	checkResult(t, 'A', empty, within, ahead, []string{
		"<<<<<<< MINE\n", "a\n", "\n", "|||||||! OLDER\n", "a\nb\n", "=======!\n", "a", "", "b\n\n", ">>>>>>> YOURS\n",
	})
	checkResult(t, 'X', []string{""}, nil, []string{"", ""}, []string{
		"<<<<<<< MINE\n", "\n", "=======!\n", "", "\n", ">>>>>>>! YOURS\n",
	})
	checkResult(t, 'e', nil, nil, empty, empty)
	checkResult(t, 'x', ahead, ahead, empty, ahead)
}

// Texts that look like marks, or have bytes of any kind, stand as others do.
func TestResultOfTextsThatLookLikeMarks(t *testing.T) {
	mine, older, yours := []string{"<<<<<<< MINE\n"}, []string{"=======!\n", "||||||| OLDER"}, []string{">>>>>>> YOURS\n", "\x00\xff\r"}
	checkResult(t, 'A', mine, older, yours, []string{
		"<<<<<<< MINE\n", "<<<<<<< MINE\n", "||||||| OLDER\n", "=======!\n", "||||||| OLDER\n", "=======!\n", ">>>>>>> YOURS\n", "\x00\xff\r\n", ">>>>>>>! YOURS\n",
	})
}

// openByWords tells whether there are texts, and the last one doesn't end with a line feed.
func openByWords(list []string) bool {
	return len(list) > 0 && !strings.HasSuffix(list[len(list)-1], "\n")
}

// resultByWords is what P14.3 asks, word by word: each list between the mark ahead and the mark behind, told from the last one back.
func resultByWords(flag byte, mine, older, yours []string) []string {
	does := doesByWords(flag, kindsByWords(mine, older, yours)[0])
	switch does {
	case Leave:
		return mine
	case Take:
		return yours
	}
	type part struct {
		sign, word string
		list       []string
	}
	parts := []part{{"<", " MINE", mine}, {"|", " OLDER", older}, {"=", "", yours}, {">", " YOURS", nil}}
	if does == Bracket {
		parts = slices.Delete(parts, 1, 2)
	}
	var l []string
	for at := len(parts) - 1; at >= 0; at-- {
		p, exclaims := parts[at], ""
		if at > 0 && openByWords(parts[at-1].list) {
			exclaims = "!"
		}
		list := slices.Clone(p.list)
		if openByWords(list) {
			list[len(list)-1] += "\n"
		}
		mark := strings.Repeat(p.sign, 7) + exclaims + p.word + "\n"
		l = slices.Concat([]string{mark}, list, l)
	}
	return l
}

func TestResultIsAsTheWordsSay(t *testing.T) {
	eachThree(func(mine, older, yours []string) {
		for _, flag := range []byte(known + "?a4\x00\x03\xff") {
			checkResult(t, flag, mine, older, yours, resultByWords(flag, mine, older, yours))
		}
	})
}

// A flag that isn't known leaves mine.
func TestResultOfEachFlag(t *testing.T) {
	mine, older, yours := brief.File("a"), brief.File("b"), brief.File("c~")
	eachFlag(func(flag byte) {
		checkResult(t, flag, mine, older, yours, resultByWords(flag, mine, older, yours))
		checkResult(t, flag, older, older, yours, resultByWords(flag, older, older, yours))
		if !Known(flag) {
			checkResult(t, flag, mine, older, yours, mine)
			checkResult(t, flag, older, older, yours, older)
		}
	})
}

func TestResultOfLongFiles(t *testing.T) {
	mine := brief.Numbered(20000)
	older, yours := mine[1:], mine[:19999]
	want := slices.Concat(brief.Lines("<<<<<<< MINE/"), mine, brief.Lines("||||||| OLDER/"), older, brief.Lines("=======/"), yours, brief.Lines(">>>>>>> YOURS/"))
	checkResult(t, 'A', mine, older, yours, want)
	checkResult(t, 'e', mine, older, yours, yours)
	checkResult(t, '3', mine, older, yours, mine)
}

// What becomes of lists that may be may be; between marks it is ended.
func TestResultOfListsThatMayBe(t *testing.T) {
	for files := range every.List(brief.All("ab", 2), 3) {
		for _, flag := range []byte(known) {
			got := Result(flag, files[0], files[1], files[2])
			does := Does(flag, Kind(files[0], files[1], files[2]))
			if !lines.May(got) || does >= Bracket && lines.Open(got) {
				t.Fatalf("%q, of %s: %q", flag, brief.ShownAll(files), got)
			}
		}
	}
}

// What is handed in stays as it is, also where it has room behind its end, and where what is told is written into.
func TestWhatIsHandedInStays(t *testing.T) {
	for _, files := range []string{"a~,b~,c~", "a,a,b~", "a~,a,a", "a~,a~,a~", "b~,a,b~", ",a~,b"} {
		f := brief.Files(files)
		var alls [3][]string
		for k := range f {
			f[k], alls[k] = brief.Roomy(f[k])
		}
		for _, flag := range []byte(known + "?") {
			first := Result(flag, f[0], f[1], f[2])
			want := slices.Clone(first)
			second := Result(flag, f[0], f[1], f[2])
			first = append(first, "!")
			for i := range first {
				first[i] = "!"
			}
			if !slices.Equal(second, want) {
				t.Errorf("%q, of %s: what was told again has become %q", flag, files, second)
			}
			checkResult(t, flag, f[0], f[1], f[2], want)
		}
		for k := range alls {
			if want := append(brief.Files(files)[k], "room"); !slices.Equal(alls[k], want) {
				t.Errorf("%s: what was handed in has become %q", files, alls[k])
			}
		}
	}
}

// Nil and empty are the same.
func TestResultOfEmptyLists(t *testing.T) {
	a, b := brief.File("a"), brief.File("b")
	for lists := range every.List([][]string{nil, {}}, 3) {
		for _, flag := range []byte(known + "?") {
			checkResult(t, flag, lists[0], lists[1], lists[2], nil)
			checkResult(t, flag, lists[0], a, lists[1], nil)
			checkResult(t, flag, a, lists[0], lists[1], a)
		}
		checkResult(t, 'A', lists[0], a, b, brief.Lines("<<<<<<< MINE/||||||| OLDER/a/=======/b/>>>>>>> YOURS/"))
		checkResult(t, 'A', a, lists[0], b, brief.Lines("<<<<<<< MINE/a/||||||| OLDER/=======/b/>>>>>>> YOURS/"))
		checkResult(t, 'A', a, b, lists[0], brief.Lines("<<<<<<< MINE/a/||||||| OLDER/b/=======/>>>>>>> YOURS/"))
	}
}

// P14.4.

// With e what is changed is as with 3, and in conflicts as with x.
func TestWhatEDoes(t *testing.T) {
	for _, kind := range kinds {
		like := byte('3')
		if kind == All {
			like = 'x'
		}
		if e, other := Does('e', kind), Does(like, kind); e != other {
			t.Errorf("kind %d: e does %d, %q %d", kind, e, like, other)
		}
	}
	eachThree(func(mine, older, yours []string) {
		like := byte('3')
		if Kind(mine, older, yours) == All {
			like = 'x'
		}
		checkResult(t, 'e', mine, older, yours, Result(like, mine, older, yours))
	})
}

func TestMineAndYoursExchanged(t *testing.T) {
	exchanged := map[int]int{None: None, Mine: Yours, Yours: Mine, Both: Both, All: All}
	eachThree(func(mine, older, yours []string) {
		checkKind(t, yours, older, mine, exchanged[Kind(mine, older, yours)])
	})
}
