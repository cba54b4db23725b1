package script

import (
	"slices"
	"strconv"
	"strings"
	"testing"

	"sennit/api"
	"sennit/brief"
	"sennit/every"
	"sennit/flags"
	"sennit/lines"
	"sennit/merge"
)

const known = "ex3EXA"

// commands is lines that stand side by side, each line feed as a semicolon.
func commands(short string) []string {
	return lines.Split([]byte(strings.ReplaceAll(short, ";", "\n")))
}

func scriptOf(t *testing.T, flag byte, mine, older, yours []string) []string {
	t.Helper()
	l, e := Script(flag, mine, older, yours, false)
	if e != api.OK {
		t.Fatalf("%q, of %q, %q, %q: error %d", flag, mine, older, yours, e)
	}
	return l
}

// checkScript holds the script without an end, and with one.
func checkScript(t *testing.T, flag byte, mine, older, yours, want []string) {
	t.Helper()
	if got := scriptOf(t, flag, mine, older, yours); !slices.Equal(got, want) {
		t.Fatalf("%q, of %q, %q, %q: %q, want %q", flag, mine, older, yours, got, want)
	}
	want = append(slices.Clip(want), "w\n", "q\n")
	if got, e := Script(flag, mine, older, yours, true); e != api.OK || !slices.Equal(got, want) {
		t.Fatalf("%q, with an end, of %q, %q, %q: error %d, %q, want %q", flag, mine, older, yours, e, got, want)
	}
}

// checkFiles holds the script of each of the flags, of files that are written as letters.
func checkFiles(t *testing.T, flags, files, want string) {
	t.Helper()
	f := brief.Files(files)
	for _, flag := range []byte(flags) {
		checkScript(t, flag, f[0], f[1], f[2], commands(want))
	}
}

func checkError(t *testing.T, name string, flag byte, mine, older, yours []string, want api.Errno) {
	t.Helper()
	for _, end := range []bool{false, true} {
		if l, e := Script(flag, mine, older, yours, end); e != want || e != api.OK && len(l) != 0 {
			t.Errorf("%s, %q, end %v: error %d, want %d; %q", name, flag, end, e, want, l)
		}
	}
}

// eachThree hands over all small files that are ended, three by three.
func eachThree(see func(mine, older, yours []string)) {
	for _, all := range [][][]string{
		brief.Ended("ab", 3),
		brief.Ended("abc.", 2),
		slices.Collect(every.UpTo([]string{".\n", "..\n", ".a\n"}, 2)),
		brief.Files(",.,abcde,xbcde,axcxe,.bc.e,abde,ace,a..e,abcdex,a.bcde"),
	} {
		for files := range every.List(all, 3) {
			see(files[0], files[1], files[2])
		}
	}
}

// chunk is what P16.1 asks of one: mine's lines of it, by their first and last number, and the three texts.
type chunk struct {
	first, last        int
	mine, older, yours []string
}

// chunksOf are those that aren't Stable, in turn.
func chunksOf(t *testing.T, mine, older, yours []string) []chunk {
	t.Helper()
	all, e := merge.Chunks(older, [][]string{mine, yours})
	if e != api.OK {
		t.Fatalf("%q, %q, %q: error %d", mine, older, yours, e)
	}
	var l []chunk
	for _, c := range all {
		if m, o, y := c.Sides[0], c.Base, c.Sides[1]; !c.Stable {
			l = append(l, chunk{m.From + 1, m.To, mine[m.From:m.To], older[o.From:o.To], yours[y.From:y.To]})
		}
	}
	return l
}

// numbersByWords is lines m to n.
func numbersByWords(m, n int) string {
	if m == n {
		return strconv.Itoa(m)
	}
	return strconv.Itoa(m) + "," + strconv.Itoa(n)
}

// handedByWords is a text as it is handed over, at m then.
func handedByWords(m int, text []string) string {
	var s strings.Builder
	dotted := false
	for _, line := range text {
		if line[0] == '.' {
			dotted = true
			s.WriteString(".")
		}
		s.WriteString(line)
	}
	s.WriteString(".\n")
	if dotted {
		s.WriteString(numbersByWords(m, m+len(text)-1) + "s/^\\.//\n")
	}
	return s.String()
}

// chunkByWords is the commands for a chunk.
func chunkByWords(flag byte, c chunk) string {
	n := strconv.Itoa(c.last)
	switch does := flags.Does(flag, flags.Kind(c.mine, c.older, c.yours)); {
	case does == flags.Leave:
		return ""
	case does == flags.Take && len(c.yours) == 0:
		return numbersByWords(c.first, c.last) + "d\n"
	case does == flags.Take && len(c.mine) == 0:
		return n + "a\n" + handedByWords(c.last+1, c.yours)
	case does == flags.Take:
		return numbersByWords(c.first, c.last) + "c\n" + handedByWords(c.first, c.yours)
	default:
		var text []string
		if does == flags.Show {
			text = append([]string{"||||||| OLDER\n"}, c.older...)
		}
		text = append(append(append(text, "=======\n"), c.yours...), ">>>>>>> YOURS\n")
		ahead := c.first - 1
		if len(c.mine) == 0 {
			ahead = c.last
		}
		return n + "a\n" + handedByWords(c.last+1, text) + strconv.Itoa(ahead) + "a\n<<<<<<< MINE\n.\n"
	}
}

// scriptByWords is P16.1, word by word.
func scriptByWords(t *testing.T, flag byte, mine, older, yours []string) []string {
	t.Helper()
	s := ""
	for _, c := range chunksOf(t, mine, older, yours) {
		s = chunkByWords(flag, c) + s
	}
	return lines.Split([]byte(s))
}

// command is one of a script: its lines, its letter, and the text that is handed over behind it, as it is there.
type command struct {
	first, last int
	letter      byte
	text        []string
}

// cutCommand is a script's first command, and what is left of the script behind it.
func cutCommand(t *testing.T, script []string) (command, []string) {
	t.Helper()
	told := strings.TrimSuffix(strings.TrimSuffix(script[0], "\n"), "/^\\.//")
	letter := told[len(told)-1]
	first, last, two := strings.Cut(told[:len(told)-1], ",")
	if !two {
		last = first
	}
	m, wrong := strconv.Atoi(first)
	n, wrongToo := strconv.Atoi(last)
	if wrong != nil || wrongToo != nil || two && m >= n || two && letter == 'a' || !strings.ContainsRune("acds", rune(letter)) || (letter == 's') != strings.HasSuffix(script[0], "s/^\\.//\n") {
		t.Fatalf("%q is no command", script[0])
	}
	c, rest := command{m, n, letter, nil}, script[1:]
	if letter == 'a' || letter == 'c' {
		end := slices.Index(rest, ".\n")
		if end < 0 {
			t.Fatalf("%q has no text", script)
		}
		c.text, rest = rest[:end], rest[end+1:]
	}
	return c, rest
}

// runCommand is what a command makes of a file.
func runCommand(t *testing.T, c command, file []string) []string {
	t.Helper()
	from := c.first - 1
	if c.letter == 'a' {
		from = c.first
	}
	if from < 0 || c.last > len(file) {
		t.Fatalf("%+v: there are %d lines", c, len(file))
	}
	text := c.text
	if c.letter == 's' {
		for _, line := range file[from:c.last] {
			text = append(text, strings.TrimPrefix(line, "."))
		}
		if slices.Equal(text, file[from:c.last]) {
			t.Fatalf("%+v: no point in %q", c, text)
		}
	}
	return slices.Concat(file[:from], text, file[c.last:])
}

// runScript is what a script without an end makes of a file.
func runScript(t *testing.T, script, file []string) []string {
	t.Helper()
	for len(script) > 0 {
		var c command
		c, script = cutCommand(t, script)
		file = runCommand(t, c, file)
	}
	return file
}

// P16.1: what stands in a script.

func TestTheExample(t *testing.T) {
	checkFiles(t, "e", "a,a,b", "1c;b;.;")
}

func TestNothingIsDone(t *testing.T) {
	for _, files := range []string{",,", "a,a,a", "abc,abc,abc", "abc,ac,ac", "ac,abc,abc", "axc,abc,abc", ",a,a", "a,,", "axc,abc,axc", ",a,", "a,,a", "xbcd,abcx,xbcd"} {
		checkFiles(t, known, files, "")
	}
	checkFiles(t, "xX", "abc,abc,axc", "")
	checkFiles(t, "xX", "abc,abc,", "")
	checkFiles(t, "xX", ",,abc", "")
	checkFiles(t, "3", "abc,axc,ayc", "")
	checkFiles(t, "3", "a,,b", "")
	checkFiles(t, "3", ",a,b", "")
}

func TestYoursIsTaken(t *testing.T) {
	for _, c := range []struct{ files, want string }{
		{"a,a,", "1d;"},
		{"abc,abc,bc", "1d;"},
		{"abc,abc,ac", "2d;"},
		{"abc,abc,ab", "3d;"},
		{"abc,abc,c", "1,2d;"},
		{"abc,abc,a", "2,3d;"},
		{"abcd,abcd,ad", "2,3d;"},
		{"abc,abc,", "1,3d;"},
		{",,a", "0a;a;.;"},
		{",,ab", "0a;a;b;.;"},
		{"bc,bc,abc", "0a;a;.;"},
		{"ac,ac,abc", "1a;b;.;"},
		{"ab,ab,abc", "2a;c;.;"},
		{"ab,ab,axyzb", "1a;x;y;z;.;"},
		{"a,a,bc", "1c;b;c;.;"},
		{"abc,abc,xbc", "1c;x;.;"},
		{"abc,abc,axc", "2c;x;.;"},
		{"abc,abc,abx", "3c;x;.;"},
		{"abcd,abcd,axd", "2,3c;x;.;"},
		{"abcd,abcd,axyzd", "2,3c;x;y;z;.;"},
		{"abc,abc,xyz", "1,3c;x;y;z;.;"},
		{"abc,abc,xyzvw", "1,3c;x;y;z;v;w;.;"},
	} {
		checkFiles(t, "e3EA", c.files, c.want)
	}
}

// Lines are numbered as mine has them, whatever stands in older and yours.
func TestNumbersAreThoseOfMine(t *testing.T) {
	for _, c := range []struct{ files, want string }{
		{"xyabc,abc,abz", "5c;z;.;"},
		{"bc,abc,abz", "2c;z;.;"},
		{"xyabc,abc,ac", "4d;"},
		{"xyab,ab,azb", "3a;z;.;"},
		{"bcd,abcd,abcz", "3c;z;.;"},
		{"xbcd,abcd,ab", "3,4d;"},
		{"abc,abc,xyaby", "3c;y;.;0a;x;y;.;"},
	} {
		checkFiles(t, "e3EA", c.files, c.want)
	}
}

func TestConflictsAreTaken(t *testing.T) {
	for _, c := range []struct{ files, want string }{
		{"a,b,c", "1c;c;.;"},
		{"a,b,", "1d;"},
		{"ab,c,", "1,2d;"},
		{",b,c", "0a;c;.;"},
		{"ac,abc,axc", "1a;x;.;"},
		{"axyc,abc,ac", "2,3d;"},
		{"axyc,abc,azc", "2,3c;z;.;"},
		{"xab,ab,yzab", "1c;y;z;.;"},
		{"a,,bc", "1c;b;c;.;"},
	} {
		checkFiles(t, "ex", c.files, c.want)
	}
}

func TestConflictsBetweenMarks(t *testing.T) {
	for _, c := range []struct{ files, want string }{
		{"a,b,c", "1a;=======;c;>>>>>>> YOURS;.;0a;<<<<<<< MINE;.;"},
		{"a,,c", "1a;=======;c;>>>>>>> YOURS;.;0a;<<<<<<< MINE;.;"},
		{"ab,c,def", "2a;=======;d;e;f;>>>>>>> YOURS;.;0a;<<<<<<< MINE;.;"},
		{"a,b,", "1a;=======;>>>>>>> YOURS;.;0a;<<<<<<< MINE;.;"},
		{",b,c", "0a;=======;c;>>>>>>> YOURS;.;0a;<<<<<<< MINE;.;"},
		{"xay,xby,xcy", "2a;=======;c;>>>>>>> YOURS;.;1a;<<<<<<< MINE;.;"},
		{"xabcy,xdy,xzy", "4a;=======;z;>>>>>>> YOURS;.;1a;<<<<<<< MINE;.;"},
		{"xy,xby,xcy", "1a;=======;c;>>>>>>> YOURS;.;1a;<<<<<<< MINE;.;"},
		{"xya,xyb,xyc", "3a;=======;c;>>>>>>> YOURS;.;2a;<<<<<<< MINE;.;"},
		{"xy,xyb,xyc", "2a;=======;c;>>>>>>> YOURS;.;2a;<<<<<<< MINE;.;"},
		{"axyb,bxyc,cxyd", "4a;=======;d;>>>>>>> YOURS;.;3a;<<<<<<< MINE;.;1a;=======;c;>>>>>>> YOURS;.;0a;<<<<<<< MINE;.;"},
	} {
		checkFiles(t, "EX", c.files, c.want)
	}
}

func TestConflictsBetweenMarksWithOlder(t *testing.T) {
	for _, c := range []struct{ files, want string }{
		{"a,b,c", "1a;||||||| OLDER;b;=======;c;>>>>>>> YOURS;.;0a;<<<<<<< MINE;.;"},
		{"a,,c", "1a;||||||| OLDER;=======;c;>>>>>>> YOURS;.;0a;<<<<<<< MINE;.;"},
		{"a,b,", "1a;||||||| OLDER;b;=======;>>>>>>> YOURS;.;0a;<<<<<<< MINE;.;"},
		{",b,c", "0a;||||||| OLDER;b;=======;c;>>>>>>> YOURS;.;0a;<<<<<<< MINE;.;"},
		{"ab,cde,fg", "2a;||||||| OLDER;c;d;e;=======;f;g;>>>>>>> YOURS;.;0a;<<<<<<< MINE;.;"},
		{"xabcy,xdy,xzy", "4a;||||||| OLDER;d;=======;z;>>>>>>> YOURS;.;1a;<<<<<<< MINE;.;"},
		{"xy,xby,xcy", "1a;||||||| OLDER;b;=======;c;>>>>>>> YOURS;.;1a;<<<<<<< MINE;.;"},
	} {
		checkFiles(t, "A", c.files, c.want)
	}
}

// From the last chunk to the first, each by its kind.
func TestSeveralChunks(t *testing.T) {
	const mine, older, yours = "Abcdefgh", "abcdefgh", "Abxdeghi"
	for flag, want := range map[string]string{
		"e3EA": "8a;i;.;6d;3c;x;.;",
		"xX":   "",
	} {
		checkFiles(t, flag, mine+","+older+","+yours, want)
	}
	for flag, want := range map[string]string{
		"e": "5c;y;.;3c;w;.;1d;",
		"x": "3c;w;.;",
		"3": "5c;y;.;1d;",
		"E": "5c;y;.;3a;=======;w;>>>>>>> YOURS;.;2a;<<<<<<< MINE;.;1d;",
		"X": "3a;=======;w;>>>>>>> YOURS;.;2a;<<<<<<< MINE;.;",
		"A": "5c;y;.;3a;||||||| OLDER;c;=======;w;>>>>>>> YOURS;.;2a;<<<<<<< MINE;.;1d;",
	} {
		checkFiles(t, flag, "abxdefz,abcdefg,bwdyfg", want)
	}
}

// P16.1: texts that begin with points.

func TestTextsThatBeginWithPoints(t *testing.T) {
	for _, c := range []struct{ mine, older, yours, want string }{
		{"a/", "a/", "./", "1c;..;.;1s/^\\.//;"},
		{"a/", "a/", ".a/", "1c;..a;.;1s/^\\.//;"},
		{"a/", "a/", "../", "1c;...;.;1s/^\\.//;"},
		{"a/b/", "a/b/", "a/.b/", "2c;..b;.;2s/^\\.//;"},
		{"a/b/c/", "a/b/c/", "a/x/./y/c/", "2c;x;..;y;.;2,4s/^\\.//;"},
		{"a/b/c/d/", "a/b/c/d/", "a/./d/", "2,3c;..;.;2s/^\\.//;"},
		{"a/b/c/", "a/b/c/", "a/b/./.x/", "3c;..;..x;.;3,4s/^\\.//;"},
		{"a/b/", "a/b/", "a/./b/", "1a;..;.;2s/^\\.//;"},
		{"a/b/", "a/b/", "./a/b/", "0a;..;.;1s/^\\.//;"},
		{"a/b/", "a/b/", "x/.y/z/a/b/", "0a;x;..y;z;.;1,3s/^\\.//;"},
		{"a/b/", "a/b/", "a/b/x/./", "2a;x;..;.;3,4s/^\\.//;"},
		{"", "", "./", "0a;..;.;1s/^\\.//;"},
		{"a/./b/", "a/./b/", "a/b/", "2d;"},
		{"./", "./", "a/", "1c;a;.;"},
		{"a/b/", "a/b/", "a./ .b/", "1,2c;a.; .b;.;"},
		{"a/b/c/", "a/b/c/", "./b/./", "3c;..;.;3s/^\\.//;1c;..;.;1s/^\\.//;"},
		{"a/b/c/", "a/b/c/", "./b/x/", "3c;x;.;1c;..;.;1s/^\\.//;"},
	} {
		for _, flag := range []byte("e3EA") {
			checkScript(t, flag, brief.Lines(c.mine), brief.Lines(c.older), brief.Lines(c.yours), commands(c.want))
		}
	}
}

// Between marks the marks are handed over with the texts, and the lines are those of all of that.
func TestPointsBetweenMarks(t *testing.T) {
	for _, c := range []struct{ flags, files, want string }{
		{"ex", "a,b,.", "1c;..;.;1s/^\\.//;"},
		{"EX", "a,b,.", "1a;=======;..;>>>>>>> YOURS;.;2,4s/^\\.//;0a;<<<<<<< MINE;.;"},
		{"EX", "a,.,b", "1a;=======;b;>>>>>>> YOURS;.;0a;<<<<<<< MINE;.;"},
		{"EX", ".,b,c", "1a;=======;c;>>>>>>> YOURS;.;0a;<<<<<<< MINE;.;"},
		{"EX", "xy,xay,x.y", "1a;=======;..;>>>>>>> YOURS;.;2,4s/^\\.//;1a;<<<<<<< MINE;.;"},
		{"EX", "xabcy,xdy,xz.y", "4a;=======;z;..;>>>>>>> YOURS;.;5,8s/^\\.//;1a;<<<<<<< MINE;.;"},
		{"A", "a,b,.", "1a;||||||| OLDER;b;=======;..;>>>>>>> YOURS;.;2,6s/^\\.//;0a;<<<<<<< MINE;.;"},
		{"A", "a,.,b", "1a;||||||| OLDER;..;=======;b;>>>>>>> YOURS;.;2,6s/^\\.//;0a;<<<<<<< MINE;.;"},
		{"A", "a,.,..", "1a;||||||| OLDER;..;=======;..;..;>>>>>>> YOURS;.;2,7s/^\\.//;0a;<<<<<<< MINE;.;"},
		{"A", ".,b,c", "1a;||||||| OLDER;b;=======;c;>>>>>>> YOURS;.;0a;<<<<<<< MINE;.;"},
		{"A", ",.,b", "0a;||||||| OLDER;..;=======;b;>>>>>>> YOURS;.;1,5s/^\\.//;0a;<<<<<<< MINE;.;"},
		{"A", "a,.,", "1a;||||||| OLDER;..;=======;>>>>>>> YOURS;.;2,5s/^\\.//;0a;<<<<<<< MINE;.;"},
	} {
		checkFiles(t, c.flags, c.files, c.want)
	}
}

// Texts that look like commands, or marks, or have bytes of any kind, stand as others do.
func TestTextsOfAnyKind(t *testing.T) {
	odd := []string{"w\n", "q\n", "1d\n", "s/^\\.//\n", "=======\n", "<<<<<<< MINE\n", "\n", "\x00\xff\r\n", " .\n", "\u2024\n"}
	mine, older := brief.File("a"), brief.File("b")
	checkScript(t, 'e', older, older, odd, slices.Concat(commands("1c;"), odd, commands(".;")))
	checkScript(t, 'e', nil, nil, odd, slices.Concat(commands("0a;"), odd, commands(".;")))
	checkScript(t, 'e', odd, odd, nil, commands("1,10d;"))
	checkScript(t, 'A', mine, odd, older, slices.Concat(commands("1a;||||||| OLDER;"), odd, commands("=======;b;>>>>>>> YOURS;.;0a;<<<<<<< MINE;.;")))
	checkScript(t, 'X', mine, older, odd, slices.Concat(commands("1a;=======;"), odd, commands(">>>>>>> YOURS;.;0a;<<<<<<< MINE;.;")))
	checkScript(t, 'X', odd, mine, older, commands("10a;=======;b;>>>>>>> YOURS;.;0a;<<<<<<< MINE;.;"))
	for b := range 256 {
		if b == '\n' {
			continue
		}
		s := string([]byte{byte(b)})
		want := []string{"1c\n", s + "x\n", ".\n"}
		if b == '.' {
			want = commands("1c;..x;.;1s/^\\.//;")
		}
		checkScript(t, 'e', mine, mine, []string{s + "x\n"}, want)
	}
}

func TestScriptIsAsTheWordsSay(t *testing.T) {
	eachThree(func(mine, older, yours []string) {
		for _, flag := range []byte(known) {
			checkScript(t, flag, mine, older, yours, scriptByWords(t, flag, mine, older, yours))
		}
	})
}

func TestLongFiles(t *testing.T) {
	long := brief.Numbered(2000)
	checkScript(t, 'e', long, long, nil, commands("1,2000d;"))
	checkScript(t, 'e', nil, nil, long, slices.Concat(commands("0a;"), long, commands(".;")))
	checkScript(t, 'e', long, long, long[:1999], commands("2000d;"))
	checkScript(t, 'e', long[:1999], long[:1999], long, commands("1999a;1999;.;"))
	checkScript(t, 'x', long, nil, brief.File("a"), commands("1,2000c;a;.;"))
	other, want := slices.Clone(long), []string(nil)
	for at := 1998; at >= 0; at -= 3 {
		other[at] = ".\n"
		n := strconv.Itoa(at + 1)
		want = append(want, n+"c\n", "..\n", ".\n", n+"s/^\\.//\n")
	}
	checkScript(t, 'E', long, long, other, want)
	checkScript(t, 'E', other, long, long, nil)
	points := slices.Repeat([]string{".\n"}, 2000)
	for _, flag := range []byte(known) {
		checkScript(t, flag, long, points, other, scriptByWords(t, flag, long, points, other))
		checkScript(t, flag, points, long, other, scriptByWords(t, flag, points, long, other))
	}
}

// P16.1: wrong ones.

func TestFlagsThatArentKnown(t *testing.T) {
	a, b := brief.File("a"), brief.File("b")
	for flag := range 256 {
		want := api.ErrArg
		if strings.Contains(known, string(rune(flag))) {
			want = api.OK
		}
		checkError(t, "three files", byte(flag), a, b, a, want)
		checkError(t, "no file", byte(flag), nil, nil, nil, want)
	}
}

// inEachPlace hands over three files of which one, two, or all are the wrong one.
func inEachPlace(wrong, other []string, see func(mine, older, yours []string)) {
	for which := 1; which < 1<<3; which++ {
		var files [3][]string
		for k := range files {
			files[k] = other
			if which>>k&1 == 1 {
				files[k] = wrong
			}
		}
		see(files[0], files[1], files[2])
	}
}

func TestWrongFiles(t *testing.T) {
	long := brief.Numbered(2001)
	for _, c := range []struct {
		name  string
		wrong []string
		want  api.Errno
	}{
		{"an empty text", []string{"a\n", ""}, api.ErrForm},
		{"an open line ahead", []string{"a", "a\n"}, api.ErrForm},
		{"two lines in a text", []string{"a\na\n", "a\n"}, api.ErrForm},
		{"an empty text of too many", append(slices.Clip(long), ""), api.ErrForm},
		{"too many", long, api.ErrLong},
		{"too many, the last one open", append(slices.Clip(long), "a"), api.ErrLong},
		{"an open line", []string{"a\n", "a"}, api.ErrOpen},
		{"as many as may be, the last one open", append(slices.Clip(long[:1999]), "a"), api.ErrOpen},
	} {
		for _, other := range [][]string{nil, brief.File("a"), brief.File("b")} {
			inEachPlace(c.wrong, other, func(mine, older, yours []string) {
				for _, flag := range []byte(known) {
					checkError(t, c.name, flag, mine, older, yours, c.want)
				}
				checkError(t, c.name, '?', mine, older, yours, api.ErrArg)
			})
		}
	}
}

// An open line is wrong also where nothing is done there, and where it would not be told.
func TestOpenFiles(t *testing.T) {
	for _, files := range []string{"a~,a~,a~", "a~,a,a", "a,a~,a", "a,a,a~", "ab~,xb~,yb~", "a~,,", ",a~,", ",,a~", "ab,ab~,ab", "a~,b~,c~", "a~,b~,"} {
		f := brief.Files(files)
		for _, flag := range []byte(known) {
			checkError(t, files, flag, f[0], f[1], f[2], api.ErrOpen)
		}
		checkError(t, files, 'a', f[0], f[1], f[2], api.ErrArg)
	}
}

// The errors in the turn in which the chapter names them, wherever each one stands.
func TestSeveralErrorsAtOnce(t *testing.T) {
	long, odd, open, a := brief.Numbered(2001), []string{"a", "a\n"}, []string{"a"}, brief.File("a")
	for files := range every.List([][]string{odd, long, open, a}, 3) {
		want := api.OK
		has := func(wrong []string) bool {
			return slices.ContainsFunc(files, func(file []string) bool { return slices.Equal(file, wrong) })
		}
		switch {
		case has(odd):
			want = api.ErrForm
		case has(long):
			want = api.ErrLong
		case has(open):
			want = api.ErrOpen
		}
		for _, flag := range []byte(known) {
			checkError(t, "several", flag, files[0], files[1], files[2], want)
		}
		checkError(t, "several", 0, files[0], files[1], files[2], api.ErrArg)
	}
}

// Nil and empty are the same.
func TestEmptyLists(t *testing.T) {
	a, b := brief.File("a"), brief.File("b")
	for lists := range every.List([][]string{nil, {}}, 3) {
		for _, flag := range []byte(known) {
			checkScript(t, flag, lists[0], lists[1], lists[2], nil)
			checkScript(t, flag, lists[0], a, lists[1], nil)
			checkScript(t, flag, a, lists[0], lists[1], nil)
		}
		checkScript(t, 'e', lists[0], lists[1], a, commands("0a;a;.;"))
		checkScript(t, 'e', a, a, lists[0], commands("1d;"))
		checkScript(t, 'X', lists[0], a, b, commands("0a;=======;b;>>>>>>> YOURS;.;0a;<<<<<<< MINE;.;"))
		checkScript(t, 'A', a, lists[0], b, commands("1a;||||||| OLDER;=======;b;>>>>>>> YOURS;.;0a;<<<<<<< MINE;.;"))
	}
}

// What is handed in stays as it is, also where it has room behind its end, and where what is told is written into.
func TestWhatIsHandedInStays(t *testing.T) {
	for _, files := range []string{"a,a,.b", "a,b,c", "a,.,.", "abcde,xb.dv,yb.dw", ",.,..", "abxdefz,abcdefg,.wdyfg", ",,"} {
		f := brief.Files(files)
		var alls [3][]string
		for k := range f {
			f[k], alls[k] = brief.Roomy(f[k])
		}
		for _, flag := range []byte(known) {
			want := scriptByWords(t, flag, f[0], f[1], f[2])
			first, second := scriptOf(t, flag, f[0], f[1], f[2]), scriptOf(t, flag, f[0], f[1], f[2])
			first = append(first, "!")
			for i := range first {
				first[i] = "!"
			}
			if !slices.Equal(second, want) {
				t.Errorf("%q, of %s: what was told again has become %q", flag, files, second)
			}
			checkScript(t, flag, f[0], f[1], f[2], want)
		}
		for k := range alls {
			if want := append(brief.Files(files)[k], "room"); !slices.Equal(alls[k], want) {
				t.Errorf("%s: what was handed in has become %q", files, alls[k])
			}
		}
	}
}

// P16.2: the commands for a chunk change nothing above it.
func TestNothingAboveAChunkIsChanged(t *testing.T) {
	eachThree(func(mine, older, yours []string) {
		for _, flag := range []byte(known) {
			script, file := scriptOf(t, flag, mine, older, yours), mine
			for _, at := range slices.Backward(chunksOf(t, mine, older, yours)) {
				for range countCommands(t, chunkByWords(flag, at)) {
					var c command
					c, script = cutCommand(t, script)
					file = runCommand(t, c, file)
					if above := at.first - 1; !slices.Equal(file[:above], mine[:above]) {
						t.Fatalf("%q, of %q, %q, %q: %+v changes what stands above: %q", flag, mine, older, yours, c, file)
					}
				}
			}
			if len(script) > 0 {
				t.Fatalf("%q, of %q, %q, %q: %q is left", flag, mine, older, yours, script)
			}
		}
	})
}

// countCommands is how many commands there are.
func countCommands(t *testing.T, script string) int {
	t.Helper()
	n := 0
	for l := lines.Split([]byte(script)); len(l) > 0; n++ {
		_, l = cutCommand(t, l)
	}
	return n
}

// P16.2: the numbers are those of mine's lines, as they were: what is run makes of mine what the flag makes of each chunk.
func TestWhatIsRunMakesTheResult(t *testing.T) {
	eachThree(func(mine, older, yours []string) {
		for _, flag := range []byte(known) {
			var want []string
			rest := 0
			for _, c := range chunksOf(t, mine, older, yours) {
				want = slices.Concat(want, mine[rest:c.first-1], flags.Result(flag, c.mine, c.older, c.yours))
				rest = c.last
			}
			want = slices.Concat(want, mine[rest:])
			if got := runScript(t, scriptOf(t, flag, mine, older, yours), mine); !slices.Equal(got, want) {
				t.Fatalf("%q, of %q, %q, %q: %q, want %q", flag, mine, older, yours, got, want)
			}
		}
	})
}
