package ed

import (
	"regexp"
	"slices"
	"strconv"
	"strings"
	"testing"

	"sennit/api"
	"sennit/brief"
	"sennit/every"
	"sennit/flags"
	"sennit/lines"
	"sennit/merge"
	"sennit/script"
)

// commandLines is a script's lines, each line feed as a semicolon; without one the last is an open line.
func commandLines(short string) []string {
	return lines.Split([]byte(strings.ReplaceAll(short, ";", "\n")))
}

// told is what Run tells.
type told struct {
	file    string
	written bool
	line    int
	e       api.Errno
}

func run(script, file []string) told {
	left, written, line, e := Run(script, file)
	return told{strings.Join(left, ""), written, line, e}
}

func right(file []string, written bool) told {
	return told{strings.Join(file, ""), written, 0, api.OK}
}

func wrongAt(line int, e api.Errno) told {
	return told{"", false, line, e}
}

func check(t *testing.T, script, file []string, want told) {
	t.Helper()
	if got := run(script, file); got != want {
		t.Errorf("%q, run on %q: %+v, want %+v", script, file, got, want)
	}
}

// checkRight holds what a script, with semicolons, makes of a file that is written as lines with strokes.
func checkRight(t *testing.T, short, file, want string, written bool) {
	t.Helper()
	check(t, commandLines(short), brief.Lines(file), right(brief.Lines(want), written))
}

// checkWrong holds which line of a script is wrong, run on that file.
func checkWrong(t *testing.T, short, file string, line int, e api.Errno) {
	t.Helper()
	check(t, commandLines(short), brief.Lines(file), wrongAt(line, e))
}

// What a line of a script says, by the chapter's forms.
const number = "(0|[1-9][0-9]{0,8})"

var (
	addForm   = regexp.MustCompile(`\A` + number + `a\n\z`)
	linesForm = regexp.MustCompile(`\A` + number + `(?:,` + number + `)?(c|d|s/\^\\\.//)\n\z`)
	aloneForm = regexp.MustCompile(`\A[wq]\n\z`)
)

// saying is a command as a line tells it: its letter, and m and n.
type saying struct {
	letter byte
	m, n   int
}

// sayingOf tells whether line is a command, and which.
func sayingOf(line string) (saying, bool) {
	toNumber := func(s string) int {
		n, err := strconv.Atoi(s)
		if err != nil {
			panic(err)
		}
		return n
	}
	if parts := addForm.FindStringSubmatch(line); parts != nil {
		return saying{'a', toNumber(parts[1]), toNumber(parts[1])}, true
	}
	if parts := linesForm.FindStringSubmatch(line); parts != nil {
		s := saying{parts[3][0], toNumber(parts[1]), toNumber(parts[1])}
		if parts[2] != "" {
			s.n = toNumber(parts[2])
		}
		return s, true
	}
	if aloneForm.MatchString(line) {
		return saying{letter: line[0]}, true
	}
	return saying{}, false
}

// textByWords is the text that is handed over behind at, and how many lines that takes: none, if it doesn't end.
func textByWords(script []string, at int) ([]string, int) {
	for end := at; end < len(script); end++ {
		if script[end] == ".\n" {
			return script[at:end], end - at + 1
		}
	}
	return nil, 0
}

// linesByWords tells whether all of l are ended lines.
func linesByWords(l []string) bool {
	for _, s := range l {
		if strings.Count(s, "\n") != 1 || s[len(s)-1] != '\n' {
			return false
		}
	}
	return true
}

// runByWords is P17.1 and P17.2, word by word.
func runByWords(script, file []string) told {
	if !linesByWords(file) {
		return wrongAt(0, api.ErrArg)
	}
	written := false
	for at := 0; at < len(script); {
		line := at + 1
		s, is := sayingOf(script[at])
		if !is {
			return wrongAt(line, api.ErrForm)
		}
		at++
		if s.letter == 'q' {
			break
		}
		written = s.letter == 'w'
		if written {
			continue
		}
		if s.m > s.n || s.n > len(file) || s.m == 0 && s.letter != 'a' {
			return wrongAt(line, api.ErrRange)
		}
		var text []string
		if s.letter == 'a' || s.letter == 'c' {
			took := 0
			text, took = textByWords(script, at)
			if took == 0 {
				return wrongAt(len(script)+1, api.ErrForm)
			}
			if !linesByWords(text) {
				return wrongAt(line, api.ErrForm)
			}
			at += took
		}
		if s.letter == 'a' {
			s.m++
		}
		points := false
		if s.letter == 's' {
			for _, l := range file[s.m-1 : s.n] {
				points = points || l[0] == '.'
				text = append(text, strings.TrimPrefix(l, "."))
			}
			if !points {
				return wrongAt(line, api.ErrMatch)
			}
		}
		file = slices.Concat(file[:s.m-1], text, file[s.n:])
	}
	return right(file, written)
}

// P17.1: what commands do.

func TestTheExample(t *testing.T) {
	checkRight(t, "1c;b;.;", "a/", "b/", false)
}

func TestNothingIsRun(t *testing.T) {
	for _, file := range []string{"", "a/", "./", "a/b/c/"} {
		checkRight(t, "", file, file, false)
		checkRight(t, "q;", file, file, false)
		checkRight(t, "w;", file, file, true)
	}
}

func TestTextsComeBehindALine(t *testing.T) {
	for _, c := range []struct{ script, file, want string }{
		{"0a;x;.;", "", "x/"},
		{"0a;x;y;.;", "", "x/y/"},
		{"0a;x;.;", "a/b/", "x/a/b/"},
		{"1a;x;y;z;.;", "a/b/", "a/x/y/z/b/"},
		{"2a;x;.;", "a/b/", "a/b/x/"},
		{"0a;.;", "", ""},
		{"1a;.;", "a/b/", "a/b/"},
		{"1a;;.;", "a/b/", "a//b/"},
		{"1a;..;.;", "a/b/", "a/../b/"},
		{"1a;.x;.;", "a/b/", "a/.x/b/"},
		{"1a; .;. ;.;", "a/", "a/ ./. /"},
		{"1a;w;q;1d;?;.;", "a/b/", "a/w/q/1d/?/b/"},
		{"1a;1a;.;", "a/b/", "a/1a/b/"},
	} {
		checkRight(t, c.script, c.file, c.want, false)
		checkRight(t, c.script+"w;", c.file, c.want, true)
	}
}

func TestTextsComeInPlaceOfLines(t *testing.T) {
	for _, c := range []struct{ script, file, want string }{
		{"1c;x;.;", "a/b/c/", "x/b/c/"},
		{"2c;x;.;", "a/b/c/", "a/x/c/"},
		{"3c;x;.;", "a/b/c/", "a/b/x/"},
		{"2c;x;y;z;.;", "a/b/c/", "a/x/y/z/c/"},
		{"2,2c;x;.;", "a/b/c/", "a/x/c/"},
		{"1,2c;x;.;", "a/b/c/", "x/c/"},
		{"2,3c;x;y;.;", "a/b/c/", "a/x/y/"},
		{"1,3c;x;y;z;v;.;", "a/b/c/", "x/y/z/v/"},
		{"2c;.;", "a/b/c/", "a/c/"},
		{"1,3c;.;", "a/b/c/", ""},
		{"1c;a;.;", "a/", "a/"},
		{"1c;.a;.;", "a/", ".a/"},
	} {
		checkRight(t, c.script, c.file, c.want, false)
		checkRight(t, c.script+"w;q;", c.file, c.want, true)
	}
}

func TestLinesGo(t *testing.T) {
	for _, c := range []struct{ script, file, want string }{
		{"1d;", "a/", ""},
		{"1d;", "a/b/c/", "b/c/"},
		{"2d;", "a/b/c/", "a/c/"},
		{"3d;", "a/b/c/", "a/b/"},
		{"2,2d;", "a/b/c/", "a/c/"},
		{"1,2d;", "a/b/c/", "c/"},
		{"2,3d;", "a/b/c/", "a/"},
		{"1,3d;", "a/b/c/", ""},
	} {
		checkRight(t, c.script, c.file, c.want, false)
	}
}

func TestPointsGo(t *testing.T) {
	for _, c := range []struct{ script, file, want string }{
		{`1s/^\.//;`, "./", "/"},
		{`1s/^\.//;`, "../", "./"},
		{`1s/^\.//;`, ".../", "../"},
		{`1s/^\.//;`, ".a.b/", "a.b/"},
		{`2s/^\.//;`, ".a/.b/.c/", ".a/b/.c/"},
		{`2,2s/^\.//;`, ".a/.b/.c/", ".a/b/.c/"},
		{`1,2s/^\.//;`, ".a/.b/.c/", "a/b/.c/"},
		{`1,3s/^\.//;`, "a./.b/ .c/", "a./b/ .c/"},
		{`1,3s/^\.//;`, "a/b/..c/", "a/b/.c/"},
		{`1s/^\.//;1s/^\.//;`, "../", "/"},
	} {
		checkRight(t, c.script, c.file, c.want, false)
	}
}

// Numbers are those of the lines as they are then.
func TestNumbersAreThoseOfThen(t *testing.T) {
	for _, c := range []struct{ script, file, want string }{
		{"1d;1d;", "a/b/c/", "c/"},
		{"1d;2d;", "a/b/c/", "b/"},
		{"2d;1d;", "a/b/c/", "c/"},
		{"0a;x;.;1d;", "a/", "a/"},
		{"0a;x;.;2d;", "a/", "x/"},
		{"0a;x;y;.;3a;z;.;", "a/b/", "x/y/a/z/b/"},
		{"1c;x;y;.;3d;", "a/b/", "x/y/"},
		{"1,2d;0a;x;.;", "a/b/", "x/"},
		{"2,3c;x;.;2c;y;.;", "a/b/c/", "a/y/"},
		{"0a;..;.;1s/^\\.//;1d;", "", ""},
	} {
		checkRight(t, c.script, c.file, c.want, false)
	}
}

func TestNothingIsReadBehindQ(t *testing.T) {
	for _, behind := range []string{"", "q;", "w;", "1d;", "?;", "9d;", "1a;x;", "q", "2s/^\\.//;"} {
		checkRight(t, "q;"+behind, "a/b/", "a/b/", false)
		checkRight(t, "1d;q;"+behind, "a/b/", "b/", false)
		checkRight(t, "w;q;"+behind, "a/b/", "a/b/", true)
	}
}

// It was written, if a w came, and no other command but q behind it.
func TestWhetherItWasWritten(t *testing.T) {
	for _, c := range []struct {
		script  string
		written bool
	}{
		{"", false},
		{"w;", true},
		{"q;", false},
		{"w;q;", true},
		{"q;w;", false},
		{"w;w;", true},
		{"w;w;q;", true},
		{"0a;x;.;", false},
		{"0a;x;.;w;", true},
		{"w;0a;x;.;", false},
		{"w;0a;.;", false},
		{"w;1c;.a;.;", false},
		{"w;1d;", false},
		{"w;1s/^\\.//;", false},
		{"w;1d;q;", false},
		{"w;1d;w;", true},
		{"w;1d;w;q;", true},
		{"w;1d;w;1d;", false},
		{"w;1d;q;w;", false},
		{"0a;w;.;", false},
		{"w;0a;w;q;.;", false},
	} {
		if _, written, line, e := Run(commandLines(c.script), brief.Lines(".a/b/c/")); e != api.OK || line != 0 || written != c.written {
			t.Errorf("%s: error %d at %d, %v, want %v", c.script, e, line, written, c.written)
		}
	}
}

// P17.2: what is wrong, and where.

// odd is a file that commands of any kind may be run on.
const odd = ".a/.b/.c/"

func TestLinesThatAreNoCommands(t *testing.T) {
	for _, line := range []string{
		"", ";", ".;", "?;", " ;", "W;", "Q;", "wq;", "ww;", " w;", "w ;", "q!;", "qq;", "x;",
		"1;", "0;", "1,2;", ",;", "1,;", ",2;", "$;", "-1;",
		"1w;", "1,2w;", "0w;", "1q;", "0q;", ",w;", ",q;",
		"a;", "c;", "d;", `s/^\.//;`, "A;",
		",a;", "1,a;", ",1a;", "1,1a;", "1,2a;", "0,0a;", "01a;", "00a;", "000a;", "-0a;", "+1a;", " 1a;", "1 a;", "1a ;", "1aa;", "1A;", "$a;", ".a;", "a1;",
		",d;", "1,d;", ",1d;", "1,,2d;", "1,2,3d;", "1,2,d;", ",1,2d;", "1;2d;", "1-2d;", "1 ,2d;", "1, 2d;", "1,+2d;", "01d;", "1,02d;", "01,2d;", "00d;", "1dd;", "1d1;", "1D;", "1d ;", " 1d;", "%d;", "1.d;", "1e0d;", "0x1d;", "1_0d;",
		",c;", "1,c;", ",1c;", "1,2,3c;", "01c;", "1,01c;", "1cc;", "1C;", "1ca;",
		`,s/^\.//;`, `1,s/^\.//;`, `1,2,3s/^\.//;`, `01s/^\.//;`, "1s;", "1s/;", "1s/./;", `1s/^\./;`, `1s/^\.//g;`, `1s/^\.//p;`, `1s/^.//;`, `1s/\.//;`, `1s/^\..//;`, `1s/^\.///;`, `1S/^\.//;`, `1s/^\.// ;`, `1s/^\.//d;`, `1s/^\\.//;`,
		"1p;", "1i;", "1m2;", "1t2;", "1,2j;", "1g;", "u;", "e;", "=;", "1r;",
		"1\u0662d;", "\u0661d;", "1d\r;", "1\x00d;", "\ufeff1d;",
		"w", "q", "1d", "0a", "1c", `1s/^\.//`, "?", "1", ".", "x",
	} {
		// Each is one text, also where it has several line feeds.
		text := strings.ReplaceAll(line, ";", "\n")
		for _, behind := range []string{"", "x;.;", "1d;", "?;", "q;"} {
			for ahead, least := range map[string]int{"": 1, "w;": 2, "1d;0a;.z;.;": 5} {
				script := slices.Concat(commandLines(ahead), []string{text}, commandLines(behind))
				check(t, script, brief.Lines(odd), wrongAt(least, api.ErrForm))
			}
		}
	}
}

// A command stands in a line of its own, with its line feed.
func TestCommandsThatAreNoLines(t *testing.T) {
	for _, command := range []string{"w", "q", "1d", "0a", "1,2d", "1c", `1s/^\.//`} {
		for _, text := range []string{command, command + "\n\n", "\n" + command + "\n", command + "\nw\n", "w\n" + command + "\n", command + "\n ", command + "\r\n", command + "\n.\n"} {
			for _, behind := range []string{"", ".;", "x;.;"} {
				check(t, append([]string{text}, commandLines(behind)...), brief.Lines(odd), wrongAt(1, api.ErrForm))
			}
		}
	}
}

// A number has one to nine figures: one that has more is none, and so no command.
func TestNumbers(t *testing.T) {
	for figures := 1; figures <= 25; figures++ {
		for _, n := range []string{strings.Repeat("9", figures), "1" + strings.Repeat("0", figures-1), "4" + strings.Repeat("2", figures-1)} {
			e := api.ErrRange
			if figures > 9 {
				e = api.ErrForm
			}
			if n == "1" {
				continue
			}
			for _, name := range []string{"d;", "c;x;.;", "a;x;.;", `s/^\.//;`} {
				checkWrong(t, n+name, odd, 1, e)
			}
			checkWrong(t, "1,"+n+"d;", odd, 1, e)
			checkWrong(t, n+",1d;", odd, 1, e)
		}
	}
	file := brief.Numbered(12345)
	check(t, commandLines("12345d;"), file, right(file[:12344], false))
	check(t, commandLines("2,12344d;"), file, right([]string{file[0], file[12344]}, false))
	check(t, commandLines("10,12345c;.;"), file, right(file[:9], false))
	check(t, commandLines("12345a;x;.;"), file, right(append(slices.Clip(file), "x\n"), false))
	check(t, commandLines("12346a;x;.;"), file, wrongAt(1, api.ErrRange))
	check(t, commandLines("12346d;"), file, wrongAt(1, api.ErrRange))
}

func TestLinesThatAreNotThere(t *testing.T) {
	for _, name := range []string{"c;x;.;", "c;.;", "c;", "c;x;", "c;x", "d;", `s/^\.//;`} {
		for _, numbers := range []string{"0", "0,0", "0,1", "0,3", "4", "3,4", "4,4", "1,4", "4,5", "2,1", "3,1", "3,2", "4,1", "1,0", "4,0", "999999999", "1,999999999", "999999999,1"} {
			checkWrong(t, numbers+name, odd, 1, api.ErrRange)
			checkWrong(t, "w;"+numbers+name, odd, 2, api.ErrRange)
		}
		for _, numbers := range []string{"0", "1", "1,1", "0,0", "0,1", "1,0", "1,2"} {
			checkWrong(t, numbers+name, "", 1, api.ErrRange)
		}
	}
	for _, text := range []string{"a;x;.;", "a;.;", "a;", "a;x;", "a;x"} {
		checkWrong(t, "1"+text, "", 1, api.ErrRange)
		checkWrong(t, "4"+text, odd, 1, api.ErrRange)
		checkWrong(t, "999999999"+text, odd, 1, api.ErrRange)
	}
	// What is there is told by what was done ahead.
	checkWrong(t, "1d;1d;1d;1d;", odd, 4, api.ErrRange)
	checkWrong(t, "2d;3d;", odd, 2, api.ErrRange)
	checkWrong(t, "1,3c;x;.;2d;", odd, 4, api.ErrRange)
	checkRight(t, "3a;x;.;4d;", odd, odd, false)
}

// Of texts that are to be handed over, and don't end, the line behind the last one is wrong.
func TestTextsThatDoNotEnd(t *testing.T) {
	for _, c := range []struct {
		script string
		line   int
	}{
		{"0a;", 2},
		{"3a;", 2},
		{"1c;", 2},
		{"1,3c;", 2},
		{"0a;x;", 3},
		{"0a;x;y;", 4},
		{"1c;x;y;", 4},
		{"0a;x", 3},
		{"0a;.", 3},
		{"0a;..;", 3},
		{"0a; .;", 3},
		{"0a;. ;", 3},
		{"0a;w;q;", 4},
		{"0a;?;99d;", 4},
		{"0a;x;.;1a;y;z;", 7},
		{"w;1d;0a;x;", 5},
	} {
		checkWrong(t, c.script, odd, c.line, api.ErrForm)
	}
	for _, script := range [][]string{{"0a\n", ".\n\n"}, {"0a\n", ""}, {"0a\n", "\n.\n"}, {"1c\n", "x\n.\n"}} {
		check(t, script, brief.Lines(odd), wrongAt(3, api.ErrForm))
	}
	// Also where what stands there may not be lines: nothing is handed over.
	check(t, []string{"0a\n", "x", "", "y\nz\n"}, brief.Lines(odd), wrongAt(5, api.ErrForm))
}

func TestNoLineThatBeginsWithAPoint(t *testing.T) {
	for _, c := range []struct {
		script, file string
		line         int
	}{
		{`1s/^\.//;`, "a/", 1},
		{`1s/^\.//;`, "/", 1},
		{`1s/^\.//;`, " ./", 1},
		{`1s/^\.//;`, "a./", 1},
		{`2s/^\.//;`, ".a/b/.c/", 1},
		{`1,3s/^\.//;`, "a/b/c/.d/", 1},
		{`2,4s/^\.//;`, ".a/b/c/d/.e/", 1},
		{`w;2s/^\.//;`, ".a/b/.c/", 2},
		{`1s/^\.//;1s/^\.//;`, ".a/b/", 2},
		{`0a;x;.;1s/^\.//;`, ".a/", 4},
		{`1s/^\.//;`, "\u2024a/", 1},
	} {
		checkWrong(t, c.script, c.file, c.line, api.ErrMatch)
	}
}

// Texts that are handed over, and may not be lines, or are open: the command's line is wrong.
func TestTextsThatAreNoLines(t *testing.T) {
	for _, text := range [][]string{{""}, {"x"}, {"x", "y\n"}, {"x\n", "y"}, {"", "x\n"}, {"x\n", ""}, {"x\ny\n"}, {"x\n\n"}, {"\n\n"}, {"x\ny"}, {"."}, {"x\n.\n"}, {"x\n", "y\nz\n", "v\n"}} {
		for _, command := range []string{"0a;", "3a;", "1c;", "1,3c;"} {
			for ahead, line := range map[string]int{"": 1, "w;": 2, "0a;x;.;1d;": 5} {
				for _, behind := range []string{".;", ".;1d;", ".;?;", ".;0a;"} {
					script := slices.Concat(commandLines(ahead+command), text, commandLines(behind))
					check(t, script, brief.Lines(odd), wrongAt(line, api.ErrForm))
				}
			}
		}
		// The numbers are wrong first.
		for _, command := range []string{"4a;", "0c;", "2,1c;", "1,4c;"} {
			script := slices.Concat(commandLines(command), text, commandLines(".;"))
			check(t, script, brief.Lines(odd), wrongAt(1, api.ErrRange))
		}
	}
}

// The first line that is wrong is told, whatever stands behind it.
func TestTheFirstLineThatIsWrong(t *testing.T) {
	kinds := []struct {
		script []string
		e      api.Errno
	}{
		{commandLines("?;"), api.ErrForm},
		{commandLines("9d;"), api.ErrRange},
		{commandLines("9a;"), api.ErrRange},
		{commandLines("2,1s/^\\.//;"), api.ErrRange},
		{commandLines("4s/^\\.//;"), api.ErrMatch},
		{[]string{"0a\n", "x", ".\n"}, api.ErrForm},
		{[]string{"4c\n", "", ".\n"}, api.ErrForm},
	}
	file := brief.Lines(".a/.b/.c/d/")
	for _, first := range kinds {
		for _, second := range kinds {
			both := slices.Concat(first.script, second.script)
			check(t, both, file, wrongAt(1, first.e))
			check(t, slices.Concat(commandLines("w;"), both, commandLines("q;")), file, wrongAt(2, first.e))
		}
	}
	check(t, []string{"9d\n", "0a\n", "x", ".\n"}, file, wrongAt(1, api.ErrRange))
	check(t, []string{"9d\n", "0a\n", "x\n"}, file, wrongAt(1, api.ErrRange))
}

func TestFilesThatMayNotBe(t *testing.T) {
	for _, file := range [][]string{{""}, {"a"}, {"\n\n"}, {"a\n", "b"}, {"a", "b\n"}, {"a\n", ""}, {"", "a\n"}, {"a\nb\n"}, {"a\n", "b\nc\n"}, {"a\nb"}, {"."}, append(brief.Numbered(2000), "a")} {
		for _, script := range []string{"", "q;", "w;", "1d;", "?;", "9d;", "0a;", "0a;x;.;", "1,2d;w;q;"} {
			check(t, commandLines(script), file, wrongAt(0, api.ErrArg))
		}
		check(t, []string{""}, file, wrongAt(0, api.ErrArg))
		check(t, nil, file, wrongAt(0, api.ErrArg))
	}
}

// With an error the file is nothing, whatever was done ahead.
func TestNothingIsToldWithAnError(t *testing.T) {
	for _, script := range []string{"?;", "0a;x;.;w;?;", "1d;w;9d;", "w;0a;x;", "w;1d;1s/^\\.//;"} {
		left, written, line, e := Run(commandLines(script), brief.Lines(".a/b/c/"))
		if e == api.OK || len(left) != 0 || written || line == 0 {
			t.Errorf("%s: error %d at %d, %q, %v", script, e, line, left, written)
		}
	}
}

// All short scripts, of lines that do something, or are wrong, held against the words' own reckoning.
func TestShortScripts(t *testing.T) {
	texts := commandLines("0a;1a;2a;1c;1,2c;2d;1,3d;1s/^\\.//;1,2s/^\\.//;w;q;.;.x;?;")
	files := append(brief.Ended("a.", 2), brief.Lines(".a/b/..c/"))
	for script := range every.UpTo(texts, 4) {
		for _, file := range files {
			if got, want := run(script, file), runByWords(script, file); got != want {
				t.Fatalf("%q, run on %q: %+v, want %+v", script, file, got, want)
			}
		}
	}
}

// All short scripts that change something, with texts that are no lines, too.
func TestScriptsWithOddTexts(t *testing.T) {
	texts := []string{"0a\n", "1c\n", "2d\n", "w\n", ".\n", "x\n", "x", "", "x\ny\n"}
	for script := range every.UpTo(texts, 5) {
		for _, file := range [][]string{nil, brief.File("ab")} {
			if got, want := run(script, file), runByWords(script, file); got != want {
				t.Fatalf("%q, run on %q: %+v, want %+v", script, file, got, want)
			}
		}
	}
}

// All short lines as commands.
func TestShortLines(t *testing.T) {
	parts := []string{"0", "1", "2", "3", ",", "a", "c", "d", "w", "q", `s/^\.//`, " ", "\n"}
	file := brief.Lines(".a/b/")
	for line := range every.UpTo(parts, 4) {
		for _, end := range []string{"", "\n"} {
			script := []string{strings.Join(line, "") + end, "x\n", ".\n"}
			for _, script := range [][]string{script, script[:1]} {
				if got, want := run(script, file), runByWords(script, file); got != want {
					t.Fatalf("%q, run on %q: %+v, want %+v", script, file, got, want)
				}
			}
		}
	}
}

// P17.3: what a script is run on stays lines; and commands behind others are run on what these left.
func TestOneScriptBehindAnother(t *testing.T) {
	commands := [][]string{
		commandLines("0a;x;.y;.;"), commandLines("1a;.;"), commandLines("1c;..;.;"), commandLines("1,2c;z;.;"),
		commandLines("1d;"), commandLines("2,3d;"), commandLines("1s/^\\.//;"), commandLines("2,2s/^\\.//;"),
		commandLines("w;"), commandLines("q;"), commandLines("?;"), commandLines("0a;x;"),
	}
	files := brief.Ended("a.", 2)
	for first := range every.List(commands, 2) {
		ahead := slices.Concat(first...)
		for _, file := range files {
			left, _, _, e := Run(ahead, file)
			if !linesByWords(left) {
				t.Fatalf("%q, run on %q: %q are no lines", ahead, file, left)
			}
			if e != api.OK || slices.Contains(ahead, "q\n") {
				continue
			}
			for behind := range every.UpTo(commands, 2) {
				script := slices.Concat(behind...)
				want := run(script, left)
				if want.line > 0 {
					want.line += len(ahead)
				}
				if len(script) == 0 || script[0] == "q\n" {
					want.written = ahead[len(ahead)-1] == "w\n"
				}
				if got := run(slices.Concat(ahead, script), file); got != want {
					t.Fatalf("%q, and %q, run on %q: %+v, want %+v", ahead, script, file, got, want)
				}
			}
		}
	}
}

// P6: the commands for three texts, run on the first one, make what the flag makes of each chunk.
func TestWhatScriptTells(t *testing.T) {
	for _, all := range [][][]string{brief.Ended("ab", 3), brief.Ended("a.", 3), brief.Files(",.,abcde,xbcde,axcxe,.bc.e,ace,a..e,a.bcde")} {
		for files := range every.List(all, 3) {
			mine, older, yours := files[0], files[1], files[2]
			for _, flag := range []byte("ex3EXA") {
				want := mergedByChunks(t, flag, mine, older, yours)
				for _, end := range []bool{false, true} {
					l, _ := script.Script(flag, mine, older, yours, end)
					if got := run(l, mine); got != right(want, end) {
						t.Fatalf("%q, of %q, %q, %q: %+v, want %q", flag, mine, older, yours, got, want)
					}
				}
			}
		}
	}
}

// mergedByChunks is what a flag makes of each chunk.
func mergedByChunks(t *testing.T, flag byte, mine, older, yours []string) []string {
	t.Helper()
	chunks, e := merge.Chunks(older, [][]string{mine, yours})
	if e != api.OK {
		t.Fatalf("%q, %q, %q: error %d", mine, older, yours, e)
	}
	var l []string
	for _, c := range chunks {
		m, o, y := c.Sides[0], c.Base, c.Sides[1]
		text := mine[m.From:m.To]
		if !c.Stable {
			text = flags.Result(flag, text, older[o.From:o.To], yours[y.From:y.To])
		}
		l = slices.Concat(l, text)
	}
	return l
}

// Nil and empty are the same.
func TestEmptyLists(t *testing.T) {
	for lists := range every.List([][]string{nil, {}}, 2) {
		check(t, lists[0], lists[1], right(nil, false))
		check(t, lists[0], brief.File("a"), right(brief.File("a"), false))
		check(t, commandLines("0a;x;.;"), lists[0], right(brief.File("x"), false))
		check(t, commandLines("1d;"), lists[0], wrongAt(1, api.ErrRange))
	}
}

// What is handed in stays as it is, also where it has room behind its end, and where what is told is written into.
func TestWhatIsHandedInStays(t *testing.T) {
	for _, short := range []string{"", "w;", "q;", "0a;x;y;.;", "1a;x;.;", "3a;x;.;", "1c;x;.;", "1,3c;x;y;.;", "2d;", "1,3d;", "1,3s/^\\.//;", "3a;..;x;.;4,5s/^\\.//;w;q;", "1d;1d;1d;0a;z;.;", "?;", "1d;9d;", "0a;x;"} {
		commands, allCommands := brief.Roomy(commandLines(short))
		file, allFile := brief.Roomy(brief.Lines(odd))
		want := runByWords(commands, file)
		first, _, _, _ := Run(commands, file)
		second, _, _, _ := Run(commands, file)
		first = append(first, "!")
		for i := range first {
			first[i] = "!"
		}
		if got := strings.Join(second, ""); got != want.file {
			t.Errorf("%s: what was told again has become %q", short, got)
		}
		check(t, commands, file, want)
		if !slices.Equal(allCommands, append(commandLines(short), "room")) || !slices.Equal(allFile, append(brief.Lines(odd), "room")) {
			t.Errorf("%s: what was handed in has become %q, %q", short, allCommands, allFile)
		}
	}
}

func TestLongScripts(t *testing.T) {
	const n = 2000
	file := brief.Numbered(n)
	var drop, turned, points []string
	for i := range n {
		drop = append(drop, "1d\n")
		turned = append(turned, strconv.Itoa(i)+"a\n", file[n-1-i], ".\n")
		points = append(points, strconv.Itoa(i+1)+"c\n", ".."+file[i], ".\n", strconv.Itoa(i+1)+"s/^\\.//\n")
	}
	check(t, drop, file, right(nil, false))
	check(t, append(drop, "1d\n"), file, wrongAt(n+1, api.ErrRange))
	back := slices.Clone(file)
	slices.Reverse(back)
	check(t, turned, nil, right(back, false))
	check(t, slices.Concat(turned, commandLines("1,"+strconv.Itoa(n)+"d;w;q;")), nil, right(nil, true))
	dotted := make([]string, n)
	for i := range dotted {
		dotted[i] = "." + file[i]
	}
	check(t, points, file, right(dotted, false))
	check(t, slices.Concat(points, commandLines("1,"+strconv.Itoa(n)+"s/^\\.//;w;")), file, right(file, true))
	check(t, slices.Concat(commandLines("0a;"), file, commandLines(".;")), file, right(slices.Concat(file, file), false))
	check(t, slices.Concat(commandLines("0a;"), file), file, wrongAt(n+2, api.ErrForm))
}
