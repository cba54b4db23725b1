package mark

import (
	"math"
	"slices"
	"strconv"
	"strings"
	"testing"

	"sennit/api"
	"sennit/brief"
	"sennit/every"
	"sennit/lines"
	"sennit/merge"
	"sennit/pick"
	"sennit/zeal"
)

var styles = []int{api.Plain, api.Diff3, api.Zealous}

func printed(t *testing.T, l []api.Piece, style, long int) []string {
	t.Helper()
	texts, e := Print(l, style, long)
	if e != api.OK {
		t.Fatalf("%s, style %d, long %d: error %d", brief.ShownPieces(l), style, long, e)
	}
	if !slices.Equal(texts, lines.Split(lines.Join(texts))) {
		t.Fatalf("%s, style %d, long %d: %q aren't lines", brief.ShownPieces(l), style, long, texts)
	}
	return texts
}

func checkPrint(t *testing.T, l []api.Piece, style, long int, want string) {
	t.Helper()
	if got := brief.ShownLines(printed(t, l, style, long)); got != want {
		t.Fatalf("%s, style %d, long %d: %s, want %s", brief.ShownPieces(l), style, long, got, want)
	}
}

// checkStyles holds what is printed of pieces that are written as letters: plainly, with bases, and made smaller.
func checkStyles(t *testing.T, pieces string, long int, plain, diff3, zealous string) {
	t.Helper()
	l := brief.Pieces(pieces)
	checkPrint(t, l, api.Plain, long, plain)
	checkPrint(t, l, api.Diff3, long, diff3)
	checkPrint(t, l, api.Zealous, long, zealous)
}

func checkError(t *testing.T, name string, l []api.Piece, style, long int, want api.Errno) {
	t.Helper()
	texts, e := Print(l, style, long)
	if e != want || e != api.OK && len(texts) != 0 {
		t.Errorf("%s, style %d, long %d: error %d, %q, want %d", name, style, long, e, texts, want)
	}
}

func checkErrorOfAll(t *testing.T, name string, l []api.Piece, long int, want api.Errno) {
	t.Helper()
	for _, style := range styles {
		checkError(t, name, l, style, long, want)
	}
}

func conflict(base []string, sides ...[]string) api.Piece {
	return api.Piece{Conflict: true, Base: base, Sides: sides}
}

func text(texts ...string) api.Piece { return api.Piece{Text: texts} }

// conflictByWords is what P12.1 asks of a conflict, word by word: each part between the mark ahead and the mark behind, told from the last one back.
func conflictByWords(p api.Piece, style, long int) string {
	type part struct {
		sign, name string
		list       []string
	}
	parts := []part{{"<", " 1", p.Sides[0]}}
	if style == api.Diff3 || style == api.Zealous {
		parts = append(parts, part{"|", " base", p.Base})
	}
	for number := 2; number <= len(p.Sides); number++ {
		parts = append(parts, part{"=", " " + strconv.Itoa(number), p.Sides[number-1]})
	}
	parts = append(parts, part{sign: ">"})
	told := ""
	for at := len(parts) - 1; at >= 0; at-- {
		isOpen := func(k int) bool {
			list := parts[k].list
			return len(list) > 0 && !strings.HasSuffix(list[len(list)-1], "\n")
		}
		line := ""
		for range long {
			line += parts[at].sign
		}
		if at > 0 && isOpen(at-1) {
			line += "!"
		}
		line += parts[at].name + "\n" + strings.Join(parts[at].list, "")
		if isOpen(at) {
			line += "\n"
		}
		told = line + told
	}
	return told
}

func printByWords(l []api.Piece, style, long int) string {
	if style == api.Zealous {
		l = zeal.Zeal(l)
	}
	told := ""
	for _, p := range l {
		if p.Conflict {
			told += conflictByWords(p, style, long)
		} else {
			told += strings.Join(p.Text, "")
		}
	}
	return strings.ReplaceAll(told, "\n", "/")
}

// mayByWords tells whether texts may be lines: a line feed ends each, and stands nowhere else, but that the last one may have none.
func mayByWords(list []string) bool {
	for at, s := range list {
		feeds := strings.Count(s, "\n")
		isLine := feeds == 1 && strings.HasSuffix(s, "\n")
		if !isLine && (s == "" || feeds > 0 || at < len(list)-1) {
			return false
		}
	}
	return true
}

func wellFormedByWords(l []api.Piece) bool {
	for at, p := range l {
		ofItsKind := p.Conflict && len(p.Text) == 0 || !p.Conflict && len(p.Text) > 0 && len(p.Base) == 0 && len(p.Sides) == 0
		besideAText := at > 0 && !p.Conflict && !l[at-1].Conflict
		if !ofItsKind || besideAText || !mayByWords(p.Text) || !mayByWords(p.Base) {
			return false
		}
		for _, side := range p.Sides {
			if !mayByWords(side) {
				return false
			}
		}
		if at < len(l)-1 && len(p.Text) > 0 && !strings.HasSuffix(p.Text[len(p.Text)-1], "\n") {
			return false
		}
	}
	return true
}

// longestByWords is the most that a text of the pieces begins with of one sign.
func longestByWords(l []api.Piece) int {
	n := 0
	for _, p := range l {
		for _, s := range slices.Concat(p.Text, p.Base, slices.Concat(p.Sides...)) {
			for _, sign := range []string{"<", "|", "=", ">"} {
				n = max(n, len(s)-len(strings.TrimLeft(s, sign)))
			}
		}
	}
	return n
}

// errorByWords is the error that P12.1 names first of those that apply.
func errorByWords(l []api.Piece, style, long int) api.Errno {
	if style != 1 && style != 2 && style != 3 || long < 1 || long > 4096 {
		return api.ErrArg
	}
	for _, p := range l {
		if p.Conflict && (len(p.Sides) < 1 || len(p.Sides) > 16) {
			return api.ErrArg
		}
	}
	switch {
	case !wellFormedByWords(l), style == api.Zealous && !wellFormedByWords(zeal.Zeal(l)):
		return api.ErrForm
	case longestByWords(l) >= long:
		return api.ErrSize
	}
	return api.OK
}

// eachList calls see with all short lists of pieces of some kinds: also such as may not be, so that errors apply, one or several.
func eachList(see func(l []api.Piece)) {
	var kinds []api.Piece
	for _, shown := range []string{"", "a", "b~", "=a", "<c>", "<:a>", "<c:a,b>", "<c~:a~,b>", "<:xa~,xb~,x~>", "<=:xay~,xby~>", "<:a~,a~>", "<|=:,>"} {
		kinds = append(kinds, brief.Piece(shown))
	}
	kinds = append(kinds,
		text(""), text("a", "b\n"), text("<<\n"),
		conflict([]string{"a\nb\n"}, nil, nil),
		conflict(nil, nil, []string{">>>\n", ""}),
		conflict(nil, make([][]string, 17)...),
		api.Piece{Text: brief.File("a"), Base: brief.File("a")},
		api.Piece{Conflict: true, Text: brief.File("a"), Sides: brief.Files("a,b")},
	)
	for l := range every.UpTo(kinds, 3) {
		see(l)
	}
}

// P12.1: ordinary pieces, in each style.

func TestTexts(t *testing.T) {
	for _, c := range []struct{ pieces, want string }{
		{"", ""},
		{"a", "a/"},
		{"abc", "a/b/c/"},
		{"aaa", "a/a/a/"},
		{"a~", "a"},
		{"ab~", "a/b"},
		{"=|", "=/|/"},
	} {
		checkStyles(t, c.pieces, 2, c.want, c.want, c.want)
	}
}

func TestConflicts(t *testing.T) {
	for _, c := range []struct{ name, pieces, plain, diff3, zealous string }{
		{"two sides", "<c:a,b>", "<< 1/a/== 2/b/>>/", "<< 1/a/|| base/c/== 2/b/>>/", "<< 1/a/|| base/c/== 2/b/>>/"},
		{"several lines", "<cd:ax,by>", "<< 1/a/x/== 2/b/y/>>/", "<< 1/a/x/|| base/c/d/== 2/b/y/>>/", "<< 1/a/x/|| base/c/d/== 2/b/y/>>/"},
		{"no base", "<:a,b>", "<< 1/a/== 2/b/>>/", "<< 1/a/|| base/== 2/b/>>/", "<< 1/a/|| base/== 2/b/>>/"},
		{"the first side is empty", "<c:,b>", "<< 1/== 2/b/>>/", "<< 1/|| base/c/== 2/b/>>/", "<< 1/|| base/c/== 2/b/>>/"},
		{"the last side is empty", "<c:a,>", "<< 1/a/== 2/>>/", "<< 1/a/|| base/c/== 2/>>/", "<< 1/a/|| base/c/== 2/>>/"},
		{"all is empty", "<:,>", "<< 1/== 2/>>/", "<< 1/|| base/== 2/>>/", ""},
		{"both sides are the same", "<c:a,a>", "<< 1/a/== 2/a/>>/", "<< 1/a/|| base/c/== 2/a/>>/", "a/"},
		{"a side is the base", "<c:c,b>", "<< 1/c/== 2/b/>>/", "<< 1/c/|| base/c/== 2/b/>>/", "<< 1/c/|| base/c/== 2/b/>>/"},
		{"the same begin and end", "<c:xay,xby>", "<< 1/x/a/y/== 2/x/b/y/>>/", "<< 1/x/a/y/|| base/c/== 2/x/b/y/>>/", "x/<< 1/a/|| base/c/== 2/b/>>/y/"},
		{"the same begin, also of the base", "<xc:xa,xb>", "<< 1/x/a/== 2/x/b/>>/", "<< 1/x/a/|| base/x/c/== 2/x/b/>>/", "x/<< 1/a/|| base/x/c/== 2/b/>>/"},
		{"one side", "<c:a>", "<< 1/a/>>/", "<< 1/a/|| base/c/>>/", "a/"},
		{"one empty side", "<c:>", "<< 1/>>/", "<< 1/|| base/c/>>/", ""},
		{"three sides", "<d:a,b,c>", "<< 1/a/== 2/b/== 3/c/>>/", "<< 1/a/|| base/d/== 2/b/== 3/c/>>/", "<< 1/a/|| base/d/== 2/b/== 3/c/>>/"},
		{"three sides, two are the same", "<d:a,a,c>", "<< 1/a/== 2/a/== 3/c/>>/", "<< 1/a/|| base/d/== 2/a/== 3/c/>>/", "<< 1/a/|| base/d/== 2/a/== 3/c/>>/"},
	} {
		t.Run(c.name, func(t *testing.T) { checkStyles(t, c.pieces, 2, c.plain, c.diff3, c.zealous) })
	}
}

func TestTextsAroundConflicts(t *testing.T) {
	for _, c := range []struct{ name, pieces, plain, diff3, zealous string }{
		{"a text ahead", "t <c:a,b>", "t/< 1/a/= 2/b/>/", "t/< 1/a/| base/c/= 2/b/>/", "t/< 1/a/| base/c/= 2/b/>/"},
		{"a text behind", "<c:a,b> u", "< 1/a/= 2/b/>/u/", "< 1/a/| base/c/= 2/b/>/u/", "< 1/a/| base/c/= 2/b/>/u/"},
		{"an open text behind", "<c:a,b> tu~", "< 1/a/= 2/b/>/t/u", "< 1/a/| base/c/= 2/b/>/t/u", "< 1/a/| base/c/= 2/b/>/t/u"},
		{"a text between", "<c:a,b> t <d:b,a>", "< 1/a/= 2/b/>/t/< 1/b/= 2/a/>/", "< 1/a/| base/c/= 2/b/>/t/< 1/b/| base/d/= 2/a/>/", "< 1/a/| base/c/= 2/b/>/t/< 1/b/| base/d/= 2/a/>/"},
		{"conflicts side by side", "<c:a,b> <d:b,a>", "< 1/a/= 2/b/>/< 1/b/= 2/a/>/", "< 1/a/| base/c/= 2/b/>/< 1/b/| base/d/= 2/a/>/", "< 1/a/| base/c/= 2/b/>/< 1/b/| base/d/= 2/a/>/"},
		{"conflicts of one side, and of two", "<c:a> <d:b,a>", "< 1/a/>/< 1/b/= 2/a/>/", "< 1/a/| base/c/>/< 1/b/| base/d/= 2/a/>/", "a/< 1/b/| base/d/= 2/a/>/"},
		{"texts around what all begin, and end, with", "t <c:xay,xby> u", "t/< 1/x/a/y/= 2/x/b/y/>/u/", "t/< 1/x/a/y/| base/c/= 2/x/b/y/>/u/", "t/x/< 1/a/| base/c/= 2/b/>/y/u/"},
		{"texts around what becomes a text", "t <c:a,a> u~", "t/< 1/a/= 2/a/>/u", "t/< 1/a/| base/c/= 2/a/>/u", "t/a/u"},
	} {
		t.Run(c.name, func(t *testing.T) { checkStyles(t, c.pieces, 1, c.plain, c.diff3, c.zealous) })
	}
}

// What is open is ended, and the mark behind it tells so.
func TestOpenParts(t *testing.T) {
	for _, c := range []struct{ name, pieces, plain, diff3, zealous string }{
		{"the first side", "<c:a~,b>", "< 1/a/=! 2/b/>/", "< 1/a/|! base/c/= 2/b/>/", "< 1/a/|! base/c/= 2/b/>/"},
		{"the last side", "<c:a,b~>", "< 1/a/= 2/b/>!/", "< 1/a/| base/c/= 2/b/>!/", "< 1/a/| base/c/= 2/b/>!/"},
		{"the base", "<c~:a,b>", "< 1/a/= 2/b/>/", "< 1/a/| base/c/=! 2/b/>/", "< 1/a/| base/c/=! 2/b/>/"},
		{"the first side, and the base", "<c~:a~,b>", "< 1/a/=! 2/b/>/", "< 1/a/|! base/c/=! 2/b/>/", "< 1/a/|! base/c/=! 2/b/>/"},
		{"all", "<c~:a~,b~>", "< 1/a/=! 2/b/>!/", "< 1/a/|! base/c/=! 2/b/>!/", "< 1/a/|! base/c/=! 2/b/>!/"},
		{"the last line of several", "<cd~:ab~,ba~>", "< 1/a/b/=! 2/b/a/>!/", "< 1/a/b/|! base/c/d/=! 2/b/a/>!/", "< 1/a/b/|! base/c/d/=! 2/b/a/>!/"},
		{"the middle one of three sides", "<:a,b~,c>", "< 1/a/= 2/b/=! 3/c/>/", "< 1/a/| base/= 2/b/=! 3/c/>/", "< 1/a/| base/= 2/b/=! 3/c/>/"},
		{"a side ahead of an empty one", "<:a~,,b~>", "< 1/a/=! 2/= 3/b/>!/", "< 1/a/|! base/= 2/= 3/b/>!/", "< 1/a/|! base/= 2/= 3/b/>!/"},
		{"sides around an empty one", "<:a~,>", "< 1/a/=! 2/>/", "< 1/a/|! base/= 2/>/", "< 1/a/|! base/= 2/>/"},
		{"the base ahead of an empty side", "<c~:a,>", "< 1/a/= 2/>/", "< 1/a/| base/c/=! 2/>/", "< 1/a/| base/c/=! 2/>/"},
		{"one side", "<c:a~>", "< 1/a/>!/", "< 1/a/|! base/c/>/", "a"},
		{"the base of one side", "<c~:a>", "< 1/a/>/", "< 1/a/| base/c/>!/", "a/"},
		{"sides that differ in that alone", "<:xa,xa~>", "< 1/x/a/= 2/x/a/>!/", "< 1/x/a/| base/= 2/x/a/>!/", "x/< 1/a/| base/= 2/a/>!/"},
		{"what all end with", "<:ay~,by~>", "< 1/a/y/=! 2/b/y/>!/", "< 1/a/y/|! base/= 2/b/y/>!/", "< 1/a/| base/= 2/b/>/y"},
		{"sides that are the same", "<:ay~,ay~>", "< 1/a/y/=! 2/a/y/>!/", "< 1/a/y/|! base/= 2/a/y/>!/", "a/y"},
	} {
		t.Run(c.name, func(t *testing.T) { checkStyles(t, c.pieces, 1, c.plain, c.diff3, c.zealous) })
	}
}

// An exclamation mark tells of the same conflict alone: neither of a conflict ahead, nor of a text.
func TestOpenPartsAheadOfOtherPieces(t *testing.T) {
	checkStyles(t, "<:a,b~> <:b,a>", 1, "< 1/a/= 2/b/>!/< 1/b/= 2/a/>/", "< 1/a/| base/= 2/b/>!/< 1/b/| base/= 2/a/>/", "< 1/a/| base/= 2/b/>!/< 1/b/| base/= 2/a/>/")
	checkStyles(t, "<:a~,b~> t <:b~,a>", 1, "< 1/a/=! 2/b/>!/t/< 1/b/=! 2/a/>/", "< 1/a/|! base/= 2/b/>!/t/< 1/b/|! base/= 2/a/>/", "< 1/a/|! base/= 2/b/>!/t/< 1/b/|! base/= 2/a/>/")
	checkStyles(t, "<c~:a> <:b,a>", 1, "< 1/a/>/< 1/b/= 2/a/>/", "< 1/a/| base/c/>!/< 1/b/| base/= 2/a/>/", "a/< 1/b/| base/= 2/a/>/")
}

func TestTheExample(t *testing.T) {
	checkPrint(t, brief.Pieces("<:a,b>"), api.Plain, 7, "<<<<<<< 1/a/======= 2/b/>>>>>>>/")
	checkPrint(t, brief.Pieces("<:a,b>"), api.Diff3, 7, "<<<<<<< 1/a/||||||| base/======= 2/b/>>>>>>>/")
}

func TestMarksOfEachSize(t *testing.T) {
	times := func(sign string, long int) string { return strings.Repeat(sign, long) }
	for _, long := range []int{1, 2, 3, 6, 7, 8, 255, 256, 1000, 4095, 4096} {
		less, bars, same, more := times("<", long), times("|", long), times("=", long), times(">", long)
		plain := less + " 1/a/" + same + "! 2/b/" + more + "!/"
		diff3 := less + " 1/a/" + bars + "! base/c/" + same + " 2/b/" + more + "!/"
		checkStyles(t, "<c:a~,b~>", long, plain, diff3, diff3)
	}
}

func TestAsManySidesAsMayBe(t *testing.T) {
	var sides [][]string
	want := "< 1/"
	for k := range api.MaxSides {
		sides = append(sides, []string{"s" + strconv.Itoa(k)})
		if k > 0 {
			want += "=! " + strconv.Itoa(k+1) + "/"
		}
		want += "s" + strconv.Itoa(k) + "/"
		checkPrint(t, []api.Piece{conflict(nil, sides...)}, api.Plain, 1, want+">!/")
	}
	if !strings.Contains(want, "s8/=! 10/s9/=! 11/s10/") || !strings.HasSuffix(want, "=! 16/s15/") {
		t.Error(want)
	}
}

// Bytes are bytes: what stands in lines, other than line feeds, is printed as it is.
func TestLinesOfAnyBytes(t *testing.T) {
	for b := range 256 {
		if b == '\n' {
			continue
		}
		line := string([]byte{'x', byte(b)})
		l := []api.Piece{text(line + "\n"), conflict([]string{line}, []string{line + "\n"}, []string{line})}
		want := line + "/< 1/" + line + "/| base/" + line + "/=! 2/" + line + "/>!/"
		checkPrint(t, l, api.Diff3, 1, want)
	}
	feeds := []string{"\n", "\n"}
	checkPrint(t, []api.Piece{{Text: feeds}, conflict(feeds, feeds, nil)}, api.Diff3, 1, "//< 1///| base///= 2/>/")
	checkPrint(t, []api.Piece{conflict(nil, []string{"\r\n"}, []string{"!\n", "! 1"})}, api.Plain, 1, "< 1/\r/= 2/!/! 1/>!/")
}

func TestLongPieces(t *testing.T) {
	const many = 20000
	a, b := brief.Numbered(many), slices.Repeat(brief.File("b"), many)
	checkPrint(t, []api.Piece{{Text: a}, conflict(b, a, b), {Text: b}}, api.Diff3, 3, brief.ShownLines(a)+"<<< 1/"+brief.ShownLines(a)+"||| base/"+brief.ShownLines(b)+"=== 2/"+brief.ShownLines(b)+">>>/"+brief.ShownLines(b))
	l := slices.Repeat(brief.Pieces("t <c:xa,xb>"), many)
	checkPrint(t, l, api.Plain, 1, strings.Repeat("t/< 1/x/a/= 2/x/b/>/", many))
	checkPrint(t, l, api.Zealous, 1, strings.Repeat("t/x/< 1/a/| base/c/= 2/b/>/", many))
	checkPrint(t, slices.Repeat(brief.Pieces("<:a>"), many), api.Plain, 1, strings.Repeat("< 1/a/>/", many))
}

// Nil and empty are the same.
func TestEmptyListsThatAreNotNil(t *testing.T) {
	empty := []string{}
	checkPrint(t, []api.Piece{}, api.Zealous, 7, "")
	checkPrint(t, []api.Piece{{Conflict: true, Text: empty, Base: empty, Sides: [][]string{empty, nil}}}, api.Diff3, 1, "< 1/| base/= 2/>/")
	checkPrint(t, []api.Piece{{Text: brief.File("a"), Base: empty, Sides: [][]string{}}}, api.Diff3, 1, "a/")
	checkErrorOfAll(t, "a conflict of an empty list of sides", []api.Piece{{Conflict: true, Sides: [][]string{}}}, 7, api.ErrArg)
	checkErrorOfAll(t, "an empty text", []api.Piece{{Text: empty}}, 7, api.ErrForm)
}

// P12.1: wrong inputs.

func TestWrongStylesAndSizes(t *testing.T) {
	for _, l := range [][]api.Piece{nil, brief.Pieces("t"), brief.Pieces("<c:a,b>")} {
		name := brief.ShownPieces(l)
		for _, style := range []int{0, 4, -1, -3, 5, 255, 257, math.MaxInt, math.MinInt, math.MinInt + 1} {
			checkError(t, name, l, style, 7, api.ErrArg)
		}
		for _, long := range []int{0, -1, -7, 4097, 5000, 65537, math.MaxInt, math.MinInt} {
			checkErrorOfAll(t, name, l, long, api.ErrArg)
		}
		for _, long := range []int{1, 7, 4096} {
			checkErrorOfAll(t, name, l, long, api.OK)
		}
	}
}

func TestNoSidesAndTooMany(t *testing.T) {
	for _, c := range []struct {
		count int
		want  api.Errno
	}{
		{0, api.ErrArg}, {1, api.OK}, {2, api.OK}, {15, api.OK}, {16, api.OK}, {17, api.ErrArg}, {18, api.ErrArg}, {1000, api.ErrArg},
	} {
		same := conflict(brief.File("c"), slices.Repeat(brief.Files("a"), c.count)...)
		name := strconv.Itoa(c.count) + " sides"
		checkErrorOfAll(t, name, []api.Piece{same}, 7, c.want)
		checkErrorOfAll(t, name+" between others", slices.Insert(brief.Pieces("<c:a,b> t <c:a,b>"), 1, same), 7, c.want)
		checkErrorOfAll(t, name+" at the end", append(brief.Pieces("t <c:a,b>"), same), 7, c.want)
		differing := conflict(nil, append(brief.Files("b"), same.Sides...)...)
		if c.count > 0 {
			checkErrorOfAll(t, name+", and one", []api.Piece{differing}, 7, max(c.want, errorByWords([]api.Piece{differing}, api.Plain, 7)))
		}
	}
	checkErrorOfAll(t, "sides of a text aren't those of a conflict", []api.Piece{{Text: brief.File("a"), Sides: make([][]string, 17)}}, 7, api.ErrForm)
}

func TestPiecesThatAreNotNormal(t *testing.T) {
	a := brief.File("a")
	for _, shown := range []string{" ", " a", "a ", "a b", "a  b", "a b <:a,b>", "<:a,b> a b", "<:a,b>  <:a,b>", " <:a,b>", "<:a,b> ", "a <:a,b> b c"} {
		checkErrorOfAll(t, shown, brief.Pieces(shown), 7, api.ErrForm)
	}
	for _, p := range []api.Piece{
		{},
		{Base: a},
		{Sides: brief.Files("a,b")},
		{Text: a, Base: a},
		{Text: a, Sides: brief.Files("a,b")},
		{Text: a, Sides: make([][]string, 1)},
		{Conflict: true, Text: a, Base: a, Sides: brief.Files("a,b")},
		{Conflict: true, Text: a, Sides: brief.Files("a,a")},
	} {
		checkErrorOfAll(t, "alone", []api.Piece{p}, 7, api.ErrForm)
		checkErrorOfAll(t, "ahead", []api.Piece{p, conflict(a, a, nil)}, 7, api.ErrForm)
		checkErrorOfAll(t, "behind", []api.Piece{conflict(a, a, nil), p}, 7, api.ErrForm)
	}
}

func TestWhatMayNotBeLines(t *testing.T) {
	for _, list := range [][]string{{""}, {"a\n", ""}, {"", "a\n"}, {"a", "b\n"}, {"a", "b"}, {"a\nb\n"}, {"a\nb"}, {"\n\n"}, {"\na"}, {"a\n", "b", "c\n"}} {
		name := strconv.Quote(strings.Join(list, ","))
		checkErrorOfAll(t, name+" as a text", []api.Piece{{Text: list}}, 7, api.ErrForm)
		checkErrorOfAll(t, name+" as a text behind", append(brief.Pieces("t <:a,b>"), api.Piece{Text: list}), 7, api.ErrForm)
		checkErrorOfAll(t, name+" as a base", []api.Piece{conflict(list, brief.Files("a,b")...)}, 7, api.ErrForm)
		checkErrorOfAll(t, name+" as a base that is left out", []api.Piece{conflict(list, brief.Files("a,a")...)}, 7, api.ErrForm)
		for at := range 3 {
			sides := slices.Insert(brief.Files("a,b"), at, list)
			checkErrorOfAll(t, name+" as side "+strconv.Itoa(at+1), []api.Piece{conflict(nil, sides...)}, 7, api.ErrForm)
		}
		checkErrorOfAll(t, name+" as all sides", []api.Piece{conflict(nil, list, list)}, 7, api.ErrForm)
	}
}

func TestOpenTexts(t *testing.T) {
	for _, c := range []struct {
		pieces string
		want   api.Errno
	}{
		{"t~", api.OK},
		{"<:a,b> t~", api.OK},
		{"t <:a,b> t~", api.OK},
		{"t~ <:a,b>", api.ErrForm},
		{"tu~ <:a,b>", api.ErrForm},
		{"t~ <:a,b> u", api.ErrForm},
		{"<:a,b> t~ <:a,b>", api.ErrForm},
		{"<:a,b> t~ <:a,b> t", api.ErrForm},
		{"t~ <:,>", api.ErrForm},
		{"t~ <:a~>", api.ErrForm},
	} {
		checkErrorOfAll(t, c.pieces, brief.Pieces(c.pieces), 7, c.want)
	}
}

// What conflicts become, made smaller, may be open ahead of others, though they are not in other styles.
func TestOpenTextsOfSmallerConflicts(t *testing.T) {
	for _, c := range []struct {
		pieces string
		want   api.Errno
	}{
		{"<:ay~,by~>", api.OK},
		{"t <:ay~,by~>", api.OK},
		{"<:ay~,by~> t", api.ErrForm},
		{"<:ay~,by~> t~", api.ErrForm},
		{"<:ay~,by~> <:a,b>", api.ErrForm},
		{"<:ay~,by~> <:xa,xb>", api.ErrForm},
		{"<:ay~,by~> <:,>", api.OK},
		{"<:y~,y~>", api.OK},
		{"<:y~>", api.OK},
		{"<:y~,y~> t", api.ErrForm},
		{"<:y~> <:a,b>", api.ErrForm},
		{"<:a,b> <:y~,y~> <:a,b>", api.ErrForm},
		{"<:ay~,by> t", api.OK},
		{"<:a~,b~> <:a,b>", api.OK},
		{"<y~:ay,by> t", api.OK},
		{"<y~:y,y> t", api.OK},
	} {
		l := brief.Pieces(c.pieces)
		checkError(t, c.pieces, l, api.Plain, 7, api.OK)
		checkError(t, c.pieces, l, api.Diff3, 7, api.OK)
		checkError(t, c.pieces, l, api.Zealous, 7, c.want)
	}
}

func TestTextsThatBeginWithMarks(t *testing.T) {
	for _, sign := range []string{"<", "|", "=", ">"} {
		for _, long := range []int{1, 2, 7, 4096} {
			for _, behind := range []string{"", "\n", "a\n", " 1\n", "!"} {
				wrong := []string{strings.Repeat(sign, long) + behind}
				right := []string{strings.Repeat(sign, long-1) + "a" + sign + behind}
				// Texts of all that pieces have: a base counts where it isn't printed, too, and what all sides have.
				places := func(list []string) [][]api.Piece {
					return [][]api.Piece{
						{{Text: list}},
						{conflict(nil, nil, nil), {Text: slices.Concat(brief.File("a"), list)}},
						{conflict(list, brief.Files("a,b")...)},
						{conflict(list, brief.Files("a,a")...)},
						{conflict(nil, list, nil)},
						{conflict(nil, nil, list)},
						{conflict(nil, list, list)},
						{conflict(nil, nil, nil, list, nil)},
						{conflict(nil, nil, nil), conflict(nil, nil, slices.Concat(brief.File("ab"), list))},
					}
				}
				for _, l := range places(wrong) {
					checkErrorOfAll(t, sign+behind, l, long, api.ErrSize)
					if long < api.MaxSize {
						checkErrorOfAll(t, sign+behind, l, long+1, api.OK)
					}
				}
				for _, l := range places(right) {
					checkErrorOfAll(t, sign+behind, l, long, api.OK)
				}
			}
		}
	}
}

func TestSeveralErrorsAtOnce(t *testing.T) {
	noSides, manySides := brief.Piece("<c>"), conflict(nil, make([][]string, 17)...)
	form, size := text("a\nb"), text("=======\n")
	for _, ofArg := range []api.Piece{noSides, manySides} {
		checkErrorOfAll(t, "form, arg", []api.Piece{form, ofArg}, 7, api.ErrArg)
		checkErrorOfAll(t, "arg, form", []api.Piece{ofArg, form}, 7, api.ErrArg)
		checkErrorOfAll(t, "size, arg", []api.Piece{size, ofArg}, 7, api.ErrArg)
		checkErrorOfAll(t, "size, form, arg", []api.Piece{size, form, ofArg}, 7, api.ErrArg)
	}
	checkErrorOfAll(t, "size, form", []api.Piece{size, brief.Piece("<:a,b>"), form}, 7, api.ErrForm)
	checkErrorOfAll(t, "size and form of one list", []api.Piece{text("=======", "a\n")}, 7, api.ErrForm)
	for _, l := range [][]api.Piece{{form}, {size}, {size, form}} {
		checkErrorOfAll(t, "long, and others", l, 0, api.ErrArg)
		checkErrorOfAll(t, "long, and others", l, 4097, api.ErrArg)
		checkError(t, "style, and others", l, 0, 7, api.ErrArg)
		checkError(t, "style, and others", l, 4, 7, api.ErrArg)
	}
	smaller := append(brief.Pieces("<:ay~,by~>"), size)
	checkError(t, "size", smaller, api.Plain, 7, api.ErrSize)
	checkError(t, "size", smaller, api.Diff3, 7, api.ErrSize)
	checkError(t, "size, and form of what is smaller", smaller, api.Zealous, 7, api.ErrForm)
}

// P12.1: all small arguments, against the words' own reckoning.

func TestErrorsAreAsTheWordsSay(t *testing.T) {
	eachList(func(l []api.Piece) {
		for _, style := range []int{0, 1, 2, 3, 4} {
			for _, long := range []int{0, 1, 2, 3} {
				checkError(t, brief.ShownPieces(l), l, style, long, errorByWords(l, style, long))
			}
		}
	})
}

func TestLinesAreAsTheWordsSay(t *testing.T) {
	eachList(func(l []api.Piece) {
		for _, style := range styles {
			if errorByWords(l, style, 4) == api.OK {
				checkPrint(t, l, style, 4, printByWords(l, style, 4))
			}
		}
	})
	for p := range brief.Conflicts() {
		for _, style := range styles {
			checkPrint(t, []api.Piece{p}, style, 1, printByWords([]api.Piece{p}, style, 1))
		}
	}
}

// checkSeen holds what these lines told first against what they tell now.
func checkSeen(t *testing.T, seen map[string]string, marked, told string) {
	t.Helper()
	if first, ok := seen[marked]; ok && first != told {
		t.Fatalf("%q: %s, and %s", marked, first, told)
	}
	seen[marked] = told
}

// P2: marked lines have one form: they tell what pieces there are, but for the bases in the plain style, and but for what is made smaller in the zealous one.
func TestOtherPiecesHaveOtherLines(t *testing.T) {
	seen := map[int]map[string]string{api.Plain: {}, api.Diff3: {}, api.Zealous: {}}
	see := func(l []api.Piece) {
		for style, told := range seen {
			if errorByWords(l, style, 4) != api.OK {
				continue
			}
			marked := string(lines.Join(printed(t, l, style, 4)))
			as := slices.Clone(l)
			switch style {
			case api.Plain:
				for at := range as {
					as[at].Base = nil
				}
			case api.Zealous:
				as = zeal.Zeal(l)
			}
			checkSeen(t, told, marked, brief.ShownPieces(as))
		}
	}
	eachList(see)
	for p := range brief.Conflicts() {
		see([]api.Piece{p})
	}
	if n := len(seen[api.Diff3]); n < 1000 {
		t.Errorf("%d lists alone", n)
	}
}

// P5: whatever is merged may be printed, and has a mark just if it isn't clean.
func TestMergesPrinted(t *testing.T) {
	for lists := range every.List(brief.All("ab", 2), 3) {
		l, e := merge.Merge(lists[0], lists[1:], api.How{})
		if e != api.OK {
			t.Fatalf("%q: error %d", lists, e)
		}
		for _, style := range styles {
			marked := printed(t, l, style, 7)
			if slices.Contains(marked, "<<<<<<< 1\n") == pick.Clean(l) {
				t.Fatalf("%q: %s", lists, brief.ShownLines(marked))
			}
			if pick.Clean(l) && !slices.Equal(marked, pick.Choose(l, 0)) {
				t.Fatalf("%q: %s, want %s", lists, brief.ShownLines(marked), brief.ShownPieces(l))
			}
		}
	}
}

// What is handed in stays as it is, also where a list has room behind its end, and where what is told is written into.
func TestWhatIsHandedInStays(t *testing.T) {
	for _, pieces := range []string{"t <c~:xa~,xb~,x> u~", "<c:ay~,by~>", "t~", "<c~:a~>", "<:a,b> <c~:b~,a~>"} {
		l := brief.Pieces(pieces)
		var alls [][]string
		roomy := func(list []string) []string {
			handed, all := brief.Roomy(list)
			alls = append(alls, all)
			return handed
		}
		for at := range l {
			l[at].Text, l[at].Base = roomy(l[at].Text), roomy(l[at].Base)
			for k, side := range l[at].Sides {
				l[at].Sides[k] = roomy(side)
			}
		}
		wantAlls := brief.ShownAll(alls)
		for _, style := range styles {
			want := printByWords(l, style, 2)
			first := printed(t, l, style, 2)
			checkPrint(t, l, style, 2, want)
			brief.Spoil([]api.Piece{{Text: first}})
			checkPrint(t, l, style, 2, want)
		}
		if got := brief.ShownAll(alls); got != wantAlls || brief.ShownPieces(l) != pieces {
			t.Errorf("%s: has become %s, %s", pieces, brief.ShownPieces(l), got)
		}
	}
}
