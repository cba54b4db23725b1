package unmark

import (
	"math"
	"regexp"
	"slices"
	"strconv"
	"strings"
	"testing"

	"sennit/api"
	"sennit/brief"
	"sennit/every"
	"sennit/lines"
	"sennit/mark"
	"sennit/merge"
	"sennit/pick"
	"sennit/size"
	"sennit/zeal"
)

var styles = []int{api.Plain, api.Diff3, api.Zealous}

// parsed is what lines are read as, and their style; it holds all that P13.2 asks of what is right.
func parsed(t *testing.T, l []string, long int) ([]api.Piece, int) {
	t.Helper()
	pieces, style, wrong, e := Parse(l, long)
	if e != api.OK || wrong != 0 {
		t.Fatalf("%q, long %d: error %d, wrong %d", l, long, e, wrong)
	}
	if !pick.Same(pieces, pick.Normal(pieces)) {
		t.Fatalf("%q, long %d: %+v isn't normal", l, long, pieces)
	}
	back, e := mark.Print(pieces, style, long)
	if e != api.OK || !slices.Equal(back, l) {
		t.Fatalf("%q, long %d: %s, printed %q, error %d", l, long, brief.ShownPieces(pieces), back, e)
	}
	return pieces, style
}

func checkPieces(t *testing.T, l []string, long, style int, want []api.Piece) {
	t.Helper()
	pieces, got := parsed(t, l, long)
	if got != style || !pick.Same(pieces, want) {
		t.Fatalf("%q, long %d: style %d, %s, want style %d, %s", l, long, got, brief.ShownPieces(pieces), style, brief.ShownPieces(want))
	}
}

func checkRead(t *testing.T, strokes string, long, style int, want string) {
	t.Helper()
	checkPieces(t, brief.Lines(strokes), long, style, brief.Pieces(want))
}

func checkError(t *testing.T, l []string, long int, want api.Errno, wrong int) {
	t.Helper()
	pieces, style, got, e := Parse(l, long)
	if e != want || got != wrong || style != 0 || len(pieces) != 0 {
		t.Fatalf("%q, long %d: error %d, wrong %d, style %d, %s, want error %d, wrong %d", l, long, e, got, style, brief.ShownPieces(pieces), want, wrong)
	}
}

// checkWrong holds that a text is the first one that is wrong, whatever stands behind it.
func checkWrong(t *testing.T, l []string, long, wrong int) {
	t.Helper()
	checkError(t, l, long, api.ErrForm, wrong)
	if wrong > len(l) {
		return
	}
	for _, behind := range [][]string{{"a\n"}, {"a"}, {""}, {"a", "b\n"}, {strings.Repeat(">", long) + "\n"}, {strings.Repeat("<", long) + " 1\n"}} {
		checkError(t, slices.Concat(l, behind), long, api.ErrForm, wrong)
	}
	checkError(t, l[:wrong], long, api.ErrForm, wrong)
}

// P13.1, P13.2: what is right.

func TestTheExample(t *testing.T) {
	checkRead(t, "<< 1/a/== 2/b/>>/", 2, api.Plain, "<:a,b>")
}

func TestTexts(t *testing.T) {
	for _, c := range []struct{ strokes, want string }{
		{"", ""},
		{"a/", "a"},
		{"a/b/c/", "abc"},
		{"a", "a~"},
		{"a/b", "ab~"},
		{"</=/|/>/", "<=|>"},
	} {
		want := api.Piece{Text: brief.File(c.want)}
		checkPieces(t, brief.Lines(c.strokes), 2, api.Plain, pick.Normal([]api.Piece{want}))
	}
}

func TestConflicts(t *testing.T) {
	for _, c := range []struct {
		name, strokes string
		style         int
		want          string
	}{
		{"two sides", "< 1/a/= 2/b/>/", api.Plain, "<:a,b>"},
		{"two sides, and a base", "< 1/a/| base/c/= 2/b/>/", api.Diff3, "<c:a,b>"},
		{"several lines", "< 1/a/b/c/| base/d/e/= 2/f/g/>/", api.Diff3, "<de:abc,fg>"},
		{"three sides", "< 1/a/= 2/b/= 3/c/>/", api.Plain, "<:a,b,c>"},
		{"three sides, and a base", "< 1/a/| base/d/= 2/b/= 3/c/>/", api.Diff3, "<d:a,b,c>"},
		{"one side", "< 1/a/>/", api.Plain, "<:a>"},
		{"one side, and a base", "< 1/a/| base/c/>/", api.Diff3, "<c:a>"},
		{"one empty side", "< 1/>/", api.Plain, "<:>"},
		{"one empty side, and an empty base", "< 1/| base/>/", api.Diff3, "<:>"},
		{"the first side is empty", "< 1/= 2/b/>/", api.Plain, "<:,b>"},
		{"the last side is empty", "< 1/a/= 2/>/", api.Plain, "<:a,>"},
		{"the middle one is empty", "< 1/a/= 2/= 3/b/>/", api.Plain, "<:a,,b>"},
		{"all are empty", "< 1/= 2/= 3/>/", api.Plain, "<:,,>"},
		{"the base is empty", "< 1/a/| base/= 2/b/>/", api.Diff3, "<:a,b>"},
		{"the base alone isn't empty", "< 1/| base/c/= 2/>/", api.Diff3, "<c:,>"},
		{"sides that are the same", "< 1/a/= 2/a/>/", api.Plain, "<:a,a>"},
		{"a text ahead", "t/u/< 1/a/= 2/b/>/", api.Plain, "tu <:a,b>"},
		{"a text behind", "< 1/a/= 2/b/>/t/u/", api.Plain, "<:a,b> tu"},
		{"an open text behind", "< 1/a/= 2/b/>/t/u", api.Plain, "<:a,b> tu~"},
		{"an open line alone behind", "< 1/a/| base/= 2/b/>/t", api.Diff3, "<:a,b> t~"},
		{"a text between", "< 1/a/= 2/b/>/t/< 1/b/>/", api.Plain, "<:a,b> t <:b>"},
		{"side by side", "< 1/a/= 2/b/>/< 1/= 2/= 3/>/", api.Plain, "<:a,b> <:,,>"},
		{"side by side, with bases", "< 1/a/| base/= 2/b/>/< 1/| base/d/>/< 1/| base/= 2/>/", api.Diff3, "<:a,b> <d:> <:,>"},
		{"texts around all", "t/< 1/| base/c/= 2/b/>/u/< 1/a/| base/>/v/", api.Diff3, "t <c:,b> u <:a> v"},
	} {
		t.Run(c.name, func(t *testing.T) { checkRead(t, c.strokes, 1, c.style, c.want) })
	}
}

// With an exclamation mark the part ahead is opened.
func TestOpenedParts(t *testing.T) {
	for _, c := range []struct {
		name, strokes string
		style         int
		want          string
	}{
		{"side 1, ahead of side 2", "<< 1/a/==! 2/b/>>/", api.Plain, "<:a~,b>"},
		{"side 1, ahead of the base", "<< 1/a/||! base/c/== 2/b/>>/", api.Diff3, "<c:a~,b>"},
		{"side 1, ahead of the end", "<< 1/a/>>!/", api.Plain, "<:a~>"},
		{"the base, ahead of side 2", "<< 1/a/|| base/c/==! 2/b/>>/", api.Diff3, "<c~:a,b>"},
		{"the base, ahead of the end", "<< 1/a/|| base/c/>>!/", api.Diff3, "<c~:a>"},
		{"side 2, ahead of side 3", "<< 1/a/== 2/b/==! 3/c/>>/", api.Plain, "<:a,b~,c>"},
		{"side 2, ahead of the end", "<< 1/a/== 2/b/>>!/", api.Plain, "<:a,b~>"},
		{"the last side of three", "<< 1/a/== 2/b/== 3/c/>>!/", api.Plain, "<:a,b,c~>"},
		{"all", "<< 1/a/||! base/c/==! 2/b/==! 3/d/>>!/", api.Diff3, "<c~:a~,b~,d~>"},
		{"the last line of several", "<< 1/a/b/==! 2/c/d/>>!/", api.Plain, "<:ab~,cd~>"},
		{"behind an empty part", "<< 1/== 2/a/>>!/", api.Plain, "<:,a~>"},
		{"ahead of a text", "<< 1/a/>>!/t/", api.Plain, "<:a~> t"},
		{"ahead of an open text", "<< 1/a/>>!/t", api.Plain, "<:a~> t~"},
		{"ahead of another conflict", "<< 1/a/>>!/<< 1/b/==! 2/>>/", api.Plain, "<:a~> <:b~,>"},
	} {
		t.Run(c.name, func(t *testing.T) { checkRead(t, c.strokes, 2, c.style, c.want) })
	}
	checkPieces(t, brief.Lines("< 1//a/=! 2/!/>!/"), 1, api.Plain, []api.Piece{{Conflict: true, Sides: [][]string{{"\n", "a"}, {"!"}}}})
	checkPieces(t, brief.Lines("< 1/\r/=! 2/>/"), 1, api.Plain, []api.Piece{{Conflict: true, Sides: [][]string{{"\r"}, nil}}})
	checkPieces(t, brief.Lines("< 1///= 2//>/"), 1, api.Plain, []api.Piece{{Conflict: true, Sides: [][]string{{"\n", "\n"}, {"\n"}}}})
}

// What has fewer of the same marker sign than marks is no mark, wherever it stands.
func TestLinesThatAreNoMarks(t *testing.T) {
	for _, line := range []string{
		"\n", "\r\n", "<\n", "< 1\n", "<!\n", "|\n", "| base\n", "=\n", "= 2\n", "=! 2\n", ">\n", ">!\n",
		"<>\n", "<=<=\n", "=>=>\n", "|<< 1\n", " << 1\n", "a>>\n", "!>>\n", "!\n", "! 1\n", " 1\n", "1\n", "base\n", "\x00\n",
		"-- 2\n", "++\n", "\xff\xff\n", "\u00ab 1\n", "\u300a\u300a 1\n", "\uff1c\uff1c 1\n", "\uff1d\uff1d 2\n",
	} {
		part := []string{line}
		checkPieces(t, part, 2, api.Plain, []api.Piece{{Text: part}})
		for behind := range 4 {
			around := slices.Repeat([]string{"a\n"}, behind)
			l := slices.Concat(around, []string{"<< 1\n"}, part, []string{"|| base\n"}, part, around, []string{"== 2\n"}, around, part, []string{">>\n"}, part)
			want := []api.Piece{
				{Text: around},
				{Conflict: true, Base: slices.Concat(part, around), Sides: [][]string{part, slices.Concat(around, part)}},
				{Text: part},
			}
			checkPieces(t, l, 2, api.Diff3, pick.Normal(want))
		}
		if open := strings.TrimSuffix(line, "\n"); open != "" {
			checkPieces(t, []string{open}, 2, api.Plain, []api.Piece{{Text: []string{open}}})
			checkPieces(t, []string{"a\n", open}, 2, api.Plain, []api.Piece{{Text: []string{"a\n", open}}})
		}
	}
}

// Marks are as long as they are told to be: longer ones are wrong, and shorter ones aren't marks.
func TestMarksOfEachSize(t *testing.T) {
	for _, long := range []int{1, 2, 3, 6, 7, 8, 255, 256, 1000, 4095, 4096} {
		times := func(sign string) string { return strings.Repeat(sign, long) }
		strokes := "t/" + times("<") + " 1/a/" + times("|") + "! base/c/" + times("=") + " 2/b/" + times(">") + "!/u"
		checkRead(t, strokes, long, api.Diff3, "t <c:a~,b~> u~")
		l := brief.Lines(strokes)
		if long > 1 {
			checkWrong(t, l, long-1, 2)
		}
		if long < api.MaxSize {
			checkPieces(t, l, long+1, api.Plain, []api.Piece{{Text: l}})
			checkPieces(t, l, api.MaxSize, api.Plain, []api.Piece{{Text: l}})
		}
		for at, sign := range map[int]string{1: "<", 3: "|", 5: "=", 7: ">"} {
			longer := slices.Clone(l)
			longer[at] = sign + longer[at]
			checkWrong(t, longer, long, at+1)
		}
	}
}

func TestAsManySidesAsMayBe(t *testing.T) {
	for _, base := range []string{"", "| base/"} {
		var sides []string
		strokes, style := "< 1/a/"+base, api.Plain
		if base != "" {
			style = api.Diff3
		}
		for side := 1; side <= api.MaxSides; side++ {
			sides = append(sides, "a")
			checkRead(t, strokes+">/", 1, style, "<:"+strings.Join(sides, ",")+">")
			for _, number := range []int{0, 1, side, side + 2, 17, 18, 100} {
				if number != side+1 {
					checkWrong(t, brief.Lines(strokes+"= "+strconv.Itoa(number)+"/"), 1, len(brief.Lines(strokes))+1)
				}
			}
			strokes += "= " + strconv.Itoa(side+1) + "/a/"
		}
		checkWrong(t, brief.Lines(strokes), 1, len(brief.Lines(strokes))-1)
	}
}

// P13.1, P13.2: what is wrong.

func TestWrongTexts(t *testing.T) {
	const plain, based = "<< 1/a/== 2/b/>>/", "<< 1/a/|| base/c/== 2/b/>>/"
	for _, c := range []struct {
		name, strokes string
		wrong         int
	}{
		{"outside: the mark of a base", "|| base/", 1},
		{"outside: the mark of side 2", "a/== 2/", 2},
		{"outside: the mark of side 1, with the sign of others", "== 1/", 1},
		{"outside: the end", ">>/", 1},
		{"outside: the end again", plain + ">>/", 6},
		{"outside: the mark of side 1 exclaims", "a/<<! 1/", 2},
		{"outside: the mark of side 2 begins one", "<< 2/", 1},
		{"side 1: side 1 again", "<< 1/<< 1/", 2},
		{"side 1: side 1 exclaims", "<< 1/a/<<! 1/", 3},
		{"side 1: side 3", "<< 1/== 3/", 2},
		{"side 1: side 1 with the sign of others", "<< 1/== 1/", 2},
		{"the base: the base again", "<< 1/|| base/|| base/", 3},
		{"the base: side 1", "<< 1/|| base/<< 1/", 3},
		{"the base: side 3", "<< 1/|| base/c/== 3/", 4},
		{"side 2: side 2 again", "<< 1/== 2/== 2/", 3},
		{"side 2: the base", "<< 1/== 2/b/|| base/", 4},
		{"side 2: side 1", "<< 1/== 2/<< 1/", 3},
		{"side 2: side 4", "<< 1/== 2/== 4/", 3},
		{"side 2, behind a base: the base", "<< 1/|| base/== 2/|| base/", 4},
		{"side 2, behind a base: side 2", "<< 1/|| base/== 2/== 2/", 4},
		{"a base, behind a conflict without one", plain + "<< 1/a/|| base/", 8},
		{"a base, behind one side without one", "<< 1/>>/<< 1/|| base/", 4},
		{"side 2, behind a conflict with a base", based + "t/<< 1/a/== 2/", 11},
		{"the end, behind a conflict with a base", based + "<< 1/>>/", 9},
		{"the end exclaims, behind a conflict with a base", based + "<< 1/a/>>!/", 10},
		{"a base, behind conflicts with and without", based + based + "<< 1/|| base/>>/<< 1/>>/", 19},
		{"side 1 has no line to be opened", "<< 1/==! 2/", 2},
		{"side 1 has no line, ahead of the base", "t/<< 1/||! base/", 3},
		{"side 1 has no line, ahead of the end", "<< 1/>>!/", 2},
		{"the base has no line, but side 1", "<< 1/a/|| base/==! 2/", 4},
		{"the base has no line, ahead of the end", "<< 1/a/|| base/>>!/", 4},
		{"side 2 has no line, but side 1", "<< 1/a/== 2/>>!/", 4},
		{"side 3 has no line, but side 2", "<< 1/a/== 2/b/== 3/>>!/", 6},
		{"side 1's last line is empty", "<< 1//>>!/", 3},
		{"side 1's last line is empty, but not the first one", "<< 1/a//==! 2/", 4},
		{"the base's last line is empty", "<< 1/a/|| base//==! 2/", 5},
		{"side 2's last line is empty", "<< 1/a/== 2/b//>>!/", 6},
		{"it ends in side 1", "<< 1/", 2},
		{"it ends in a line of side 1", "t/<< 1/a/", 4},
		{"it ends in the base", "<< 1/|| base/", 3},
		{"it ends in side 2", "<< 1/a/== 2/b/", 5},
		{"it ends in a second conflict", plain + "<< 1/a/", 8},
		{"an open line in side 1", "<< 1/a", 2},
		{"an open line in the base", "<< 1/|| base/a/b", 4},
		{"an open line in side 2", "<< 1/== 2/a", 3},
		{"an open line that is the mark of side 1", "<< 1", 1},
		{"an open line that is the mark of the base", "<< 1/|| base", 2},
		{"an open line that is the mark of side 2", "<< 1/a/== 2", 3},
		{"an open line that is the end", "<< 1/== 2/b/>>", 4},
		{"an open line that is the end, and exclaims", "<< 1/a/>>!", 3},
		{"an open line of signs alone", "a/<<", 2},
		{"an open line that begins with signs", "a/==a", 2},
		{"the first one of several", "a/>>/<< 2/== 2", 2},
	} {
		t.Run(c.name, func(t *testing.T) { checkWrong(t, brief.Lines(c.strokes), 2, c.wrong) })
	}
}

func TestTextsThatAreNoLines(t *testing.T) {
	for _, ahead := range []string{"", "a/", "<< 1/", "<< 1/a/", "<< 1/|| base/", "<< 1/== 2/b/", "<< 1/== 2/>>/", "<< 1/| base/a/>>/t/"} {
		l := brief.Lines(ahead)
		for _, wrong := range []string{"", "\n\n", "a\nb", "a\nb\n", "\na", "<< 1\n\n", "== 2\n\n", ">>\n\n", ">>\na", "|| base\nb\n", "<< 1\na", "\n>>\n"} {
			checkWrong(t, append(slices.Clone(l), wrong), 2, len(l)+1)
		}
	}
	// An open line that isn't the last one is wrong itself, not what stands behind it.
	checkError(t, []string{"a", "b\n"}, 2, api.ErrForm, 1)
	checkError(t, []string{"a", "b"}, 2, api.ErrForm, 1)
	checkError(t, []string{"a\n", "b", ""}, 2, api.ErrForm, 2)
	checkError(t, []string{"a\n", "b", "<< 1\n", ">>\n"}, 2, api.ErrForm, 2)
	checkError(t, []string{"", "a"}, 2, api.ErrForm, 1)
}

func TestWrongSizes(t *testing.T) {
	for _, l := range [][]string{nil, {"a\n"}, {""}, {"< 1\n"}, {">>\n", "a", "b\n"}, {"< 1\n", ">\n"}} {
		for _, long := range []int{0, -1, -2, -7, math.MinInt, 4097, 5000, 65537, math.MaxInt} {
			checkError(t, l, long, api.ErrArg, 0)
		}
	}
	for _, long := range []int{1, 2, 7, 4096} {
		checkRead(t, "a/", long, api.Plain, "a")
		checkRead(t, "", long, api.Plain, "")
	}
}

// P13.1, P13.2: all small lists, against the words' own reckoning.

// texts are those that the walk goes through, of marks of the size 2, each by a letter.
func texts(letters string) []string {
	var l []string
	for _, letter := range letters {
		l = append(l, map[rune]string{
			'l': "a\n", 'f': "\n", 'o': "a",
			's': "<< 1\n", 'b': "|| base\n", 'B': "||! base\n",
			'2': "== 2\n", 'T': "==! 2\n", '3': "== 3\n", 'R': "==! 3\n",
			'e': ">>\n", 'E': ">>!\n",
		}[letter])
	}
	return l
}

const letters = "lfosbB2T3ReE"

// rightByWords is what P13.1 asks, of up to three sides.
func rightByWords() *regexp.Regexp {
	partAndMark := func(mark, exclaiming string) string { return "([lf]*" + mark + "|[lf]*l" + exclaiming + ")" }
	others := "(" + partAndMark("2", "T") + partAndMark("3", "R") + "?)?" + partAndMark("e", "E")
	based := "([lf]|s" + partAndMark("b", "B") + others + ")*"
	plain := "([lf]|s" + others + ")*"
	return regexp.MustCompile("^(" + based + "|" + plain + ")o?$")
}

// walker goes through all lists of texts that may go on, and those that are wrong by their last text.
type walker struct {
	t            *testing.T
	isRight      func(letters string) bool
	depth        int
	right, wrong int
}

// mayGoOn tells whether there is a list that is right and begins so.
func (w *walker) mayGoOn(list string) bool {
	if strings.HasSuffix(list, "o") {
		return false
	}
	return w.isRight(list) || w.isRight(list+"e") || w.isRight(list+"be")
}

func (w *walker) walk(list string) {
	w.check(list, len(list)+1)
	if len(list) == w.depth {
		return
	}
	for _, letter := range letters {
		next := list + string(letter)
		if w.mayGoOn(next) {
			w.walk(next)
			continue
		}
		w.check(next, len(next))
		for _, behind := range []string{"l", "o", "e", "s", "se"} {
			w.check(next+behind, len(next))
		}
	}
}

// check holds a list that isn't right against the number of the first text that is wrong.
func (w *walker) check(list string, wrong int) {
	l := texts(list)
	if !w.isRight(list) {
		w.wrong++
		checkError(w.t, l, 2, api.ErrForm, wrong)
		return
	}
	w.right++
	pieces, style := parsed(w.t, l, 2)
	if based := strings.ContainsAny(list, "bB"); based != (style == api.Diff3) || !based && style != api.Plain {
		w.t.Fatalf("%q: style %d", l, style)
	}
	if got := strings.Count(list, "s"); got != countConflicts(pieces) {
		w.t.Fatalf("%q: %s", l, brief.ShownPieces(pieces))
	}
	for _, p := range pieces {
		if style == api.Plain && len(p.Base) > 0 {
			w.t.Fatalf("%q: %s", l, brief.ShownPieces(pieces))
		}
	}
}

func countConflicts(l []api.Piece) int {
	n := 0
	for _, p := range l {
		if p.Conflict {
			n++
		}
	}
	return n
}

func TestListsAreAsTheWordsSay(t *testing.T) {
	w := walker{t: t, isRight: rightByWords().MatchString, depth: 7}
	w.walk("")
	if w.right < 5000 || w.wrong < 100000 {
		t.Errorf("%d right, %d wrong", w.right, w.wrong)
	}
}

// What isn't just a mark, but begins as one does, is wrong wherever it stands.
func TestMarksThatThereAreNot(t *testing.T) {
	wrong := []string{
		"<<\n", "<< \n", "<< 0\n", "<< 2\n", "<< 01\n", "<< +1\n", "<< 1 \n", "<<1\n", "<<  1\n", "<<\t1\n", "<< 1\r\n", "<< 1a\n", "<<!! 1\n", "<< 1!\n", "<< ! 1\n", "<< base\n", "<<< 1\n", "<<<< 1\n", "<<> 1\n", "<<a\n", "<<! 1\n",
		"||\n", "|| \n", "||base\n", "|| Base\n", "|| base \n", "||  base\n", "|| bas\n", "|| bases\n", "||! base!\n", "||!! base\n", "|| !base\n", "||!base\n", "||! \n", "||!\n", "||| base\n", "||= base\n", "|| 1\n", "|| 2\n", "|| base\r\n",
		"==\n", "==!\n", "== \n", "== 0\n", "== 1\n", "==! 1\n", "== -2\n", "== +2\n", "== 02\n", "==! 02\n", "== 03\n", "==2\n", "==!2\n", "==  2\n", "== 2 \n", "== 3 \n", "== 2!\n", "==!! 2\n", "== 5\n", "== 17\n", "== 22\n", "== 2.0\n", "== 0x2\n", "=== 2\n", "==> 2\n", "== base\n", "== \xb2\n", "== \u0662\n", "== 18446744073709551618\n",
		">> \n", ">>!!\n", ">>! \n", ">> !\n", ">> 1\n", ">> 2\n", ">>! 2\n", ">> base\n", ">>a\n", ">>>\n", ">>>!\n", ">>>>\n", ">>=\n", ">>\r\n", ">>!\r\n",
		"<<=\n", "<<>>\n", "==>>\n", "||==\n", "<<", "|| base", "== 2", "== 3", ">>", ">>!", "<< 1", "<<\x00\n", ">>\xff\n",
	}
	isRight := rightByWords().MatchString
	w := walker{t: t, isRight: isRight}
	states := 0
	for list := range every.UpTo(strings.Split("lsb23e", ""), 4) {
		ahead := strings.Join(list, "")
		if !w.mayGoOn(ahead) {
			continue
		}
		states++
		for _, text := range wrong {
			checkWrong(t, append(texts(ahead), text), 2, len(ahead)+1)
		}
	}
	if states < 50 {
		t.Errorf("%d lists that may go on", states)
	}
}

// checkBytes holds that lines are either marks, and printed as they were, or that a first one is wrong (P8).
func checkBytes(t *testing.T, b []byte) {
	t.Helper()
	l := lines.Split(b)
	_, _, wrong, e := Parse(l, 1)
	if e == api.OK {
		parsed(t, l, 1)
		return
	}
	if wrong < 1 || wrong > len(l)+1 {
		t.Fatalf("%q: wrong %d", b, wrong)
	}
	checkError(t, l, 1, api.ErrForm, wrong)
	if _, _, n, e := Parse(l[:wrong-1], 1); e != api.OK && (e != api.ErrForm || n != wrong) {
		t.Fatalf("%q: wrong %d, but of what is ahead error %d, %d", b, wrong, e, n)
	}
	if wrong <= len(l) {
		checkError(t, l[:wrong], 1, api.ErrForm, wrong)
	}
}

func TestAnyBytes(t *testing.T) {
	for b := range every.UpTo([]byte("a\n<>! 1"), 5) {
		checkBytes(t, b)
		for _, ahead := range []string{"< 1\n", "< 1\na\n= 2\n"} {
			checkBytes(t, append([]byte(ahead), b...))
		}
	}
}

// P13.3: there and back.

// withoutBases is pieces as they are read in the plain style.
func withoutBases(l []api.Piece) []api.Piece {
	plain := slices.Clone(l)
	for at := range plain {
		plain[at].Base = nil
	}
	return plain
}

// checkThereAndBack holds pieces that are printed, if they may be, against what is read; it tells whether they may be.
func checkThereAndBack(t *testing.T, l []api.Piece, style, long int) bool {
	t.Helper()
	marked, e := mark.Print(l, style, long)
	if e != api.OK {
		return false
	}
	want, wantStyle := l, api.Diff3
	switch style {
	case api.Plain:
		want = withoutBases(l)
	case api.Zealous:
		want = zeal.Zeal(l)
	}
	if style == api.Plain || pick.Clean(want) {
		wantStyle = api.Plain
	}
	checkPieces(t, marked, long, wantStyle, want)
	return true
}

func TestConflictsThereAndBack(t *testing.T) {
	n := 0
	for p := range brief.Conflicts() {
		for _, style := range styles {
			if checkThereAndBack(t, []api.Piece{p}, style, 1) {
				n++
			}
		}
	}
	if n < 10000 {
		t.Errorf("%d alone", n)
	}
}

func TestPiecesThereAndBack(t *testing.T) {
	var kinds []api.Piece
	for _, shown := range []string{"a", "=b", "b~", "a=~", "<:>", "<c:a>", "<:a,b>", "<c~:a~,b>", "<:,>", "<:,=~>", "<c:a,a>", "<:a~,a~>", "<:xa~,xb~,x~>", "<|=:xay,xby>", "<=~:xay~,xby~>", "<:a,b,c,d,>"} {
		kinds = append(kinds, brief.Piece(shown))
	}
	kinds = append(kinds, api.Piece{Conflict: true, Base: []string{"\n"}, Sides: [][]string{{"\n"}, {"\n", "\r"}, {"<!\n"}}})
	n := 0
	for l := range every.UpTo(kinds, 3) {
		for _, style := range styles {
			for _, long := range []int{2, 3} {
				if checkThereAndBack(t, l, style, long) {
					n++
				}
			}
		}
	}
	if n < 10000 {
		t.Errorf("%d alone", n)
	}
}

// P5: a side that is chosen in all conflicts is what is made in its favour, read back, too.
func checkMergeReadBack(t *testing.T, files [][]string) {
	t.Helper()
	base, sides := files[0], files[1:]
	l, e := merge.Merge(base, sides, api.How{})
	if e != api.OK {
		t.Fatalf("%q: error %d", files, e)
	}
	long := size.Auto(files...)
	for _, style := range styles {
		marked, e := mark.Print(l, style, long)
		if e != api.OK {
			t.Fatalf("%q: error %d", files, e)
		}
		back, _ := parsed(t, marked, long)
		for side := 1; side <= len(sides); side++ {
			favoured, _ := merge.Merge(base, sides, api.How{Favour: side})
			if want, got := pick.Choose(favoured, 0), pick.Choose(back, side); !slices.Equal(got, want) {
				t.Fatalf("%q, style %d, side %d: %q, want %q", files, style, side, got, want)
			}
		}
	}
}

func TestMergesReadBack(t *testing.T) {
	for files := range every.List(brief.All("ab", 2), 3) {
		checkMergeReadBack(t, files)
	}
	for files := range every.List(brief.All("a", 2), 4) {
		checkMergeReadBack(t, files)
	}
	marked := brief.Lines("<<<<<<< 1/a/=======! 2/b/>>>>>>>")
	for files := range every.List([][]string{nil, marked, marked[1:], marked[:3], brief.Lines("a/b")}, 4) {
		checkMergeReadBack(t, files)
	}
}

func TestLongLists(t *testing.T) {
	const many = 20000
	a, b := brief.Numbered(many), slices.Repeat(brief.File("b"), many)
	long := api.Piece{Conflict: true, Base: b, Sides: [][]string{a, b}}
	checkThereAndBack(t, []api.Piece{{Text: a}, long, {Text: b}}, api.Diff3, 7)
	for _, shown := range []string{"t <c:xa,xb>", "<:a~>", "<c~:a~,b~,>"} {
		l := slices.Repeat(brief.Pieces(shown), many)
		for _, style := range styles {
			checkThereAndBack(t, l, style, 1)
		}
	}
	sides := slices.Repeat(brief.Files("a~,b"), api.MaxSides/2)
	for _, style := range styles {
		if !checkThereAndBack(t, []api.Piece{{Conflict: true, Base: a, Sides: sides}}, style, api.MaxSize) {
			t.Errorf("style %d", style)
		}
	}
}

// What is handed in stays as it is, also where it has room behind its end, and where what is told is written into.
func TestWhatIsHandedInStays(t *testing.T) {
	for _, strokes := range []string{"t/< 1/a/|! base/c/=! 2/b/= 3/>/u/v", "t/u/", "< 1/a/=! 2/b/c/>!/< 1/a/>!/"} {
		l, all := brief.Roomy(brief.Lines(strokes))
		first, style := parsed(t, l, 1)
		shown := brief.ShownPieces(first)
		brief.Spoil(first)
		checkPieces(t, l, 1, style, brief.Pieces(shown))
		if got := brief.ShownLines(all); got != strokes+"room" {
			t.Errorf("%s: has become %s", strokes, got)
		}
	}
}

// No two lists that are told share a place: what is put behind one isn't seen in another.
func TestListsShareNothing(t *testing.T) {
	const strokes, want = "t/< 1/a/|! base/c/=! 2/b/= 3/>/u/< 1/| base/= 2/>/v/", "t <c~:a~,b,> u <:,> v"
	pieces, _ := parsed(t, brief.Lines(strokes), 1)
	for _, p := range pieces {
		for _, list := range append([][]string{p.Text, p.Base}, p.Sides...) {
			_ = append(list, "x\n", "y\n")
		}
		_ = append(p.Sides, []string{"z\n"})
	}
	if got := brief.ShownPieces(pieces); got != want {
		t.Errorf("%s, want %s", got, want)
	}
}

// Nil and empty are the same.
func TestEmptyLists(t *testing.T) {
	checkPieces(t, nil, 7, api.Plain, nil)
	checkPieces(t, []string{}, 7, api.Plain, nil)
}
