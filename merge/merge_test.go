package merge

import (
	"math"
	"slices"
	"strconv"
	"strings"
	"testing"

	"sennit/align"
	"sennit/api"
	"sennit/brief"
	"sennit/every"
	"sennit/lcs"
	"sennit/lines"
	"sennit/pick"
)

var (
	none    = api.How{}
	asUnion = api.How{Union: true}
)

func favour(side int) api.How {
	return api.How{Favour: side}
}

// cutOut are the lists' texts that lie in the chunk.
func cutOut(c api.Chunk, base []string, sides [][]string) ([]string, [][]string) {
	parts := make([][]string, len(sides))
	for k, s := range c.Sides {
		parts[k] = sides[k][s.From:s.To]
	}
	return base[c.Base.From:c.Base.To], parts
}

// shownChunks has of each chunk an equals sign, if it is stable, the base's text, a colon, and the sides' texts. As the spans stand one behind the other, their texts tell where they lie.
func shownChunks(t *testing.T, base []string, sides [][]string, l []api.Chunk) string {
	t.Helper()
	all := make([]string, len(l))
	last := api.Chunk{Sides: make([]api.Span, len(sides))}
	for at, c := range append(slices.Clip(l), ends(base, sides)) {
		if len(c.Sides) != len(sides) || c.Base.From != last.Base.To {
			t.Fatalf("%q, %q: %+v", base, sides, l)
		}
		for k, s := range c.Sides {
			if s.From != last.Sides[k].To {
				t.Fatalf("%q, %q: %+v", base, sides, l)
			}
		}
		last = c
		if at == len(l) {
			break
		}
		part, parts := cutOut(c, base, sides)
		if c.Stable {
			all[at] = "="
		}
		all[at] += brief.Shown(part) + ":" + brief.ShownAll(parts)
	}
	return strings.Join(all, " ")
}

// ends is the empty chunk behind all that there is.
func ends(base []string, sides [][]string) api.Chunk {
	c := api.Chunk{Base: api.Span{From: len(base), To: len(base)}}
	for _, side := range sides {
		c.Sides = append(c.Sides, api.Span{From: len(side), To: len(side)})
	}
	return c
}

func chunksOf(t *testing.T, base []string, sides [][]string) []api.Chunk {
	t.Helper()
	l, e := Chunks(base, sides)
	if e != api.OK {
		t.Fatalf("%q, %q: error %d", base, sides, e)
	}
	return l
}

func merged(t *testing.T, base []string, sides [][]string, how api.How) []api.Piece {
	t.Helper()
	l, e := Merge(base, sides, how)
	if e != api.OK {
		t.Fatalf("%q, %q, %+v: error %d", base, sides, how, e)
	}
	return l
}

// mergedText is what is merged, which has to be clean.
func mergedText(t *testing.T, base []string, sides [][]string, how api.How) []string {
	t.Helper()
	l := merged(t, base, sides, how)
	if !pick.Clean(l) {
		t.Fatalf("%q, %q, %+v: %s", base, sides, how, brief.ShownPieces(l))
	}
	return pick.Choose(l, 0)
}

func checkChunks(t *testing.T, base, sides, want string) {
	t.Helper()
	b, s := brief.File(base), brief.Files(sides)
	if got := shownChunks(t, b, s, chunksOf(t, b, s)); got != want {
		t.Fatalf("%s, %s: %s, want %s", base, sides, got, want)
	}
}

func checkMerge(t *testing.T, base, sides string, how api.How, want string) {
	t.Helper()
	if got := brief.ShownPieces(merged(t, brief.File(base), brief.Files(sides), how)); got != want {
		t.Fatalf("%s, %s, %+v: %s, want %s", base, sides, how, got, want)
	}
}

func checkText(t *testing.T, base []string, sides [][]string, how api.How, want []string) {
	t.Helper()
	if got := mergedText(t, base, sides, how); !slices.Equal(got, want) {
		t.Fatalf("%q, %q, %+v: %q, want %q", base, sides, how, got, want)
	}
}

// checkError asks both calls; Chunks isn't asked about how.
func checkError(t *testing.T, name string, base []string, sides [][]string, how api.How, wantChunks, wantMerge api.Errno) {
	t.Helper()
	if l, e := Chunks(base, sides); e != wantChunks || e != api.OK && len(l) != 0 {
		t.Errorf("%s: chunks: error %d, want %d; %d chunks", name, e, wantChunks, len(l))
	}
	if l, e := Merge(base, sides, how); e != wantMerge || e != api.OK && len(l) != 0 {
		t.Errorf("%s, %+v: merged: error %d, want %d; %d pieces", name, how, e, wantMerge, len(l))
	}
}

// hows are all ways in which conflicts of that many sides may be resolved.
func hows(sides int) []api.How {
	all := []api.How{none, asUnion}
	for k := range sides {
		all = append(all, favour(k+1))
	}
	return all
}

// eachMerge calls see with all small bases, and sides: of the longer ones, and of more sides, those that are ended.
func eachMerge(see func(base []string, sides [][]string)) {
	for _, c := range []struct {
		files [][]string
		sides int
	}{
		{brief.All("ab", 4), 1},
		{brief.All("ab", 2), 2},
		{brief.Ended("ab", 3), 2},
		{brief.All("abc", 1), 3},
		{brief.Ended("ab", 2), 3},
		{brief.All("a", 1), 5},
	} {
		for lists := range every.List(c.files, c.sides+1) {
			see(lists[0], lists[1:])
		}
	}
}

// chunksByWords is P8.1, word by word; a text's number is the place where it stands first.
func chunksByWords(base []string, sides [][]string) []api.Chunk {
	all := append(slices.Clone(base), slices.Concat(sides...)...)
	numbers := func(l []string) []int {
		return every.Place(len(l), func(i int) int { return slices.Index(all, l[i]) })
	}
	var sizes []int
	var matches [][]int
	for _, side := range sides {
		pair, _ := lcs.New(numbers(base), numbers(side))
		sizes, matches = append(sizes, len(side)), append(matches, pair.Match())
	}
	l, _ := align.Align(len(base), sizes, matches)
	return l
}

// differingByWords are the texts that aren't the base's, each once.
func differingByWords(base string, parts []string) []string {
	var l []string
	for _, part := range parts {
		if part != base && !slices.Contains(l, part) {
			l = append(l, part)
		}
	}
	return l
}

// unionByWords are the texts one behind the other, open lines ended where something stands behind.
func unionByWords(texts []string) string {
	all := strings.Join(texts, "")
	if strings.HasSuffix(all, "~") {
		return strings.ReplaceAll(all, "~", "") + "~"
	}
	return strings.ReplaceAll(all, "~", "")
}

// pieceByWords is the text of a chunk, or its conflict, and whether it is one.
func pieceByWords(c api.Chunk, base []string, sides [][]string, how api.How) (string, bool) {
	b, s := cutOut(c, base, sides)
	part, parts := brief.Shown(b), strings.Split(brief.ShownAll(s), ",")
	differing := differingByWords(part, parts)
	switch {
	case c.Stable || len(differing) == 0:
		return part, false
	case len(differing) == 1:
		return differing[0], false
	case how.Favour > 0:
		return parts[how.Favour-1], false
	case how.Union:
		return unionByWords(differing), false
	default:
		return "<" + part + ":" + strings.Join(parts, ",") + ">", true
	}
}

// mergeByWords is P8.2, word by word, as it is shown.
func mergeByWords(base []string, sides [][]string, how api.How) string {
	var shown []string
	text := ""
	endText := func() {
		if text != "" {
			shown = append(shown, text)
		}
		text = ""
	}
	for _, c := range chunksByWords(base, sides) {
		piece, conflict := pieceByWords(c, base, sides, how)
		if !conflict {
			text += piece
			continue
		}
		endText()
		shown = append(shown, piece)
	}
	endText()
	return strings.Join(shown, " ")
}

// P8.1: ordinary bases and sides, and the edges.

func TestChunks(t *testing.T) {
	for _, c := range []struct{ name, base, sides, want string }{
		{"the example", "abc", "xbc,aby", "a:x,a =b:b,b c:c,y"},
		{"one side, the base", "abc", "abc", "=abc:abc"},
		{"one side, another first line", "abc", "xbc", "a:x =bc:bc"},
		{"one side, another line in the middle", "abc", "axc", "=a:a b:x =c:c"},
		{"one side, another last line", "abc", "abx", "=ab:ab c:x"},
		{"one side that has nothing of the base", "ab", "xyz", "ab:xyz"},
		{"lines of a side alone", "ab", "axb,ab,abyy", "=a:a,a,a :x,, =b:b,b,b :,,yy"},
		{"lines of the base alone", "abc", "ac,bc", "ab:a,b =c:c,c"},
		{"lines that no side has", "abc", "b,b", "a:, =b:b,b c:,"},
		{"lines that one side lost", "abcd", "ad,abcd", "=a:a,a bc:,bc =d:d,d"},
		{"no base, and an empty side", "", "", ""},
		{"no base, and empty sides", "", ",,", ""},
		{"no base, and a side", "", "ab", ":ab"},
		{"no base, and two sides that are the same", "", "ab,ab", ":ab,ab"},
		{"no base, and a side, and an empty one", "", ",a", ":,a"},
		{"an empty side", "ab", "", "ab:"},
		{"an empty side, and the base", "ab", "ab,", "ab:ab,"},
		{"an open base, and sides that are it", "ab~", "ab~,ab~", "=ab~:ab~,ab~"},
		{"an open base, and sides that are ended", "ab~", "ab,ab", "=a:a,a b~:b,b"},
		{"an open side, and one that is ended", "ab", "ab~,ab", "=a:a,a b:b~,b"},
		{"an open side that has more", "ab", "abc~,ab", "=ab:ab,ab :c~,"},
		{"the same line, open and ended, is two texts", "a~", "aa~", ":a =a~:a~"},
	} {
		t.Run(c.name, func(t *testing.T) { checkChunks(t, c.base, c.sides, c.want) })
	}
}

// The base is paired with each side, not the side with the base: of two longest common sequences P3.2 tells another one then.
func TestChunksOfLinesThatStandSeveralTimes(t *testing.T) {
	for _, c := range []struct{ base, sides, want string }{
		{"ab", "ba", "a: =b:b :a"},
		{"abc", "cba", "ab: =c:c :ba"},
		{"abab", "baba", "a: =bab:bab :a"},
		{"aab", "ab", "=a:a a: =b:b"},
		{"ab", "aab", "=a:a :a =b:b"},
		{"aba", "a", "=a:a ba:"},
		{"ba", "aba", ":a =ba:ba"},
		{"aa", "xa", "a:x =a:a"},
		{"aa", "a,xa", "aa:a,xa"},
		{"ab", "ba,xab", "a:,xa =b:b,b :a,"},
		{"ab", "xab,ba", "a:xa, =b:b,b :,a"},
		{"ab", "ba,ba", "a:, =b:b,b :a,a"},
	} {
		checkChunks(t, c.base, c.sides, c.want)
	}
}

func TestChunksAreAsTheWordsSay(t *testing.T) {
	eachMerge(func(base []string, sides [][]string) {
		got, want := chunksOf(t, base, sides), chunksByWords(base, sides)
		if shownChunks(t, base, sides, got) != shownChunks(t, base, sides, want) {
			t.Fatalf("%q, %q: %+v, want %+v", base, sides, got, want)
		}
	})
}

func TestTextsAreTheSameJustIfTheirBytesAre(t *testing.T) {
	alike := []string{"a\n", "A\n", "a\r\n", " a\n", "a \n", "\u00e9\n", "e\u0301\n", "\xe9\n", "\xff\n", "\ufffd\n", "\x00\n", "\n"}
	for i, a := range alike {
		for k, b := range alike {
			l := chunksOf(t, []string{a}, [][]string{{b}})
			if len(l) != 1 || l[0].Stable != (i == k) {
				t.Errorf("%q, %q: %+v", a, b, l)
			}
			checkText(t, []string{a}, [][]string{{b}}, none, []string{b})
		}
	}
}

func TestAsManyLinesAndSidesAsMayBe(t *testing.T) {
	base := brief.Numbered(2000)
	want, sides := slices.Clone(base), make([][]string, 16)
	for k := range sides {
		line := "side " + strconv.Itoa(k) + "\n"
		sides[k] = slices.Clone(base)
		sides[k][100*k+99], want[100*k+99] = line, line
	}
	if l := chunksOf(t, base, sides); len(l) != 33 || l[31].Base != (api.Span{From: 1599, To: 1600}) || l[32].Base != (api.Span{From: 1600, To: 2000}) {
		t.Errorf("%d chunks: %+v", len(l), l)
	}
	checkText(t, base, sides, none, want)
}

func TestLongFilesBesideShortOnes(t *testing.T) {
	long, short := brief.Numbered(2000), brief.File("a")
	checkText(t, long, [][]string{nil}, none, nil)
	checkText(t, nil, [][]string{long}, none, long)
	checkText(t, short, [][]string{short, long}, none, long)
	checkText(t, short, [][]string{long, short}, none, long)
	checkText(t, long, [][]string{long[:1999], long[1:]}, none, long[1:1999])
	checkText(t, short, [][]string{long, brief.Numbered(1999)}, asUnion, slices.Concat(long, long[:1999]))
	open := slices.Concat(long[:1999], []string{"open"})
	checkText(t, long, [][]string{open, long}, none, open)
}

func TestSixteenSidesInConflict(t *testing.T) {
	const letters = "bcdefghijklmnopq"
	sides := strings.Join(strings.Split(letters, ""), ",")
	checkMerge(t, "za", "z"+strings.ReplaceAll(sides, ",", ",z"), none, "z <a:"+sides+">")
	checkMerge(t, "a", sides, none, "<a:"+sides+">")
	checkMerge(t, "a", sides, asUnion, letters)
	for k, letter := range letters {
		checkMerge(t, "a", sides, favour(k+1), string(letter))
	}
}

// P8.1, P8.2: wrong ones.

func TestNoSidesAndTooMany(t *testing.T) {
	a := brief.File("a")
	for _, count := range []int{0, 17, 18, 32, 1000} {
		for _, base := range [][]string{nil, a, {""}, {"a", "a"}, brief.Numbered(2001)} {
			for _, side := range [][]string{nil, a, base} {
				sides := slices.Repeat([][]string{side}, count)
				checkError(t, strconv.Itoa(count)+" sides", base, sides, none, api.ErrArg, api.ErrArg)
				checkError(t, strconv.Itoa(count)+" sides", base, sides, favour(-1), api.ErrArg, api.ErrArg)
			}
		}
	}
	checkError(t, "no sides, nil", a, nil, none, api.ErrArg, api.ErrArg)
	for count := 1; count <= 16; count++ {
		checkError(t, strconv.Itoa(count)+" sides", a, slices.Repeat([][]string{a}, count), none, api.OK, api.OK)
		checkError(t, strconv.Itoa(count)+" empty sides", nil, make([][]string, count), none, api.OK, api.OK)
	}
}

// checkWrongFile hands the file in as base, as a side, and as both.
func checkWrongFile(t *testing.T, name string, wrong []string, want api.Errno) {
	t.Helper()
	a := brief.File("a")
	checkError(t, name+" as base", wrong, [][]string{a}, none, want, want)
	checkError(t, name+" as base, without lines of the side", wrong, [][]string{nil}, none, want, want)
	checkError(t, name+" as base and side", wrong, [][]string{wrong}, none, want, want)
	for _, count := range []int{1, 2, 3, 16} {
		for _, at := range []int{0, count / 2, count - 1} {
			sides := slices.Repeat([][]string{a}, count)
			sides[at] = wrong
			checkError(t, name+" as a side", a, sides, none, want, want)
			checkError(t, name+" as a side", nil, sides, asUnion, want, want)
		}
	}
}

func TestWhatMayNotBeLines(t *testing.T) {
	for _, wrong := range [][]string{{""}, {"a", "b\n"}, {"a", "b"}, {"a\nb\n"}, {"a\nb"}, {"\na"}, {"a\n", ""}, {"\n\n"}, {"", "a\n"}, {"a\n", "b", "c\n"}, {"a\n", "\nb"}} {
		checkWrongFile(t, strings.Join(wrong, "|"), wrong, api.ErrForm)
	}
}

func TestTooManyLines(t *testing.T) {
	for _, many := range []int{2001, 2002, 4000, 20000} {
		name, long := strconv.Itoa(many)+" lines", brief.Numbered(many)
		checkWrongFile(t, name, long, api.ErrLong)
		checkWrongFile(t, name+", all the same", slices.Repeat(brief.File("a"), many), api.ErrLong)
		checkWrongFile(t, name+", the last one open", append(long[:many-1:many-1], "open"), api.ErrLong)
	}
}

func TestWrongHows(t *testing.T) {
	for _, c := range []struct{ base, sides string }{{"", ""}, {"a", "a"}, {"a", "b,c"}, {"a", "b,a,c"}, {"a", "a,a,a,a,a,a,a,a,a,a,a,a,a,a,a,a"}} {
		base, sides := brief.File(c.base), brief.Files(c.sides)
		count := len(sides)
		for _, side := range []int{-1, -2, -count, math.MinInt, count + 1, count + 2, 17 + count, math.MaxInt} {
			checkError(t, c.sides, base, sides, favour(side), api.OK, api.ErrArg)
			checkError(t, c.sides, base, sides, api.How{Favour: side, Union: true}, api.OK, api.ErrArg)
		}
		for side := 1; side <= count; side++ {
			checkError(t, c.sides, base, sides, favour(side), api.OK, api.OK)
			checkError(t, c.sides, base, sides, api.How{Favour: side, Union: true}, api.OK, api.ErrArg)
		}
		checkError(t, c.sides, base, sides, none, api.OK, api.OK)
		checkError(t, c.sides, base, sides, asUnion, api.OK, api.OK)
	}
}

// spoilt are a base and that many sides, of which those of the places (0 is the base, -1 none) may not be lines, and have too many.
func spoilt(count, mayNot, long int) ([]string, [][]string) {
	all := make([][]string, count+1)
	for at := range all {
		all[at] = brief.File("ab")
		if at == long {
			all[at] = brief.Numbered(2001)
		}
		if at == mayNot {
			all[at][0] = "no line"
		}
	}
	return all[0], all[1:]
}

// The errors in the turn in which the chapter names them.
func TestSeveralErrorsAtOnce(t *testing.T) {
	for _, count := range []int{0, 1, 2, 16, 17} {
		for _, mayNot := range []int{-1, 0, 1, count} {
			for _, long := range []int{-1, 0, 1, count} {
				base, sides := spoilt(count, mayNot, long)
				want := api.OK
				switch {
				case count == 0 || count == 17:
					want = api.ErrArg
				case mayNot >= 0:
					want = api.ErrForm
				case long >= 0:
					want = api.ErrLong
				}
				name := strconv.Itoa(count) + " sides, no lines " + strconv.Itoa(mayNot) + ", long " + strconv.Itoa(long)
				checkError(t, name, base, sides, none, want, want)
				wantOfHow := want
				if want == api.OK {
					wantOfHow = api.ErrArg
				}
				for _, how := range []api.How{favour(-1), favour(count + 1), {Favour: 1, Union: true}} {
					checkError(t, name, base, sides, how, want, wantOfHow)
				}
			}
		}
	}
}

// P8.2.

func TestMerge(t *testing.T) {
	for _, c := range []struct{ name, base, sides, want string }{
		{"the example", "abc", "xbc,aby", "xby"},
		{"one side, the base", "abc", "abc", "abc"},
		{"one side", "abc", "xay", "xay"},
		{"one empty side", "abc", "", ""},
		{"no base, and one side", "", "ab", "ab"},
		{"nothing at all", "", ",", ""},
		{"no base, and two sides", "", "a,b", "<:a,b>"},
		{"no base, and two sides that are the same", "", "ab,ab", "ab"},
		{"no base, and one side of two empty", "", ",a", "a"},
		{"no base, and one side of three empty", "", "b,,a", "<:b,,a>"},
		{"all sides empty", "ab", ",,", ""},
		{"one side empty, the other one the base", "ab", "ab,", ""},
		{"one side empty, the other one not the base", "ab", "x,", "<ab:x,>"},
		{"two sides change one line to the same", "abc", "axc,axc", "axc"},
		{"two sides change one line", "abc", "axc,ayc", "a <b:x,y> c"},
		{"two sides change the first line", "abc", "xbc,zby", "<a:x,z> by"},
		{"two sides change the last line", "abc", "abx,zby", "zb <c:x,y>"},
		{"one changes a line, the other one loses it", "abc", "axc,ac", "a <b:x,> c"},
		{"one changes a line, the other one loses it, a third leaves it", "abc", "ac,axc,abc", "a <b:,x,b> c"},
		{"two lose a line", "abc", "ac,ac", "ac"},
		{"two add at one place", "ab", "axb,ayb", "a <:x,y> b"},
		{"two add the same at one place", "ab", "axb,axb", "axb"},
		{"two add at two places", "ab", "xab,aby", "xaby"},
		{"lines beside one another are changed", "abcd", "axcd,abyd", "a <bc:xc,by> d"},
		{"lines with one between are changed", "abcd", "xbcd,abyd", "xbyd"},
		{"several conflicts", "abcde", "xbyde,zbwde", "<a:x,z> b <c:y,w> de"},
		{"conflicts, and a chunk that one alone changes between", "abcde", "xbydw,zbcdv", "<a:x,z> byd <e:w,v>"},
		{"conflicts, and chunks that one changes ahead and behind", "abcde", "xbydv,abzde", "xb <c:y,z> dv"},
		{"no chunk is a conflict, all are changed", "abcde", "xbcde,abyde,abcdz", "xbydz"},
		{"of three sides two are the same", "abc", "xbc,xbc,aby", "xby"},
		{"of three sides two are the same, the third isn't", "a", "x,x,y", "<a:x,x,y>"},
		{"the texts of side by side chunks are one", "abcd", "abxcd,abcdy", "abxcdy"},
	} {
		t.Run(c.name, func(t *testing.T) { checkMerge(t, c.base, c.sides, none, c.want) })
	}
}

func TestMergeResolved(t *testing.T) {
	for _, c := range []struct {
		name, base, sides, union string
		favours                  []string
	}{
		{"a clean one", "abc", "xbc,aby", "xby", []string{"xby", "xby"}},
		{"one side", "abc", "xbz", "xbz", []string{"xbz"}},
		{"one conflict", "abc", "xbc,zby", "xzby", []string{"xby", "zby"}},
		{"one conflict of three sides", "a", "b,a,c", "bc", []string{"b", "a", "c"}},
		{"sides that are the same stand once", "a", "b,c,b,c", "bc", []string{"b", "c", "b", "c"}},
		{"the union's turn is the sides'", "a", "c,b", "cb", []string{"c", "b"}},
		{"a side that lost its lines", "abc", "ac,axc,abc", "axc", []string{"ac", "axc", "abc"}},
		{"no base", "", "a,b,", "ab", []string{"a", "b", ""}},
		{"several conflicts", "abcde", "xbyde,zbwde", "xzbywde", []string{"xbyde", "zbwde"}},
		{"conflicts, and what one alone changes", "abcde", "xbydw,zbcdv", "xzbydwv", []string{"xbydw", "zbydv"}},
		{"a first side that is open", "a", "b~,c", "bc", []string{"b~", "c"}},
		{"a last side that is open", "a", "b,c~", "bc~", []string{"b", "c~"}},
		{"sides that are all open", "a", "b~,c~,d~", "bcd~", []string{"b~", "c~", "d~"}},
		{"an open side ahead of an empty one", "a", "b~,", "b~", []string{"b~", ""}},
		{"an open side behind an empty one", "a", ",b~", "b~", []string{"", "b~"}},
		{"open sides around an empty one", "a", "b~,,c~", "bc~", []string{"b~", "", "c~"}},
		{"open sides around the base's", "ab~", "xc~,ab~,yd~", "xcyd~", []string{"xc~", "ab~", "yd~"}},
		{"the same line, open and ended", "", "a~,a", "aa", []string{"a~", "a"}},
		{"the same line, ended and open", "", "a,a~", "aa~", []string{"a", "a~"}},
		{"an open line behind a stable chunk", "ab", "abc~,abd", "abcd", []string{"abc~", "abd"}},
	} {
		t.Run(c.name, func(t *testing.T) {
			checkMerge(t, c.base, c.sides, asUnion, c.union)
			for k, want := range c.favours {
				checkMerge(t, c.base, c.sides, favour(k+1), want)
			}
		})
	}
}

func TestMergeOfOpenLines(t *testing.T) {
	for _, c := range []struct{ name, base, sides, want string }{
		{"in a stable chunk", "ab~", "ab~,ab~", "ab~"},
		{"in a stable chunk, behind one that is changed", "abc~", "xbc~,abc~", "xbc~"},
		{"in a stable chunk, behind a conflict", "abc~", "xbc~,ybc~", "<a:x,y> bc~"},
		{"of the base alone", "ab~", "ab,ab", "ab"},
		{"of the base, and of one side", "ab~", "ab,ab~", "ab"},
		{"of the base, and of one side, that is the first", "ab~", "ab~,ab", "ab"},
		{"of one side", "ab", "ab~,ab", "ab~"},
		{"of both sides", "ab", "ab~,ab~", "ab~"},
		{"of one side in conflict", "ab", "ax~,ay", "a <b:x~,y>"},
		{"of several sides in conflict", "ab", "ax~,ay~", "a <b:x~,y~>"},
		{"of the base in conflict", "ab~", "ax,ay", "a <b~:x,y>"},
		{"of all in conflict", "b~", "x~,y~", "<b~:x~,y~>"},
		{"of one side, that ends another line", "ab", "ab~,axb", "a <b:b~,xb>"},
		{"of the base, which one side ends and goes on behind", "ab~", "abc,ab~", "abc"},
		{"of the base, which one side ends, and another one goes on behind", "ab~", "ab,abc~", "a <b~:b,bc~>"},
		{"of the base, as a line ahead of it", "aa~", "aa~,a~", "a~"},
		{"no line is left but an open one", "ab~", "b~,ab~", "b~"},
	} {
		t.Run(c.name, func(t *testing.T) { checkMerge(t, c.base, c.sides, none, c.want) })
	}
}

// What is paired tells what is a conflict.
func TestMergeOfLinesThatStandSeveralTimes(t *testing.T) {
	for _, c := range []struct{ base, sides, want string }{
		{"ab", "ba,xab", "<a:,xa> ba"},
		{"ab", "xab,ba", "<a:xa,> ba"},
		{"ab", "ba,ab", "ba"},
		{"ab", "ba,ba", "ba"},
		{"aa", "a,xa", "<aa:a,xa>"},
		{"aa", "ax,a", "a <a:x,>"},
		{"aab", "ab,aabx", "abx"},
		{"aba", "a,abax", "a <ba:,bax>"},
		{"abab", "baba,abab", "baba"},
	} {
		checkMerge(t, c.base, c.sides, none, c.want)
	}
}

func TestMergeIsAsTheWordsSay(t *testing.T) {
	eachMerge(func(base []string, sides [][]string) {
		for _, how := range hows(len(sides)) {
			got, want := brief.ShownPieces(merged(t, base, sides, how)), mergeByWords(base, sides, how)
			if got != want {
				t.Fatalf("%q, %q, %+v: %s, want %s", base, sides, how, got, want)
			}
		}
	})
}

// P8.3.

// inConflict tells whether a chunk has two contents that differ from the base's.
func inConflict(t *testing.T, base []string, sides [][]string) bool {
	t.Helper()
	return slices.ContainsFunc(chunksOf(t, base, sides), func(c api.Chunk) bool {
		b, s := cutOut(c, base, sides)
		return len(differingByWords(brief.Shown(b), strings.Split(brief.ShownAll(s), ","))) > 1
	})
}

func TestItIsCleanJustIfNoChunkHasTwoContents(t *testing.T) {
	eachMerge(func(base []string, sides [][]string) {
		if l := merged(t, base, sides, none); pick.Clean(l) == inConflict(t, base, sides) {
			t.Fatalf("%q, %q: %s", base, sides, brief.ShownPieces(l))
		}
	})
}

func TestWhatIsChosenIsTheTextInItsFavour(t *testing.T) {
	eachMerge(func(base []string, sides [][]string) {
		l := merged(t, base, sides, none)
		for k := range sides {
			checkText(t, base, sides, favour(k+1), pick.Choose(l, k+1))
		}
	})
}

func TestWhatIsChosenIsLinesThatMayBe(t *testing.T) {
	eachMerge(func(base []string, sides [][]string) {
		for _, how := range hows(len(sides)) {
			l := merged(t, base, sides, how)
			for side := range len(sides) + 2 {
				if text := pick.Choose(l, side); !lines.May(text) {
					t.Fatalf("%q, %q, %+v, of the side %d: %q", base, sides, how, side, text)
				}
			}
		}
	})
}

// P8.4.

func TestOfOneSideItIsThatSide(t *testing.T) {
	all := brief.All("abc", 3)
	for _, base := range all {
		for _, side := range all {
			for _, how := range hows(1) {
				checkText(t, base, [][]string{side}, how, side)
			}
		}
	}
}

func TestOfSidesOfWhichJustOneIsNotTheBaseItIsThatOne(t *testing.T) {
	all := brief.All("ab", 3)
	for _, base := range all {
		for _, side := range all {
			for _, count := range []int{2, 3, 16} {
				sides := slices.Repeat([][]string{base}, count)
				for _, at := range []int{0, 1, count - 1} {
					sides[at] = side
					checkText(t, base, sides, none, side)
					checkText(t, base, sides, asUnion, side)
					checkText(t, base, sides, favour(count-at), side)
					sides[at] = base
				}
			}
		}
	}
}

func TestOfSidesThatAllAreTheSameItIsThese(t *testing.T) {
	all := brief.All("ab", 3)
	for _, base := range all {
		for _, side := range all {
			for _, count := range []int{2, 3, 16} {
				sides := slices.Repeat([][]string{side}, count)
				for _, how := range []api.How{none, asUnion, favour(1), favour(count)} {
					checkText(t, base, sides, how, side)
				}
			}
		}
	}
}

// checkTurns holds the merge of the sides in each turn against that in the first one.
func checkTurns(t *testing.T, base []string, sides [][]string) {
	t.Helper()
	want := merged(t, base, sides, none)
	for turned := range every.Turn(sides) {
		got := merged(t, base, turned, none)
		if pick.Clean(got) != pick.Clean(want) || pick.Clean(want) && !pick.Same(got, want) {
			t.Fatalf("%q, %q: %s, and %q: %s", base, sides, brief.ShownPieces(want), turned, brief.ShownPieces(got))
		}
	}
}

func TestSidesInAnotherTurn(t *testing.T) {
	eachMerge(func(base []string, sides [][]string) { checkTurns(t, base, sides) })
	for _, c := range []struct{ base, sides string }{
		{"abcdefg", "xbcdefg,abydefg,abcdzfg,abcdefw"},
		{"abcdefg", "xbcdefg,abydefg,xbcdzfg,abcdefg,abydefg"},
		{"abcdefg", "xbcdefg,abydefg,abcdzfg,abcdvfg"},
		{"abab~", "baba~,abab~,xabab~,abab"},
	} {
		checkTurns(t, brief.File(c.base), brief.Files(c.sides))
	}
}

// What is handed in stays as it is, also where a list has room behind its end, and where what is told is written into.

func TestWhatIsHandedInStays(t *testing.T) {
	base, allBase := brief.Roomy(brief.File("abcde"))
	one, allOne := brief.Roomy(brief.File("xbcdey~"))
	two, allTwo := brief.Roomy(brief.File("zbcde"))
	allSides := [][]string{one, two, base, brief.File("room")}
	sides := allSides[:3]
	for _, how := range hows(len(sides)) {
		want := mergeByWords(base, sides, how)
		for range 2 {
			l := merged(t, base, sides, how)
			if got := brief.ShownPieces(l); got != want {
				t.Fatalf("%+v: %s, want %s", how, got, want)
			}
			brief.Spoil(l)
		}
	}
	for range 2 {
		l := chunksOf(t, base, sides)
		if got := shownChunks(t, base, sides, l); got != "a:x,z,a =bcde:bcde,bcde,bcde :y~,," {
			t.Fatalf("%s", got)
		}
		for _, c := range l {
			clear(c.Sides)
		}
		clear(l)
	}
	if got := brief.Shown(allBase) + " " + brief.Shown(allOne) + " " + brief.Shown(allTwo) + " " + brief.ShownAll(allSides); got != "abcderoom~ xbcdey~room~ zbcderoom~ xbcdey~,zbcde,abcde,room" {
		t.Error(got)
	}
}
