package fold

import (
	"slices"
	"strconv"
	"strings"
	"testing"

	"sennit/api"
	"sennit/brief"
	"sennit/every"
	"sennit/merge"
	"sennit/pick"
)

func folded(t *testing.T, base []string, sides [][]string) ([]api.Piece, int) {
	t.Helper()
	l, count, e := Octopus(base, sides)
	if e != api.OK {
		t.Fatalf("%q, %q: error %d", base, sides, e)
	}
	return l, count
}

func checkFold(t *testing.T, base []string, sides [][]string, wantCount int, want string) {
	t.Helper()
	l, count := folded(t, base, sides)
	if got := brief.ShownPieces(l); got != want || count != wantCount {
		t.Fatalf("%q, %q: %s, %d merged, want %s, %d", base, sides, got, count, want, wantCount)
	}
}

// checkBrief holds base, and sides, that are written as letters.
func checkBrief(t *testing.T, base, sides string, wantCount int, want string) {
	t.Helper()
	checkFold(t, brief.File(base), brief.Files(sides), wantCount, want)
}

func checkText(t *testing.T, base []string, sides [][]string, want []string) {
	t.Helper()
	l, count := folded(t, base, sides)
	if !pick.Clean(l) || count != len(sides) || !slices.Equal(pick.Choose(l, 0), want) {
		t.Fatalf("%d lines of base, %d sides: %d pieces, %d merged, %d lines, want %d", len(base), len(sides), len(l), count, len(pick.Choose(l, 0)), len(want))
	}
}

func checkError(t *testing.T, name string, base []string, sides [][]string, want api.Errno) {
	t.Helper()
	if l, count, e := Octopus(base, sides); e != want || e != api.OK && (len(l) != 0 || count != 0) {
		t.Errorf("%s: error %d, want %d; %d pieces, %d merged", name, e, want, len(l), count)
	}
}

// eachFold calls see with all small bases, and sides: of the longer ones, and of more sides, those that are ended.
func eachFold(see func(base []string, sides [][]string)) {
	for _, c := range []struct {
		files [][]string
		sides int
	}{
		{brief.All("ab", 3), 1},
		{brief.All("ab", 2), 2},
		{brief.Ended("ab", 3), 2},
		{brief.All("abc", 1), 3},
		{brief.Ended("ab", 2), 3},
		{brief.All("a", 1), 5},
	} {
		for lists := range every.List(c.files, c.sides+1) {
			see(lists[0], lists[1:])
		}
	}
	// Three sides that are merged cleanly as others than those that are merged flat.
	ab := brief.File("ab")
	for sides := range every.List(brief.Ended("ab", 3), 3) {
		see(ab, sides)
	}
}

// foldByWords is P9.1, told from the last side back: what is shown, how many were merged, and whether that was clean.
func foldByWords(t *testing.T, base []string, sides [][]string) (string, int, bool) {
	t.Helper()
	last := len(sides) - 1
	if last == 0 {
		return brief.Shown(sides[0]), 1, true
	}
	ahead, count, clean := foldByWords(t, base, sides[:last])
	if !clean {
		return ahead, count, false
	}
	l, e := merge.Merge(base, [][]string{brief.File(ahead), sides[last]}, api.How{})
	if e != api.OK {
		t.Fatalf("%q, %s, %q: error %d", base, ahead, sides[last], e)
	}
	if !pick.Clean(l) {
		return brief.ShownPieces(l), count, false
	}
	return brief.Shown(pick.Choose(l, 1)), count + 1, true
}

// P9.1: ordinary bases and sides, and the edges.

func TestOneSide(t *testing.T) {
	for _, c := range []struct{ name, base, side string }{
		{"the base", "abc", "abc"},
		{"not the base", "abc", "xby"},
		{"empty", "abc", ""},
		{"the base is empty", "", "ab"},
		{"both are empty", "", ""},
		{"nothing of the base", "ab", "xyz"},
		{"an open line", "ab", "ab~"},
		{"of an open base", "ab~", "ab"},
		{"both are open", "ab~", "ab~"},
	} {
		t.Run(c.name, func(t *testing.T) { checkBrief(t, c.base, c.side, 1, c.side) })
	}
}

func TestCleanOnes(t *testing.T) {
	for _, c := range []struct {
		name, base, sides string
		want              string
	}{
		{"two sides", "abc", "xbc,aby", "xby"},
		{"two sides, the other way", "abc", "aby,xbc", "xby"},
		{"two sides that are the same", "a", "b,b", "b"},
		{"two sides, lines of the sides alone", "ab", "xab,aby", "xaby"},
		{"two sides, lines of the base alone", "abcde", "abcd,bcde", "bcd"},
		{"three sides", "abcde", "xbcde,abyde,abcdz", "xbydz"},
		{"three sides, that are the same", "a", "b,b,b", "b"},
		{"five sides", "abcdefghi", "Abcdefghi,abCdefghi,abcdEfghi,abcdefGhi,abcdefghI", "AbCdEfGhI"},
		{"all sides are empty", "ab", ",,", ""},
		{"all is empty", "", ",,,", ""},
		{"the base is empty", "", ",ab,ab,", "ab"},
		{"one side is empty, others are the base", "ab", "ab,,ab", ""},
		{"one by one, not flat: all three at once are a conflict", "ab", "a,bab,b", "ba"},
		{"one by one, not flat, the first one of two lines", "ab", "ax,bab,bax", "bax"},
	} {
		t.Run(c.name, func(t *testing.T) {
			checkBrief(t, c.base, c.sides, strings.Count(c.sides, ",")+1, c.want)
		})
	}
}

func TestConflicts(t *testing.T) {
	for _, c := range []struct {
		name, base, sides string
		count             int
		want              string
	}{
		{"the example", "a", "b,a,c", 2, "<a:b,c>"},
		{"two sides", "a", "b,c", 1, "<a:b,c>"},
		{"two sides, the other way", "a", "c,b", 1, "<a:c,b>"},
		{"two sides, text around", "abc", "axc,ayc", 1, "a <b:x,y> c"},
		{"two sides, text ahead", "abc", "xbd,abe", 1, "xb <c:d,e>"},
		{"two sides, text behind", "abc", "xbc,ybz", 1, "<a:x,y> bz"},
		{"two sides, several conflicts", "abcde", "xbyde,zbwdv", 1, "<a:x,z> b <c:y,w> dv"},
		{"two sides, and one behind that is the base", "a", "b,c,a", 1, "<a:b,c>"},
		{"two sides, and one behind that is the first", "a", "b,c,b", 1, "<a:b,c>"},
		{"two sides, and one behind that would be clean", "abc", "xbc,zbc,abq", 1, "<a:x,z> bc"},
		{"two sides, and one behind that would be another conflict", "abc", "xbc,zby,wbv", 1, "<a:x,z> by"},
		{"at the third side, what two others made stands in it", "abcde", "xbcde,abyde,wbzde", 2, "<a:x,w> b <c:y,z> de"},
		{"at the third side of five", "abcde", "xbcde,abyde,zbcde,abcdv,abcdu", 2, "<a:x,z> byde"},
		{"at the last side of three", "abc", "xbc,aby,abz", 2, "xb <c:y,z>"},
		{"at the last side of five", "abcde", "xbcde,abyde,abcdz,abcde,wbcde", 4, "<a:x,w> bydz"},
		{"at the fourth side of five, that is empty", "abc", "xbc,aby,abc,,abc", 3, "<abc:xby,>"},
		{"the second side is empty", "ab", "x,,ab", 1, "<ab:x,>"},
		{"the first side is empty", "ab", ",x", 1, "<ab:,x>"},
		{"the base is empty", "", "a,b", 1, "<:a,b>"},
		{"the base is empty, and the first side, too", "", ",a,a,b", 3, "<:a,b>"},
		{"a side that isn't what there is any more", "ab", "a,bab,a", 2, "<ab:ba,a>"},
		{"a side that isn't what there is yet", "ab", "a,bab,bab", 2, "<a:,ba> ba"},
	} {
		t.Run(c.name, func(t *testing.T) { checkBrief(t, c.base, c.sides, c.count, c.want) })
	}
}

func TestOpenLines(t *testing.T) {
	for _, c := range []struct {
		name, base, sides string
		count             int
		want              string
	}{
		{"of the base, and of all sides", "ab~", "xb~,ab~", 2, "xb~"},
		{"of the base alone", "ab~", "ab,ab", 2, "ab"},
		{"of the base, ended by a side", "ab~", "ab~,ab,ab~", 3, "ab"},
		{"of a side", "ab", "ab,ab~,ab", 3, "ab~"},
		{"of a side, and one ahead of it", "abc", "xbc,abc~", 2, "xbc~"},
		{"of a side, and one behind it", "abc", "abc~,xbc", 2, "xbc~"},
		{"of a side, that goes on behind", "ab", "ab~,abc", 1, "a <b:b~,bc>"},
		{"of two sides in conflict", "ab", "ax~,ab,ay~", 2, "a <b:x~,y~>"},
		{"of what there is, in conflict", "abc", "abc~,xbc,abz", 2, "xb <c:c~,z>"},
		{"of the base, in conflict", "ab~", "ax,ay", 1, "a <b~:x,y>"},
		{"of the base, left out", "ab~", "a,ab~", 2, "a"},
	} {
		t.Run(c.name, func(t *testing.T) { checkBrief(t, c.base, c.sides, c.count, c.want) })
	}
}

func TestItIsAsTheWordsSay(t *testing.T) {
	eachFold(func(base []string, sides [][]string) {
		want, count, _ := foldByWords(t, base, sides)
		checkFold(t, base, sides, count, want)
	})
}

// isNormal tells whether no piece is empty, and no text stands beside another one.
func isNormal(l []api.Piece) bool {
	for at, p := range l {
		if !p.Conflict && (len(p.Text) == 0 || at > 0 && !l[at-1].Conflict) {
			return false
		}
	}
	return true
}

func TestPiecesArePutTogetherAndNoneIsEmpty(t *testing.T) {
	eachFold(func(base []string, sides [][]string) {
		l, count := folded(t, base, sides)
		if !isNormal(l) || pick.Clean(l) != (count == len(sides)) || pick.Clean(l) && len(l) > 1 {
			t.Fatalf("%q, %q: %s, %d merged", base, sides, brief.ShownPieces(l), count)
		}
	})
}

// However many sides there are: what there is, and one more.
func TestAConflictIsThatOfTwoSides(t *testing.T) {
	eachFold(func(base []string, sides [][]string) {
		l, count := folded(t, base, sides)
		for _, p := range l {
			if p.Conflict && (len(p.Sides) != 2 || slices.Equal(p.Sides[0], p.Sides[1])) {
				t.Fatalf("%q, %q: %s, %d merged", base, sides, brief.ShownPieces(l), count)
			}
		}
	})
}

func TestSixteenSides(t *testing.T) {
	// Each of them ends another line of the base.
	base := brief.File(strings.Repeat("a-", 16))
	sides, want := make([][]string, 16), slices.Clone(base)
	for k := range sides {
		sides[k] = slices.Clone(base)
		sides[k][2*k], want[2*k] = "b\n", "b\n"
	}
	checkText(t, base, sides, want)
	for at := 1; at < 16; at++ {
		other := slices.Clone(sides)
		other[at] = slices.Clone(base)
		other[at][2*at-2] = "c\n"
		text := brief.Shown(want[:2*at-2]) + " <a:b,c> -" + brief.Shown(base[2*at:])
		checkFold(t, base, other, at, strings.TrimPrefix(text, " "))
	}
}

func TestSixteenSidesThatAreTheSame(t *testing.T) {
	a, b := brief.File("a"), brief.File("b")
	for count := 1; count <= 16; count++ {
		checkText(t, a, slices.Repeat([][]string{a}, count), a)
		checkText(t, a, slices.Repeat([][]string{b}, count), b)
		checkText(t, a, make([][]string, count), nil)
		checkText(t, nil, make([][]string, count), nil)
	}
}

func TestAsManyLinesAsMayBe(t *testing.T) {
	base, short := brief.Numbered(2000), brief.File("a")
	want, sides := slices.Clone(base), make([][]string, 16)
	for k := range sides {
		line := "side " + strconv.Itoa(k) + "\n"
		sides[k] = slices.Clone(base)
		sides[k][100*k+99], want[100*k+99] = line, line
	}
	checkText(t, base, sides, want)
	checkText(t, base, [][]string{base}, base)
	checkText(t, base, [][]string{nil, base}, nil)
	checkText(t, nil, [][]string{base, nil, base}, base)
	checkText(t, short, [][]string{short, base, short}, base)
	checkText(t, base, [][]string{base[:1999], base[1:], base}, base[1:1999])
}

// P9.1: wrong ones.

func TestNoSidesAndTooMany(t *testing.T) {
	a := brief.File("a")
	for _, count := range []int{0, 17, 18, 32, 1000} {
		for _, base := range [][]string{nil, a, {""}, {"a", "a"}, brief.Numbered(2001)} {
			for _, side := range [][]string{nil, a, base} {
				checkError(t, strconv.Itoa(count)+" sides", base, slices.Repeat([][]string{side}, count), api.ErrArg)
			}
		}
	}
	checkError(t, "no sides, nil", a, nil, api.ErrArg)
	checkError(t, "no sides, and no base", nil, nil, api.ErrArg)
	checkError(t, "17 sides, of which two are a conflict", a, append(brief.Files("b,c"), slices.Repeat([][]string{a}, 15)...), api.ErrArg)
}

// checkWrongFile hands the file in as base, as a side, and as both.
func checkWrongFile(t *testing.T, name string, wrong []string, want api.Errno) {
	t.Helper()
	a := brief.File("a")
	checkError(t, name+" as base", wrong, [][]string{a}, want)
	checkError(t, name+" as base, of several sides", wrong, [][]string{a, nil, a}, want)
	checkError(t, name+" as base, of sides in conflict", wrong, brief.Files("b,c"), want)
	checkError(t, name+" as base and side", wrong, [][]string{wrong}, want)
	checkError(t, name+" as base and sides", wrong, [][]string{wrong, wrong}, want)
	for _, count := range []int{1, 2, 3, 16} {
		for _, at := range []int{0, count / 2, count - 1} {
			sides := slices.Repeat([][]string{a}, count)
			sides[at] = wrong
			checkError(t, name+" as a side", a, sides, want)
			checkError(t, name+" as a side, without a base", nil, sides, want)
		}
	}
	checkError(t, name+" as a side behind a conflict", a, append(brief.Files("b,c"), wrong), want)
	checkError(t, name+" as the last side behind a conflict", a, append(brief.Files("b,c,a,a"), wrong), want)
}

func TestWhatMayNotBeLines(t *testing.T) {
	for _, wrong := range [][]string{{""}, {"a", "b\n"}, {"a", "b"}, {"a\nb\n"}, {"a\nb"}, {"\na"}, {"a\n", ""}, {"\n\n"}, {"", "a\n"}, {"a\n", "b", "c\n"}} {
		checkWrongFile(t, strings.Join(wrong, "|"), wrong, api.ErrForm)
	}
}

func TestTooManyLines(t *testing.T) {
	for _, many := range []int{2001, 2002, 4000} {
		name, long := strconv.Itoa(many)+" lines", brief.Numbered(many)
		checkWrongFile(t, name, long, api.ErrLong)
		checkWrongFile(t, name+", all the same", slices.Repeat(brief.File("a"), many), api.ErrLong)
		checkWrongFile(t, name+", the last one open", append(long[:many-1:many-1], "open"), api.ErrLong)
	}
}

// spoilt are a base and that many sides, of which those of the places (0 is the base, -1 none) may not be lines, and have too many.
func spoilt(count, mayNot, long int) ([]string, [][]string) {
	all := make([][]string, count+1)
	for at := range all {
		all[at] = brief.File("ab")
		if at == long {
			all[at] = brief.Numbered(2001)
		}
		if at == mayNot {
			all[at][0] = "no line"
		}
	}
	return all[0], all[1:]
}

// The errors in the turn in which merge.Chunks names them.
func TestSeveralErrorsAtOnce(t *testing.T) {
	for _, count := range []int{0, 1, 2, 16, 17} {
		for _, mayNot := range []int{-1, 0, 1, count} {
			for _, long := range []int{-1, 0, 1, count} {
				base, sides := spoilt(count, mayNot, long)
				want := api.OK
				switch {
				case count == 0 || count == 17:
					want = api.ErrArg
				case mayNot >= 0:
					want = api.ErrForm
				case long >= 0:
					want = api.ErrLong
				}
				checkError(t, strconv.Itoa(count)+" sides, no lines "+strconv.Itoa(mayNot)+", long "+strconv.Itoa(long), base, sides, want)
			}
		}
	}
}

// around is a side of the base m: that many lines ahead of m, and behind it.
func around(ahead, behind int) []string {
	return slices.Concat(brief.Numbered(ahead), brief.File("m"), brief.Numbered(behind))
}

// What there is may have more lines than a file may: the last merge tells it, and no other merge can be behind it.
func TestWhatThereIsGrowsTooLong(t *testing.T) {
	m := brief.File("m")
	for _, c := range []struct{ ahead, behind int }{{1000, 999}, {1999, 0}, {1000, 1000}, {1, 1999}, {1999, 1999}} {
		sides := [][]string{around(c.ahead, 0), around(0, c.behind)}
		text, want := around(c.ahead, c.behind), api.OK
		name := strconv.Itoa(c.ahead) + " and " + strconv.Itoa(c.behind) + " lines"
		checkText(t, m, sides, text)
		if len(text) > 2000 {
			want = api.ErrLong
		}
		for _, next := range [][]string{m, sides[0], sides[1], nil, brief.File("x")} {
			for _, more := range []int{1, 2, 14} {
				checkError(t, name+", and more", m, append(slices.Clip(sides), slices.Repeat([][]string{next}, more)...), want)
			}
		}
		checkError(t, name+", behind others", m, [][]string{m, m, sides[0], sides[0], sides[1]}, api.OK)
		checkError(t, name+", between others", m, [][]string{m, sides[0], m, sides[1], m}, want)
	}
}

// The walk is at its end at a conflict: nothing is merged behind it, and so nothing is too long.
func TestNothingGrowsBehindAConflict(t *testing.T) {
	sides := [][]string{brief.File("x"), brief.File("y"), around(1500, 0), around(0, 1500), brief.File("m")}
	checkFold(t, brief.File("m"), sides, 1, "<m:x,y>")
	long := slices.Insert(sides[2:4:4], 1, brief.File("z"))
	if l, count := folded(t, brief.File("m"), append(long, sides...)); count != 1 || len(l) != 1 || !l[0].Conflict || !slices.Equal(l[0].Sides[0], around(1500, 0)) {
		t.Errorf("%d pieces, %d merged", len(l), count)
	}
}

// A wrong file is told ahead of what is too long in a merge.
func TestWrongFilesAheadOfWhatGrowsTooLong(t *testing.T) {
	m := brief.File("m")
	sides := [][]string{around(1500, 0), around(0, 1500), m}
	checkError(t, "what grows", m, sides, api.ErrLong)
	checkError(t, "what grows, and what may not be lines", m, append(sides, []string{"a", "b"}), api.ErrForm)
	checkError(t, "what grows, and too many", m, append(sides, make([][]string, 14)...), api.ErrArg)
}

// P9.2.

// merged is what there is of the sides, and how many of them were merged, told by the words.
func merged(t *testing.T, base []string, sides [][]string) (string, int) {
	t.Helper()
	want, count, _ := foldByWords(t, base, sides)
	return want, count
}

// checkOneMore puts the side among the sides at a place where it changes nothing: if it is merged there, one more is.
func checkOneMore(t *testing.T, base []string, sides [][]string, at int, side []string) {
	t.Helper()
	want, count := merged(t, base, sides)
	if at <= count {
		count++
	}
	checkFold(t, base, slices.Insert(slices.Clone(sides), at, side), count, want)
}

func TestSidesThatAreTheBaseChangeNothing(t *testing.T) {
	eachFold(func(base []string, sides [][]string) {
		for at := range len(sides) + 1 {
			checkOneMore(t, base, sides, at, base)
		}
	})
}

func TestSidesThatAreWhatThereIsChangeNothing(t *testing.T) {
	eachFold(func(base []string, sides [][]string) {
		for at := 1; at <= len(sides); at++ {
			ahead, _, clean := foldByWords(t, base, sides[:at])
			if !clean {
				break
			}
			checkOneMore(t, base, sides, at, brief.File(ahead))
		}
	})
}

func TestSidesThatChangeNothingFirstBetweenAndLast(t *testing.T) {
	for _, c := range []struct {
		base, sides string
		count       int
		want        string
	}{
		{"abc", "xbc,aby", 2, "xby"},
		{"abc", "abc,xbc,aby", 3, "xby"},
		{"abc", "xbc,abc,aby", 3, "xby"},
		{"abc", "xbc,aby,abc", 3, "xby"},
		{"abc", "abc,abc,xbc,abc,abc,aby,abc", 7, "xby"},
		{"abc", "xbc,xbc,aby", 3, "xby"},
		{"abc", "xbc,aby,xby", 3, "xby"},
		{"abc", "xbc,xbc,aby,xby,xby,abc,xby", 7, "xby"},
		{"a", "a,b,c", 2, "<a:b,c>"},
		{"a", "b,b,a,b,c", 4, "<a:b,c>"},
		{"a", "a,a,b,a,a,c,a,a", 5, "<a:b,c>"},
		{"a", "b,c,a,b,c", 1, "<a:b,c>"},
		{"ab~", "ab~,xb~,ab~,ab~", 4, "xb~"},
		{"", ",a,,a,b,", 4, "<:a,b>"},
	} {
		checkBrief(t, c.base, c.sides, c.count, c.want)
	}
}

func TestManySidesThatChangeNothing(t *testing.T) {
	base, x, y := brief.File("abc"), brief.File("xbc"), brief.File("abz")
	for at := range 15 {
		sides := slices.Repeat([][]string{base}, 16)
		sides[at] = x
		checkFold(t, base, sides, 16, "xbc")
		sides[at+1] = y
		checkFold(t, base, sides, 16, "xbz")
		sides[at+1] = brief.File("wbz")
		checkFold(t, base, sides, at+1, "<a:x,w> bz")
	}
}

// What is told of some sides goes on with one more: as it is behind a conflict, else as the first of two sides.
func TestItGoesOnWithOneMore(t *testing.T) {
	eachFold(func(base []string, sides [][]string) {
		last := len(sides) - 1
		if last == 0 {
			return
		}
		ahead, count := folded(t, base, sides[:last])
		if !pick.Clean(ahead) {
			checkFold(t, base, sides, count, brief.ShownPieces(ahead))
			return
		}
		next, more := folded(t, base, [][]string{pick.Choose(ahead, 0), sides[last]})
		checkFold(t, base, sides, count+more-1, brief.ShownPieces(next))
	})
}

// What is handed in stays as it is, also where a list has room behind its end, and where what is told is written into.

func checkStays(t *testing.T, base, sides string, wantCount int, want string) {
	t.Helper()
	handed, all := brief.Roomy(brief.File(base))
	allSides := append(brief.Files(sides), brief.File("room"))
	alls := make([][]string, len(allSides))
	for k, side := range allSides {
		allSides[k], alls[k] = brief.Roomy(side)
	}
	wantAlls := brief.ShownAll(alls)
	for range 2 {
		l, count := folded(t, handed, allSides[:len(allSides)-1])
		if got := brief.ShownPieces(l); got != want || count != wantCount {
			t.Errorf("%s, %s: %s, %d merged, want %s, %d", base, sides, got, count, want, wantCount)
		}
		brief.Spoil(l)
	}
	if brief.Shown(all) != base+"room~" || brief.ShownAll(alls) != wantAlls || brief.ShownAll(allSides) != sides+",room" {
		t.Errorf("%s, %s have become %q, and %q of %q", base, sides, all, alls, allSides)
	}
}

func TestWhatIsHandedInStays(t *testing.T) {
	checkStays(t, "abc", "xbc", 1, "xbc")
	checkStays(t, "abc", "abc", 1, "abc")
	checkStays(t, "abc", "xbc,aby", 2, "xby")
	checkStays(t, "abc", "abc,abc,abc~", 3, "abc~")
	checkStays(t, "abcde", "xbcde,abyde,wbzde,abcde", 2, "<a:x,w> b <c:y,z> de")
	checkStays(t, "a", "b~,c", 1, "<a:b~,c>")
	checkStays(t, "", "a,", 2, "a")
}
