package zeal

import (
	"slices"
	"strconv"
	"strings"
	"testing"

	"sennit/api"
	"sennit/brief"
	"sennit/every"
	"sennit/merge"
	"sennit/pick"
)

func checkPieces(t *testing.T, name string, got, want []api.Piece) {
	t.Helper()
	if !pick.Same(got, want) {
		t.Fatalf("%s: %s, want %s", name, brief.ShownPieces(got), brief.ShownPieces(want))
	}
}

// checkTrim holds a piece, and what becomes of it, that are written as letters.
func checkTrim(t *testing.T, piece, want string) {
	t.Helper()
	checkPieces(t, piece, Trim(brief.Piece(piece)), brief.Pieces(want))
}

func checkZeal(t *testing.T, l, want string) {
	t.Helper()
	checkPieces(t, l, Zeal(brief.Pieces(l)), brief.Pieces(want))
}

// eachConflict calls see with all small conflicts that have sides: of the longer ones, and of more sides, those that are ended.
func eachConflict(see func(p api.Piece)) {
	base := brief.File("ab~")
	for _, c := range []struct {
		files [][]string
		sides int
	}{
		{brief.All("ab", 3), 1},
		{brief.All("ab", 3), 2},
		{brief.Ended("ab", 5), 2},
		{brief.Ended("abc", 3), 2},
		{brief.Ended("ab", 3), 3},
		{brief.All("a", 2), 4},
		{brief.Ended("ab", 2), 4},
		{brief.Ended("a", 4), 5},
	} {
		for sides := range every.List(c.files, c.sides) {
			see(api.Piece{Conflict: true, Base: base, Sides: sides})
		}
	}
}

// greatest is the greatest number, not above most, of which is tells true; 0, if there is none.
func greatest(most int, is func(n int) bool) int {
	for n := most; n > 0; n-- {
		if is(n) {
			return n
		}
	}
	return 0
}

// trimByWords is P10.1 of a conflict with sides, word by word: as many lines as there are at most, tried from the greatest number down.
func trimByWords(p api.Piece) []api.Piece {
	first := p.Sides[0]
	all := func(is func(side []string) bool) bool {
		return !slices.ContainsFunc(p.Sides, func(side []string) bool { return !is(side) })
	}
	if all(func(side []string) bool { return slices.Equal(side, first) }) {
		return pick.Normal([]api.Piece{{Text: first}})
	}
	begin := greatest(len(first), func(n int) bool {
		return all(func(side []string) bool { return len(side) >= n && slices.Equal(side[:n], first[:n]) })
	})
	end := greatest(len(first)-begin, func(n int) bool {
		return all(func(side []string) bool {
			return len(side)-begin >= n && slices.Equal(side[len(side)-n:], first[len(first)-n:])
		})
	})
	left := api.Piece{Conflict: true, Base: p.Base}
	for _, side := range p.Sides {
		left.Sides = append(left.Sides, side[begin:len(side)-end])
	}
	return pick.Normal([]api.Piece{{Text: first[:begin]}, left, {Text: first[len(first)-end:]}})
}

// P10.1: Trim of ordinary conflicts, and of the edges.

func TestTrim(t *testing.T) {
	for _, c := range []struct{ name, piece, want string }{
		{"the example", "<:xay,xby>", "x <:a,b> y"},
		{"nothing is the same", "<c:a,b>", "<c:a,b>"},
		{"nothing is the same at an end, but between", "<c:axb,bxa>", "<c:axb,bxa>"},
		{"the same begin", "<c:xya,xyb>", "xy <c:a,b>"},
		{"the same end", "<c:axy,bxy>", "<c:a,b> xy"},
		{"the same begin and end", "<c:xyabvw,xycvw>", "xy <c:ab,c> vw"},
		{"the same begin, end, and between", "<c:xaybz,xcydz>", "x <c:ayb,cyd> z"},
		{"all but a line between", "<c:xyavw,xyvw>", "xy <c:a,> vw"},
		{"both sides are the same", "<c:xy,xy>", "xy"},
		{"both sides are the same one line", "<c:a,a>", "a"},
		{"both sides are the base", "<a:a,a>", "a"},
		{"one side is empty", "<c:,ab>", "<c:,ab>"},
		{"another side is empty", "<c:ab,>", "<c:ab,>"},
		{"both sides are empty", "<c:,>", ""},
		{"a side is what the other one begins with", "<c:x,xa>", "x <c:,a>"},
		{"a side is what the other one ends with", "<c:ax,x>", "<c:a,> x"},
		{"a side is what the other one begins with, and ends with", "<c:x,xax>", "x <c:,ax>"},
		{"the longer one first", "<c:xax,x>", "x <c:ax,>"},
		{"a line more of the same", "<c:aa,a>", "a <c:a,>"},
		{"a line less of the same", "<c:aa,aaa>", "aa <c:,a>"},
		{"what all begin with isn't what they end with, too", "<c:aba,ababa>", "aba <c:,ba>"},
		{"a part of what all begin with is what they end with", "<c:abxab,abab>", "ab <c:x,> ab"},
		{"one line of a run is another", "<c:aaaa,aaba>", "aa <c:a,b> a"},
		{"the sides the other way round", "<c:ab,ba>", "<c:ab,ba>"},
	} {
		t.Run(c.name, func(t *testing.T) { checkTrim(t, c.piece, c.want) })
	}
}

func TestTrimOfOneSideAndOfMore(t *testing.T) {
	for _, c := range []struct{ name, piece, want string }{
		{"no sides", "<c>", "<c>"},
		{"no sides, and no base", "<>", "<>"},
		{"one side", "<c:ab>", "ab"},
		{"one side, that is the base", "<ab:ab>", "ab"},
		{"one side, that is empty", "<c:>", ""},
		{"three sides", "<c:xay,xby,xcy>", "x <c:a,b,c> y"},
		{"three sides, all the same", "<c:ab,ab,ab>", "ab"},
		{"three sides, all empty", "<c:,,>", ""},
		{"three sides, of which the first differs", "<c:b,ax,ay>", "<c:b,ax,ay>"},
		{"three sides, of which the second differs", "<c:ax,b,ay>", "<c:ax,b,ay>"},
		{"three sides, of which the last differs", "<c:ax,ay,b>", "<c:ax,ay,b>"},
		{"three sides, of which two are the same", "<c:xay,xay,xby>", "x <c:a,a,b> y"},
		{"three sides, of which two end with more", "<c:ab,cb,b>", "<c:a,c,> b"},
		{"three sides, of which two begin with more", "<c:xya,xyb,xa>", "x <c:ya,yb,a>"},
		{"three sides, of which the shortest is the middle one", "<c:xya,x,xyb>", "x <c:ya,,yb>"},
		{"three sides, of which one is empty", "<c:xa,,xb>", "<c:xa,,xb>"},
		{"five sides", "<c:xay,xy,xby,xay,xvwy>", "x <c:a,,b,a,vw> y"},
	} {
		t.Run(c.name, func(t *testing.T) { checkTrim(t, c.piece, c.want) })
	}
}

// The base stays, whatever it begins and ends with.
func TestTheBaseStays(t *testing.T) {
	for _, base := range []string{"", "x", "xy", "xay", "xcy", "xxayy", "a", "c~", "xay~"} {
		checkTrim(t, "<"+base+":xay,xby>", "x <"+base+":a,b> y")
		checkTrim(t, "<"+base+":xy,xy>", "xy")
		checkTrim(t, "<"+base+">", "<"+base+">")
	}
}

func TestTrimOfOpenLines(t *testing.T) {
	for _, c := range []struct{ name, piece, want string }{
		{"of both sides", "<c:xay~,xby~>", "x <c:a,b> y~"},
		{"of both sides, that differ", "<c:xa~,xb~>", "x <c:a~,b~>"},
		{"of one side alone", "<c:xay~,xby>", "x <c:ay~,by>"},
		{"of one side, all else the same", "<c:xy~,xy>", "x <c:y~,y>"},
		{"of the first of three sides", "<c:ay~,by,cy>", "<c:ay~,by,cy>"},
		{"of the last of three sides", "<c:ay,by,cy~>", "<c:ay,by,cy~>"},
		{"of sides that all are the same", "<c:xy~,xy~>", "xy~"},
		{"of one side", "<c:x~>", "x~"},
		{"of the base alone", "<xcy~:xay,xby>", "x <xcy~:a,b> y"},
	} {
		t.Run(c.name, func(t *testing.T) { checkTrim(t, c.piece, c.want) })
	}
}

// No chapter asks that the texts may be lines: they are the same, if they have the same bytes.
func TestTrimOfWhatMayNotBeLines(t *testing.T) {
	conflict := func(sides ...[]string) api.Piece { return api.Piece{Conflict: true, Sides: sides} }
	for _, c := range []struct {
		name string
		p    api.Piece
		want []api.Piece
	}{
		{"empty texts are texts", conflict([]string{""}, []string{"", ""}), []api.Piece{{Text: []string{""}}, conflict(nil, []string{""})}},
		{"an empty text, and none", conflict([]string{""}, nil), []api.Piece{conflict([]string{""}, nil)}},
		{"sides that all are an empty text", conflict([]string{""}, []string{""}), []api.Piece{{Text: []string{""}}}},
		{"the same bytes, cut in another way", conflict([]string{"a\n", "b\n"}, []string{"a\nb\n"}), []api.Piece{conflict([]string{"a\n", "b\n"}, []string{"a\nb\n"})}},
		{"texts that begin the same", conflict([]string{"ab\n"}, []string{"ac\n"}), []api.Piece{conflict([]string{"ab\n"}, []string{"ac\n"})}},
		{"open texts ahead of others", conflict([]string{"x", "a", "y"}, []string{"x", "b", "y"}), []api.Piece{{Text: []string{"x"}}, conflict([]string{"a"}, []string{"b"}), {Text: []string{"y"}}}},
		{"large and small letters", conflict([]string{"A\n"}, []string{"a\n"}), []api.Piece{conflict([]string{"A\n"}, []string{"a\n"})}},
		{"blanks and returns", conflict([]string{"a\r\n", "b \n"}, []string{"a\n", "b\n"}), []api.Piece{conflict([]string{"a\r\n", "b \n"}, []string{"a\n", "b\n"})}},
		{"bytes that are no letters", conflict([]string{"\xff\n", "\x00\n"}, []string{"\xff\n", "\xfe\n"}), []api.Piece{{Text: []string{"\xff\n"}}, conflict([]string{"\x00\n"}, []string{"\xfe\n"})}},
	} {
		checkPieces(t, c.name, Trim(c.p), c.want)
	}
}

func TestTrimIsAsTheWordsSay(t *testing.T) {
	eachConflict(func(p api.Piece) {
		checkPieces(t, brief.ShownPieces([]api.Piece{p}), Trim(p), trimByWords(p))
	})
}

func TestTrimOfManySides(t *testing.T) {
	for _, count := range []int{2, 16, 17, 100} {
		sides := slices.Repeat([][]string{brief.File("xyavw")}, count)
		checkPieces(t, "the same", Trim(api.Piece{Conflict: true, Sides: sides}), brief.Pieces("xyavw"))
		for at := range count {
			some, left := slices.Clone(sides), slices.Repeat([][]string{brief.File("ya")}, count)
			some[at], left[at] = brief.File("xvw"), nil
			want := []api.Piece{brief.Piece("x"), {Conflict: true, Sides: left}, brief.Piece("vw")}
			checkPieces(t, strconv.Itoa(at)+" differs", Trim(api.Piece{Conflict: true, Sides: some}), want)
		}
	}
}

// No limit of lines is named.
func TestTrimOfLongSides(t *testing.T) {
	const many = 100000
	a, b := brief.File("a"), brief.File("b")
	all, run := brief.Numbered(many), slices.Repeat(a, many)
	conflict := func(sides ...[]string) api.Piece { return api.Piece{Conflict: true, Base: all, Sides: sides} }
	around := func(between []string) []string { return slices.Concat(all, between, all) }
	for _, c := range []struct {
		name string
		p    api.Piece
		want []api.Piece
	}{
		{"the same", conflict(all, slices.Clone(all)), []api.Piece{{Text: all}}},
		{"one is shorter", conflict(all, all[:many-1]), []api.Piece{{Text: all[:many-1]}, conflict(all[many-1:], nil)}},
		{"around one line", conflict(around(a), around(b), around(nil)), []api.Piece{{Text: all}, conflict(a, b, nil), {Text: all}}},
		{"a run, one longer", conflict(run, run[1:], run), []api.Piece{{Text: run[1:]}, conflict(a, nil, a)}},
		{"the last line of all", conflict(slices.Concat(run, b), run), []api.Piece{{Text: run}, conflict(b, nil)}},
		{"the first line of all", conflict(run, slices.Concat(b, run)), []api.Piece{conflict(nil, b), {Text: run}}},
	} {
		if got := Trim(c.p); !pick.Same(got, c.want) {
			t.Errorf("%s: %d pieces, want %d", c.name, len(got), len(c.want))
		}
	}
}

// P10.1: Trim of other pieces, and of what pick.Normal takes away.

func TestTrimOfTexts(t *testing.T) {
	for _, text := range []string{"", "a", "a~", "aa", "xyx", "ab~"} {
		checkTrim(t, text, text)
	}
	a, sides := brief.File("a"), brief.Files("xay,xby")
	checkPieces(t, "a text that bears sides", Trim(api.Piece{Text: a, Base: a, Sides: sides}), brief.Pieces("a"))
	checkPieces(t, "a text that bears sides that are the same", Trim(api.Piece{Text: a, Sides: brief.Files("b,b")}), brief.Pieces("a"))
	checkPieces(t, "an empty text that bears sides", Trim(api.Piece{Base: a, Sides: sides}), nil)
	checkPieces(t, "an empty text that bears one side", Trim(api.Piece{Sides: [][]string{a}}), nil)
	checkPieces(t, "an empty text that isn't nil", Trim(api.Piece{Text: []string{}, Base: []string{}, Sides: [][]string{}}), nil)
}

func TestTrimOfConflictsThatBearAText(t *testing.T) {
	for _, c := range []struct{ piece, want string }{
		{"<>", "<>"},
		{"<c>", "<c>"},
		{"<c:>", ""},
		{"<c:a,b>", "<c:a,b>"},
		{"<c:ab,ab>", "ab"},
		{"<c:xay,xby>", "x <c:a,b> y"},
	} {
		p := brief.Piece(c.piece)
		p.Text = brief.File("t")
		checkPieces(t, c.piece, Trim(p), brief.Pieces(c.want))
		checkPieces(t, c.piece, Zeal([]api.Piece{p, p}), pick.Normal(brief.Pieces(c.want+" "+c.want)))
	}
}

func TestTrimOfEmptyListsThatAreNotNil(t *testing.T) {
	empty := []string{}
	checkPieces(t, "no sides", Trim(api.Piece{Conflict: true, Base: empty, Sides: [][]string{}}), brief.Pieces("<>"))
	checkPieces(t, "sides that are the same", Trim(api.Piece{Conflict: true, Sides: [][]string{nil, empty, nil}}), nil)
	checkPieces(t, "sides that differ", Trim(api.Piece{Conflict: true, Sides: [][]string{empty, brief.File("a"), nil}}), brief.Pieces("<:,a,>"))
}

// P10.1: Zeal.

func TestZeal(t *testing.T) {
	for _, c := range []struct{ name, l, want string }{
		{"no pieces", "", ""},
		{"a text", "ab", "ab"},
		{"texts side by side", "a b ab", "abab"},
		{"empty texts", "  ", ""},
		{"empty texts beside others", " a  b ", "ab"},
		{"the example", "<:xay,xby>", "x <:a,b> y"},
		{"a conflict that stays", "<c:a,b>", "<c:a,b>"},
		{"a conflict without sides", "a <c> b", "a <c> b"},
		{"texts around what is text of a conflict", "t <c:xay,xby> u", "tx <c:a,b> yu"},
		{"texts around a conflict that stays", "t <c:a,b> u", "t <c:a,b> u"},
		{"a conflict that is all text, between texts", "t <c:ab,ab> u", "tabu"},
		{"a conflict that is all text, between conflicts", "<c:xa,xb> <c:d,d> <c:ay,by>", "x <c:a,b> d <c:a,b> y"},
		{"a conflict that becomes nothing", "<c:,>", ""},
		{"a conflict that becomes nothing, between texts", "t <c:,> u", "tu"},
		{"a conflict that becomes nothing, between conflicts", "<c:a,b> <c:,> <c:b,a>", "<c:a,b> <c:b,a>"},
		{"conflicts of one side", "<c:a> b <c:d>", "abd"},
		{"conflicts side by side that stay so", "<c:xa,xb> <d:ay,by>", "x <c:a,b> <d:a,b> y"},
		{"conflicts side by side with text between, then", "<c:ay,by> <d:xa,xb>", "<c:a,b> yx <d:a,b>"},
		{"what conflicts side by side have the same isn't put together", "<c:a,b> <d:b,a>", "<c:a,b> <d:b,a>"},
		{"what a conflict, and a text beside it, have the same", "x <c:xa,a> a", "x <c:x,> aa"},
		{"conflicts of as many sides as they have", "<c:xa,xb> <d> <e:ay,by,cy> <f:z>", "x <c:a,b> <d> <e:a,b,c> yz"},
		{"an open line at the end", "t <c:ay~,by~>", "t <c:a,b> y~"},
	} {
		t.Run(c.name, func(t *testing.T) { checkZeal(t, c.l, c.want) })
	}
}

// eachList calls see with all short lists of pieces of some kinds: also such as pick.Normal leaves out, or takes fields from.
func eachList(see func(l []api.Piece)) {
	kinds := []api.Piece{{Text: brief.File("t"), Sides: brief.Files("a,b")}, {Conflict: true, Text: brief.File("t"), Sides: brief.Files("bxa,bx,bxba")}}
	for _, shown := range []string{"", "x", "<c>", "<c:>", "<c:,>", "<c:a>", "<c:xa,xa>", "<c:a,b>", "<c:xay,xby>", "<x:aa,a,aaa>"} {
		kinds = append(kinds, brief.Piece(shown))
	}
	for l := range every.UpTo(kinds, 4) {
		see(l)
	}
}

func TestZealIsAsTheWordsSay(t *testing.T) {
	eachList(func(l []api.Piece) {
		var all []api.Piece
		for _, p := range l {
			if p.Conflict && len(p.Sides) > 0 {
				all = append(all, trimByWords(p)...)
			} else {
				all = append(all, p)
			}
		}
		checkPieces(t, brief.ShownPieces(l), Zeal(l), pick.Normal(all))
	})
}

func TestZealOfManyPieces(t *testing.T) {
	const many = 100000
	same := Zeal(slices.Repeat(brief.Pieces("<c:xy,xy> z"), many))
	if want := []api.Piece{{Text: slices.Repeat(brief.File("xyz"), many)}}; !pick.Same(same, want) {
		t.Errorf("conflicts that are all text: %d pieces", len(same))
	}
	stay := Zeal(slices.Repeat(brief.Pieces("<c:xay,xby>"), many))
	want := slices.Concat(brief.Pieces("x <c:a,b>"), slices.Repeat(brief.Pieces("yx <c:a,b>"), many-1), brief.Pieces("y"))
	if !pick.Same(stay, want) {
		t.Errorf("conflicts that stay: %d pieces", len(stay))
	}
}

// P10.2.

// sidesOfAll is how many sides all conflicts have; without a conflict as many as none of the tests has.
func sidesOfAll(l []api.Piece) int {
	n := 6
	for _, p := range l {
		if p.Conflict {
			n = min(n, len(p.Sides))
		}
	}
	return n
}

func checkChosen(t *testing.T, l, smaller []api.Piece) {
	t.Helper()
	for side := 1; side <= sidesOfAll(l); side++ {
		if got, want := pick.Choose(smaller, side), pick.Choose(l, side); !slices.Equal(got, want) {
			t.Fatalf("%s, side %d: %s, want %s", brief.ShownPieces(l), side, brief.Shown(got), brief.Shown(want))
		}
	}
}

func TestTheSameIsChosen(t *testing.T) {
	eachConflict(func(p api.Piece) { checkChosen(t, []api.Piece{p}, Trim(p)) })
	eachList(func(l []api.Piece) { checkChosen(t, l, Zeal(l)) })
}

func TestDoneTwiceItIsAsDoneOnce(t *testing.T) {
	eachConflict(func(p api.Piece) {
		l := Trim(p)
		checkPieces(t, brief.ShownPieces(l), Zeal(l), l)
		for _, part := range l {
			checkPieces(t, brief.ShownPieces(l), Trim(part), []api.Piece{part})
		}
	})
	eachList(func(l []api.Piece) {
		once := Zeal(l)
		checkPieces(t, brief.ShownPieces(l), Zeal(once), once)
	})
}

// ends is the first line of a side, and its last one; nothing, if it has none.
func ends(side []string) (first, last string) {
	if len(side) == 0 {
		return "", ""
	}
	return side[0], side[len(side)-1]
}

// isSmall tells whether a conflict with sides has some that differ, some that begin with another line, or none, and some that end so.
func isSmall(p api.Piece) bool {
	first, last := ends(p.Sides[0])
	sameFirst, sameLast := first != "", last != ""
	for _, side := range p.Sides {
		f, l := ends(side)
		sameFirst, sameLast = sameFirst && f == first, sameLast && l == last
	}
	differ := slices.ContainsFunc(p.Sides, func(side []string) bool { return !slices.Equal(side, p.Sides[0]) })
	return differ && !sameFirst && !sameLast
}

func checkSmall(t *testing.T, l, smaller []api.Piece) {
	t.Helper()
	for _, p := range smaller {
		if p.Conflict && len(p.Sides) > 0 && !isSmall(p) {
			t.Fatalf("%s: %s", brief.ShownPieces(l), brief.ShownPieces(smaller))
		}
	}
}

func TestNoConflictIsLeftThatBeginsOrEndsTheSame(t *testing.T) {
	eachConflict(func(p api.Piece) { checkSmall(t, []api.Piece{p}, Trim(p)) })
	eachList(func(l []api.Piece) { checkSmall(t, l, Zeal(l)) })
}

// P5: of merges, made smaller, a side that is chosen is what is made in its favour.
func TestMergesMadeSmaller(t *testing.T) {
	files := brief.Ended("ab", 3)
	for lists := range every.List(files, 3) {
		base, sides := lists[0], lists[1:]
		l, e := merge.Merge(base, sides, api.How{})
		if e != api.OK {
			t.Fatalf("%q, %q: error %d", base, sides, e)
		}
		smaller := Zeal(l)
		if pick.Clean(smaller) != pick.Clean(l) {
			t.Fatalf("%s: %s", brief.ShownPieces(l), brief.ShownPieces(smaller))
		}
		for k := range sides {
			favoured, _ := merge.Merge(base, sides, api.How{Favour: k + 1})
			if got := pick.Choose(smaller, k+1); !slices.Equal(got, pick.Choose(favoured, 0)) {
				t.Fatalf("%q, %q, in favour of %d: %s", base, sides, k+1, brief.Shown(got))
			}
		}
	}
}

// What is handed in stays as it is, also where a list has room behind its end, and where what is told is written into.
func TestWhatIsHandedInStays(t *testing.T) {
	for _, shown := range []string{"<c:xay,xby>", "<c:xy,xy>", "<c:a,b>", "<c:xy>", "<c>", "xy", "<c:x,xa>", "<c:,a>"} {
		p := brief.Piece(shown)
		var alls [][]string
		roomy := func(l []string) []string {
			handed, all := brief.Roomy(l)
			alls = append(alls, all)
			return handed
		}
		p.Text, p.Base = roomy(p.Text), roomy(p.Base)
		for k, side := range p.Sides {
			p.Sides[k] = roomy(side)
		}
		wantAlls, want := brief.ShownAll(alls), pick.Normal([]api.Piece{p, brief.Piece("u")})
		l := []api.Piece{p, brief.Piece("u"), p}
		for range 2 {
			told, first := Zeal(l[:2]), Trim(p)
			checkPieces(t, shown, told, pick.Normal(append(first, brief.Piece("u"))))
			brief.Spoil(told)
			brief.Spoil(Trim(p))
			brief.Spoil(first)
		}
		if got := brief.ShownAll(alls); got != wantAlls || !strings.Contains(got, "room~") {
			t.Errorf("%s: %s, want %s", shown, got, wantAlls)
		}
		if !pick.Same(pick.Normal(l[:2]), want) || !pick.Same(l[2:], []api.Piece{p}) {
			t.Errorf("%s has become %s", shown, brief.ShownPieces(l))
		}
	}
}
