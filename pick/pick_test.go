package pick

import (
	"math"
	"slices"
	"strconv"
	"strings"
	"testing"

	"sennit/api"
	"sennit/content"
	"sennit/every"
	"sennit/lines"
)

var (
	none    = api.How{}
	asUnion = api.How{Union: true}
)

func favour(side int) api.How {
	return api.How{Favour: side}
}

// letters is a list of one text a letter.
func letters(l string) []string {
	return strings.Split(l, "")
}

func textOf(texts ...string) api.Piece {
	return api.Piece{Text: texts}
}

func conflictOf(base []string, sides ...[]string) api.Piece {
	return api.Piece{Conflict: true, Base: base, Sides: sides}
}

func pieces(l ...api.Piece) []api.Piece { return l }

// samePieceByWords asks the fields one by one: what the tests hold against one another is not asked of Same itself.
func samePieceByWords(p, q api.Piece) bool {
	return p.Conflict == q.Conflict && slices.Equal(p.Text, q.Text) && slices.Equal(p.Base, q.Base) && slices.EqualFunc(p.Sides, q.Sides, slices.Equal[[]string])
}

func sameByWords(a, b []api.Piece) bool {
	return slices.EqualFunc(a, b, samePieceByWords)
}

func checkPiece(t *testing.T, base []string, parts [][]string, how api.How, want api.Piece) {
	t.Helper()
	if got := Piece(base, parts, how); !samePieceByWords(got, want) {
		t.Fatalf("%q, %q, %+v: %+v, want %+v", base, parts, how, got, want)
	}
}

func checkNormal(t *testing.T, l []api.Piece, want ...api.Piece) {
	t.Helper()
	if got := Normal(l); !sameByWords(got, want) {
		t.Fatalf("%+v: %+v, want %+v", l, got, want)
	}
}

func checkChoose(t *testing.T, l []api.Piece, side int, want ...string) {
	t.Helper()
	if got := Choose(l, side); !slices.Equal(got, want) {
		t.Fatalf("%+v, side %d: %q, want %q", l, side, got, want)
	}
}

// P7.1: what becomes of ordinary bases and parts, and of the edges.

// hows are all kinds of Favour of that many parts, with Union and without.
func hows(parts int) []api.How {
	var all []api.How
	for _, side := range []int{math.MinInt, -parts, -1, 0, 1, 2, parts, parts + 1, math.MaxInt} {
		all = append(all, api.How{Favour: side}, api.How{Favour: side, Union: true})
	}
	return all
}

func TestPieceOfOneContentOrNone(t *testing.T) {
	a, b, ab := letters("a"), letters("b"), letters("ab")
	for _, x := range []struct {
		name  string
		base  []string
		parts [][]string
		want  []string
	}{
		{"no parts", a, nil, a},
		{"no parts, and no texts", nil, nil, nil},
		{"one part, the base's", a, [][]string{a}, a},
		{"all parts the base's", ab, [][]string{ab, letters("ab"), ab}, ab},
		{"all parts without texts, as the base", nil, [][]string{nil, {}}, nil},
		{"one part, that differs", a, [][]string{b}, b},
		{"one part without texts", a, [][]string{{}}, nil},
		{"the first part differs", a, [][]string{b, a, a}, b},
		{"the part in the middle differs", a, [][]string{a, b, a}, b},
		{"the last part differs", a, [][]string{a, a, b}, b},
		{"the last part is without texts", ab, [][]string{ab, nil}, nil},
		{"a part has more texts", a, [][]string{a, ab}, ab},
		{"the base alone has no texts", nil, [][]string{nil, ab, {}}, ab},
		{"several parts are the same", a, [][]string{a, b, b}, b},
		{"several parts are the same, around the base's", a, [][]string{b, a, b}, b},
		{"all parts are the same", a, [][]string{ab, ab, ab}, ab},
		{"all parts are without texts", a, [][]string{nil, {}, nil}, nil},
		{"open texts, and lines, of which nothing is ended", []string{"a\n", "b"}, [][]string{{"b", "a", ""}}, []string{"b", "a", ""}},
	} {
		t.Run(x.name, func(t *testing.T) {
			for _, how := range hows(len(x.parts)) {
				checkPiece(t, x.base, x.parts, how, textOf(x.want...))
			}
		})
	}
}

func TestPieceOfManyContents(t *testing.T) {
	a, b, c, ab := letters("a"), letters("b"), letters("c"), letters("ab")
	for _, x := range []struct {
		name  string
		base  []string
		parts [][]string
	}{
		{"the example: two parts", a, [][]string{b, c}},
		{"two that differ, and the base's", a, [][]string{b, a, c}},
		{"two that differ, one of them twice", a, [][]string{b, c, b}},
		{"three that differ", a, [][]string{b, c, ab}},
		{"one of them without texts", a, [][]string{nil, b}},
		{"the base without texts", nil, [][]string{a, nil, b}},
		{"the same bytes, cut in another way", []string{"abc"}, [][]string{{"ab", "c"}, {"a", "bc"}}},
		{"an open text, and the line", a, [][]string{{"b"}, {"b\n"}}},
	} {
		t.Run(x.name, func(t *testing.T) {
			for _, side := range []int{0, -1, math.MinInt, -len(x.parts), len(x.parts) + 1, math.MaxInt} {
				checkPiece(t, x.base, x.parts, favour(side), conflictOf(x.base, x.parts...))
			}
			for k, part := range x.parts {
				checkPiece(t, x.base, x.parts, favour(k+1), textOf(part...))
				checkPiece(t, x.base, x.parts, api.How{Favour: k + 1, Union: true}, textOf(part...))
			}
		})
	}
}

func TestPieceAsUnion(t *testing.T) {
	a := []string{"a\n"}
	for _, x := range []struct {
		name  string
		base  []string
		parts [][]string
		want  []string
	}{
		{"the example", []string{"a"}, [][]string{{"b\n"}, {"c\n"}}, []string{"b\n", "c\n"}},
		{"each is ended", a, [][]string{{"b\n", "c\n"}, {"d\n"}, {"e\n", "f\n"}}, []string{"b\n", "c\n", "d\n", "e\n", "f\n"}},
		{"the last one is open", a, [][]string{{"b\n"}, {"c"}}, []string{"b\n", "c"}},
		{"the first one is open", a, [][]string{{"b"}, {"c\n"}}, []string{"b\n", "c\n"}},
		{"all are open", a, [][]string{{"b"}, {"c"}, {"d"}}, []string{"b\n", "c\n", "d"}},
		{"the last text of a list alone is ended", a, [][]string{{"b", "c"}, {"d", "e"}, {"f"}}, []string{"b", "c\n", "d", "e\n", "f"}},
		{"a text is open ahead of the last one alone", a, [][]string{{"b", "c\n"}, {"d"}}, []string{"b", "c\n", "d"}},
		{"a list is open, and an empty one behind it", a, [][]string{{"b"}, {}}, []string{"b"}},
		{"a list is open, and an empty one ahead of it", a, [][]string{nil, {"b"}}, []string{"b"}},
		{"a list is open, and an empty one, and others, behind it", a, [][]string{{"b"}, nil, {"c"}}, []string{"b\n", "c"}},
		{"the second list is open, and an empty one behind it", a, [][]string{{"b"}, {"c"}, nil}, []string{"b\n", "c"}},
		{"a list is ended, and an empty one behind it", a, [][]string{{"b\n"}, nil}, []string{"b\n"}},
		{"what stands behind is the base's", a, [][]string{{"b\n"}, {"c"}, a}, []string{"b\n", "c"}},
		{"what stands between is the base's", a, [][]string{{"b"}, a, {"c"}}, []string{"b\n", "c"}},
		{"what stands behind is there already", a, [][]string{{"b\n"}, {"c"}, {"b\n"}, {"c"}}, []string{"b\n", "c"}},
		{"the turn is that of the first ones", a, [][]string{{"c\n"}, {"b\n"}, {"c\n"}, a}, []string{"c\n", "b\n"}},
		{"a list whose last text is empty is open", a, [][]string{{"b\n", ""}, {"c"}}, []string{"b\n", "\n", "c"}},
		{"a list of an empty text isn't empty", a, [][]string{{"b"}, {""}}, []string{"b\n", ""}},
		{"a line and an open text are two contents", a, [][]string{{"b\n"}, {"b"}}, []string{"b\n", "b"}},
		{"an open text and a line are two contents", a, [][]string{{"b"}, {"b\n"}}, []string{"b\n", "b\n"}},
		{"a carriage return ends nothing", a, [][]string{{"b\r"}, {"c\n\r"}, {"d"}}, []string{"b\r\n", "c\n\r\n", "d"}},
	} {
		t.Run(x.name, func(t *testing.T) {
			checkPiece(t, x.base, x.parts, asUnion, textOf(x.want...))
			for _, side := range []int{-1, math.MinInt, -len(x.parts), len(x.parts) + 1, math.MaxInt} {
				checkPiece(t, x.base, x.parts, api.How{Favour: side, Union: true}, textOf(x.want...))
			}
		})
	}
}

// textsStandBehind tells whether one of the lists isn't empty.
func textsStandBehind(lists [][]string) bool {
	return slices.ContainsFunc(lists, func(l []string) bool { return len(l) != 0 })
}

func unionByWords(lists [][]string) []string {
	var all []string
	for k, list := range lists {
		list = slices.Clone(list)
		if lines.Open(list) && textsStandBehind(lists[k+1:]) {
			list[len(list)-1] += "\n"
		}
		all = slices.Concat(all, list)
	}
	return all
}

// pieceByWords is P7.1, word by word.
func pieceByWords(base []string, parts [][]string, how api.How) api.Piece {
	differing := content.Differing(base, parts)
	switch {
	case len(differing) == 0:
		return textOf(base...)
	case len(differing) == 1:
		return textOf(differing[0]...)
	case 1 <= how.Favour && how.Favour <= len(parts):
		return textOf(parts[how.Favour-1]...)
	case how.Union:
		return textOf(unionByWords(differing)...)
	default:
		return conflictOf(base, parts...)
	}
}

func TestPieceIsAsTheWordsSay(t *testing.T) {
	contents := slices.Collect(every.UpTo([]string{"a", "b\n", ""}, 2))
	for _, base := range [][]string{nil, {"a"}, {"b\n", "a"}} {
		for parts := range every.UpTo(contents, 3) {
			for _, how := range hows(len(parts)) {
				checkPiece(t, base, parts, how, pieceByWords(base, parts, how))
			}
		}
	}
}

// numbered is n lists of some lines, all of which differ, the last one of each open.
func numbered(n int) [][]string {
	l := make([][]string, n)
	for k := range l {
		l[k] = slices.Repeat([]string{strconv.Itoa(k) + "\n"}, 100)
		l[k][99] = strconv.Itoa(k)
	}
	return l
}

func TestPieceOfManyAndLongParts(t *testing.T) {
	parts := numbered(40)
	checkPiece(t, nil, parts, none, conflictOf(nil, parts...))
	checkPiece(t, parts[7], parts, favour(40), textOf(parts[39]...))
	checkPiece(t, parts[7], parts, favour(41), conflictOf(parts[7], parts...))
	checkPiece(t, parts[7], parts, asUnion, textOf(unionByWords(slices.Delete(slices.Clone(parts), 7, 8))...))
}

// P7.2: Normal.

func TestNormal(t *testing.T) {
	a, b := textOf("a"), textOf("b\n")
	k, bare := conflictOf(letters("x"), letters("y"), letters("z")), conflictOf(nil)
	for _, x := range []struct {
		name string
		l    []api.Piece
		want []api.Piece
	}{
		{"no pieces", nil, nil},
		{"an empty text", pieces(textOf()), nil},
		{"empty texts, nil and not", pieces(textOf(), api.Piece{Text: []string{}}, textOf()), nil},
		{"one text", pieces(a), pieces(a)},
		{"one conflict", pieces(k), pieces(k)},
		{"a conflict without sides, and without texts", pieces(bare), pieces(bare)},
		{"a conflict whose sides are all without texts", pieces(conflictOf(nil, nil, nil)), pieces(conflictOf(nil, nil, nil))},
		{"two texts", pieces(a, b), pieces(textOf("a", "b\n"))},
		{"more texts, in turn", pieces(a, b, a, a), pieces(textOf("a", "b\n", "a", "a"))},
		{"texts at the begin", pieces(a, b, k, a), pieces(textOf("a", "b\n"), k, a)},
		{"texts in the middle", pieces(k, b, a, b, k), pieces(k, textOf("b\n", "a", "b\n"), k)},
		{"texts at the end", pieces(a, k, b, a), pieces(a, k, textOf("b\n", "a"))},
		{"texts around an empty one", pieces(a, textOf(), b), pieces(textOf("a", "b\n"))},
		{"texts around several empty ones", pieces(k, a, textOf(), textOf(), textOf(), b, textOf(), a), pieces(k, textOf("a", "b\n", "a"))},
		{"an empty text at the begin, and at the end", pieces(textOf(), a, textOf()), pieces(a)},
		{"an empty text beside conflicts", pieces(textOf(), k, textOf(), bare, textOf()), pieces(k, bare)},
		{"texts around a conflict stay two", pieces(a, k, a), pieces(a, k, a)},
		{"texts around a conflict without sides stay two", pieces(a, bare, a), pieces(a, bare, a)},
		{"conflicts stay apart", pieces(k, k, bare, bare, k), pieces(k, k, bare, bare, k)},
		{"a list of an empty text isn't empty", pieces(k, textOf(""), k), pieces(k, textOf(""), k)},
		{"open texts are not ended", pieces(textOf("a"), textOf("b"), textOf("")), pieces(textOf("a", "b", ""))},
		{"a text that bears a Base and Sides", pieces(api.Piece{Text: letters("a"), Base: letters("b"), Sides: [][]string{letters("c")}}), pieces(a)},
		{"texts that bear a Base, or Sides", pieces(api.Piece{Text: letters("a"), Base: letters("b")}, api.Piece{Text: letters("c"), Sides: [][]string{nil}}), pieces(textOf("a", "c"))},
		{"an empty text that bears a Base and Sides", pieces(a, api.Piece{Base: letters("b"), Sides: [][]string{letters("c")}}, a), pieces(textOf("a", "a"))},
		{"a conflict that bears a Text", pieces(a, api.Piece{Conflict: true, Text: letters("a"), Base: k.Base, Sides: k.Sides}, a), pieces(a, k, a)},
		{"a conflict that bears nothing but a Text", pieces(api.Piece{Conflict: true, Text: letters("a")}), pieces(bare)},
	} {
		t.Run(x.name, func(t *testing.T) { checkNormal(t, x.l, x.want...) })
	}
}

// somePieces are texts and conflicts of some kinds: also such as Normal leaves out, or takes fields from.
func somePieces() []api.Piece {
	a, b := letters("a"), []string{"b\n", ""}
	return pieces(
		textOf(),
		textOf("a"),
		api.Piece{Text: b, Base: a, Sides: [][]string{a, b}},
		conflictOf(nil),
		conflictOf(a, b),
		api.Piece{Conflict: true, Text: a, Sides: [][]string{a, nil, b}},
	)
}

// flat is l, each text of a piece alone, and of conflicts what Normal keeps.
func flat(l []api.Piece) []api.Piece {
	var all []api.Piece
	for _, p := range l {
		if p.Conflict {
			all = append(all, conflictOf(p.Base, p.Sides...))
			continue
		}
		for _, text := range p.Text {
			all = append(all, textOf(text))
		}
	}
	return all
}

// isNormal tells whether no two texts stand side by side, none is empty, and no piece bears what isn't of its kind.
func isNormal(l []api.Piece) bool {
	for i, p := range l {
		if p.Conflict && len(p.Text) != 0 {
			return false
		}
		if !p.Conflict && (len(p.Text) == 0 || len(p.Base) != 0 || len(p.Sides) != 0) {
			return false
		}
		if i > 0 && !p.Conflict && !l[i-1].Conflict {
			return false
		}
	}
	return true
}

func TestNormalIsAsTheWordsSay(t *testing.T) {
	for l := range every.UpTo(somePieces(), 5) {
		normal := Normal(l)
		if !isNormal(normal) || !sameByWords(flat(normal), flat(l)) {
			t.Fatalf("%+v: %+v", l, normal)
		}
	}
}

func TestNormalOfManyPieces(t *testing.T) {
	const many = 200000
	texts := Normal(slices.Repeat(pieces(textOf("a", "b"), textOf()), many))
	if !sameByWords(texts, pieces(textOf(slices.Repeat(letters("ab"), many)...))) {
		t.Errorf("%d pieces", len(texts))
	}
	turns := slices.Repeat(pieces(conflictOf(nil, nil), textOf("a")), many)
	if !sameByWords(Normal(turns), turns) {
		t.Error("conflicts and texts that take turns have changed")
	}
}

// P7.2: Clean.

func TestClean(t *testing.T) {
	a, k := textOf("a"), conflictOf(nil)
	sided := api.Piece{Text: letters("a"), Base: letters("b"), Sides: [][]string{letters("c"), letters("d")}}
	for _, x := range []struct {
		name string
		l    []api.Piece
		want bool
	}{
		{"no pieces", nil, true},
		{"an empty text", pieces(textOf()), true},
		{"texts", pieces(a, a, a), true},
		{"a text that bears a Base and Sides", pieces(sided), true},
		{"one conflict", pieces(conflictOf(letters("a"), letters("b"), letters("c"))), false},
		{"a conflict that has nothing", pieces(k), false},
		{"a conflict that bears a Text", pieces(api.Piece{Conflict: true, Text: letters("a")}), false},
		{"a conflict at the begin", pieces(k, a, a), false},
		{"a conflict in the middle", pieces(a, k, a), false},
		{"a conflict at the end", pieces(a, a, k), false},
		{"conflicts", pieces(k, k), false},
	} {
		if got := Clean(x.l); got != x.want {
			t.Errorf("%s: %t", x.name, got)
		}
	}
}

// P7.2: Choose.

func TestChoose(t *testing.T) {
	two, one, bare := conflictOf(letters("x"), letters("cd"), letters("e")), conflictOf(nil, letters("f")), conflictOf(letters("y"))
	sided := api.Piece{Text: letters("g"), Base: letters("h"), Sides: [][]string{letters("i"), letters("j")}}
	texted := api.Piece{Conflict: true, Text: letters("m"), Base: letters("n"), Sides: [][]string{nil, letters("o")}}
	for _, x := range []struct {
		name  string
		l     []api.Piece
		wants map[int]string
	}{
		{"no pieces", nil, map[int]string{0: "", 1: "", 2: ""}},
		{"texts", pieces(textOf("a"), textOf(), textOf("b", "a")), map[int]string{0: "aba", 1: "aba", 2: "aba"}},
		{"one conflict", pieces(two), map[int]string{0: "", 1: "cd", 2: "e", 3: ""}},
		{"a conflict without sides", pieces(bare), map[int]string{0: "", 1: "", 2: ""}},
		{"a conflict between texts", pieces(textOf("a"), two, textOf("b")), map[int]string{0: "ab", 1: "acdb", 2: "aeb", 3: "ab"}},
		{"sides of one conflict, and not of another", pieces(two, textOf("a"), one, bare, two), map[int]string{0: "a", 1: "cdafcd", 2: "eae", 3: "a"}},
		{"a text that bears a Base and Sides", pieces(sided), map[int]string{0: "g", 1: "g", 2: "g", 3: "g"}},
		{"a conflict that bears a Text, and a side without texts", pieces(texted), map[int]string{0: "", 1: "", 2: "o", 3: ""}},
	} {
		t.Run(x.name, func(t *testing.T) {
			for side, want := range x.wants {
				checkChoose(t, x.l, side, letters(want)...)
			}
			for _, side := range []int{-1, -2, math.MinInt, math.MinInt + 1, math.MaxInt} {
				checkChoose(t, x.l, side, letters(x.wants[0])...)
			}
		})
	}
}

func TestChooseEndsNothing(t *testing.T) {
	l := pieces(textOf("a"), conflictOf(nil, []string{"b", ""}, []string{"c\n"}), textOf("d"))
	checkChoose(t, l, 0, "a", "d")
	checkChoose(t, l, 1, "a", "b", "", "d")
	checkChoose(t, l, 2, "a", "c\n", "d")
}

// P7.2: Same.

// kindsOfPieces are pieces of which no two are the same: some differ in one field alone.
func kindsOfPieces() []api.Piece {
	lists := [][]string{nil, {""}, {"a"}, {"b"}, {"a", "b"}, {"ab"}, {"a", "b", "c"}, {"a", "x", "c"}}
	sides := [][][]string{nil, {nil}, {nil, nil}, {{"a"}}, {{"a"}, nil}, {nil, {"a"}}, {{"a"}, {"b"}}, {{"a", "b"}}, {{"ab"}}, {{"b"}, {"a"}}}
	var all []api.Piece
	for _, conflict := range []bool{false, true} {
		for _, text := range lists {
			for _, base := range lists {
				for _, side := range sides {
					all = append(all, api.Piece{Conflict: conflict, Text: text, Base: base, Sides: side})
				}
			}
		}
	}
	return all
}

func TestSameOfPiecesThatDiffer(t *testing.T) {
	all := kindsOfPieces()
	for i, p := range all {
		for k, q := range all {
			if got := Same(pieces(p), pieces(q)); got != (i == k) {
				t.Fatalf("%+v, and %+v: %t", p, q, got)
			}
		}
	}
}

func TestSameOfLists(t *testing.T) {
	a, b, k := textOf("a"), textOf("b"), conflictOf(letters("c"), letters("d"))
	lists := slices.Collect(every.UpTo(pieces(a, b, k, textOf()), 3))
	for i, l := range lists {
		for j, m := range lists {
			if got := Same(l, m); got != (i == j) {
				t.Fatalf("%+v, and %+v: %t", l, m, got)
			}
		}
	}
}

func TestSameOfNilAndEmpty(t *testing.T) {
	bare, empty := api.Piece{}, api.Piece{Text: []string{}, Base: []string{}, Sides: [][]string{}}
	side, emptySide := conflictOf(nil, nil), conflictOf([]string{}, []string{})
	if !Same(nil, pieces()) || !Same(pieces(bare, side), pieces(empty, emptySide)) || !Same(pieces(empty, emptySide), pieces(bare, side)) {
		t.Error("nil and empty are not the same")
	}
	if Same(nil, pieces(bare)) || Same(pieces(empty), nil) || Same(pieces(bare, bare), pieces(bare)) {
		t.Error("a piece that has nothing is no piece")
	}
}

// P7.3.

func TestChooseOfAPieceIsTheTextInItsFavour(t *testing.T) {
	contents := slices.Collect(every.UpTo([]string{"a", "b\n"}, 2))
	for _, base := range contents {
		for parts := range every.UpTo(contents, 4) {
			p := Piece(base, parts, none)
			for k := range parts {
				favoured := Piece(base, parts, favour(k+1))
				if favoured.Conflict {
					t.Fatalf("%q, %q, in favour of %d: a conflict", base, parts, k+1)
				}
				checkChoose(t, pieces(p), k+1, favoured.Text...)
			}
		}
	}
}

func TestNormalChangesNothingOfWhatIsChosen(t *testing.T) {
	for l := range every.UpTo(somePieces(), 5) {
		normal := Normal(l)
		for side := -1; side <= 4; side++ {
			checkChoose(t, normal, side, Choose(l, side)...)
		}
		if Clean(normal) != Clean(l) {
			t.Fatalf("%+v: clean %t, and then %t", l, Clean(l), Clean(normal))
		}
	}
}

func TestNormalDoneTwiceIsAsDoneOnce(t *testing.T) {
	for l := range every.UpTo(somePieces(), 5) {
		normal := Normal(l)
		checkNormal(t, normal, normal...)
		if !Same(Normal(normal), normal) {
			t.Fatalf("%+v: not the same as %+v", Normal(normal), normal)
		}
	}
}

// What is handed in stays as it is: also where a list has room behind its end, and where what is told is written into.

// roomy is letters, with room behind them where a further one stands, and all that there is.
func roomy(l string) ([]string, []string) {
	all := letters(l + "~")
	return all[:len(l)], all
}

// spoil writes into all that p has, and behind it.
func spoil(p api.Piece) {
	for _, list := range append([][]string{p.Text, p.Base}, p.Sides...) {
		list = append(list, "!")
		for i := range list {
			list[i] = "!"
		}
	}
	for k := range p.Sides {
		p.Sides[k] = nil
	}
}

func TestPieceLeavesWhatIsHandedIn(t *testing.T) {
	base, allBase := roomy("ab")
	one, allOne := roomy("cd")
	two, allTwo := roomy("ef")
	parts := [][]string{one, two, base, one}
	for _, how := range []api.How{none, asUnion, favour(1), favour(2), favour(3), favour(5)} {
		want := pieceByWords(base, parts, how)
		checkPiece(t, base, parts, how, want)
		spoil(Piece(base, parts, how))
		spoil(Piece(base, parts[2:], how))
		spoil(Piece(base, parts[2:3], how))
	}
	if !slices.Equal(allBase, letters("ab~")) || !slices.Equal(allOne, letters("cd~")) || !slices.Equal(allTwo, letters("ef~")) {
		t.Errorf("%q, %q, %q", allBase, allOne, allTwo)
	}
	if !slices.EqualFunc(parts, [][]string{one, two, base, one}, slices.Equal[[]string]) {
		t.Errorf("%q", parts)
	}
}

func TestNormalLeavesWhatIsHandedIn(t *testing.T) {
	first, allFirst := roomy("ab")
	second, allSecond := roomy("cd")
	k := conflictOf(first, second, first)
	l := pieces(textOf(first...), textOf(second...), k, textOf(second...), textOf(first...))
	once := Normal(l)
	again := Normal(once)
	for _, p := range once {
		spoil(p)
	}
	_ = append(once, k)
	if !sameByWords(again, pieces(textOf("a", "b", "c", "d"), conflictOf(letters("ab"), letters("cd"), letters("ab")), textOf("c", "d", "a", "b"))) {
		t.Errorf("what was told of what was told: %+v", again)
	}
	if !slices.Equal(allFirst, letters("ab~")) || !slices.Equal(allSecond, letters("cd~")) {
		t.Errorf("%q, %q", allFirst, allSecond)
	}
	if !sameByWords(l, pieces(textOf("a", "b"), textOf("c", "d"), conflictOf(first, second, first), textOf("c", "d"), textOf("a", "b"))) {
		t.Errorf("%+v", l)
	}
}

func TestChooseLeavesWhatIsHandedIn(t *testing.T) {
	first, allFirst := roomy("ab")
	second, allSecond := roomy("cd")
	l := pieces(textOf(first...), conflictOf(first, second), textOf(second...))
	for side := range 3 {
		for from := range l {
			spoil(textOf(Choose(l[from:], side)...))
			spoil(textOf(Choose(l[from:from+1], side)...))
		}
	}
	if !slices.Equal(allFirst, letters("ab~")) || !slices.Equal(allSecond, letters("cd~")) {
		t.Errorf("%q, %q", allFirst, allSecond)
	}
}
