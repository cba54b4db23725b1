package brief

import (
	"slices"
	"strings"
	"testing"

	"sennit/api"
	"sennit/pick"
)

func TestThereAndBack(t *testing.T) {
	for _, c := range []struct {
		letters string
		files   [][]string
	}{
		{"", [][]string{nil}},
		{",", [][]string{nil, nil}},
		{"ab", [][]string{{"a\n", "b\n"}}},
		{"ab~,c", [][]string{{"a\n", "b"}, {"c\n"}}},
		{"a~b,,\u00e9", [][]string{{"a", "b\n"}, nil, {"\u00e9\n"}}},
	} {
		if got := Files(c.letters); !slices.EqualFunc(got, c.files, slices.Equal[[]string]) || ShownAll(got) != c.letters {
			t.Errorf("%s: %q, and %s", c.letters, got, ShownAll(got))
		}
	}
}

func TestLinesThereAndBack(t *testing.T) {
	for _, c := range []struct {
		strokes string
		want    []string
	}{
		{"", nil},
		{"/", []string{"\n"}},
		{"a", []string{"a"}},
		{"a b/c/", []string{"a b\n", "c\n"}},
		{"//a", []string{"\n", "\n", "a"}},
	} {
		if got := Lines(c.strokes); !slices.Equal(got, c.want) || ShownLines(got) != c.strokes {
			t.Errorf("%s: %q, and %s", c.strokes, got, ShownLines(got))
		}
	}
}

func TestConflicts(t *testing.T) {
	sides, all := map[int]int{}, map[string]bool{}
	for p := range Conflicts() {
		sides[len(p.Sides)]++
		shown := ShownPieces([]api.Piece{p})
		all[shown] = true
		if shown == "<a:b~>" {
			break
		}
	}
	if len(sides) != 1 || !all["<:>"] || !all["<a:ab>"] || all["<b:>"] {
		t.Errorf("broken off: %v", sides)
	}
	clear(sides)
	for p := range Conflicts() {
		sides[len(p.Sides)]++
		all[ShownPieces([]api.Piece{p})] = true
	}
	for _, shown := range []string{"<:>", "<a:ab>", "<ba~:a~,a~>", "<aa:,a~,aa~>", "<b~:a,b,b>", "<a~:a,,a~,a,a>"} {
		if !all[shown] {
			t.Errorf("there is no %s", shown)
		}
	}
	if sides[1] != 13*13 || sides[2] != 13*13*13 || sides[3] != 5*5*5*5+5*5*5*5 || sides[5] != 3*3*3*3*3*3 {
		t.Errorf("%v", sides)
	}
}

func TestShownPieces(t *testing.T) {
	a, b := File("a"), File("b~")
	for _, c := range []struct {
		piece api.Piece
		want  string
	}{
		{api.Piece{}, ""},
		{api.Piece{Text: b}, "b~"},
		{api.Piece{Conflict: true}, "<>"},
		{api.Piece{Conflict: true, Base: a}, "<a>"},
		{api.Piece{Conflict: true, Base: a, Sides: [][]string{nil}}, "<a:>"},
		{api.Piece{Conflict: true, Sides: [][]string{nil, nil}}, "<:,>"},
		{api.Piece{Conflict: true, Base: a, Sides: [][]string{b, nil}}, "<a:b~,>"},
		{api.Piece{Conflict: true, Text: a, Base: b}, "!a:b~:"},
		{api.Piece{Text: a, Base: b}, "!a:b~:"},
		{api.Piece{Text: a, Sides: [][]string{b}}, "!a::b~"},
	} {
		if got := ShownPieces([]api.Piece{{Text: a}, c.piece}); got != "a "+c.want {
			t.Errorf("%+v: %s, want %s", c.piece, got, c.want)
		}
	}
}

func TestPiecesThereAndBack(t *testing.T) {
	a, b := File("a"), File("b~")
	for _, c := range []struct {
		shown string
		want  []api.Piece
	}{
		{"", nil},
		{" ", []api.Piece{{}, {}}},
		{"a", []api.Piece{{Text: a}}},
		{"a  b~", []api.Piece{{Text: a}, {}, {Text: b}}},
		{"<>", []api.Piece{{Conflict: true}}},
		{"<a> <a:>", []api.Piece{{Conflict: true, Base: a}, {Conflict: true, Base: a, Sides: [][]string{nil}}}},
		{"a <:b~,> b~", []api.Piece{{Text: a}, {Conflict: true, Sides: [][]string{b, nil}}, {Text: b}}},
		{"<b~:a,b~,a>", []api.Piece{{Conflict: true, Base: b, Sides: [][]string{a, b, a}}}},
	} {
		if got := Pieces(c.shown); !pick.Same(got, c.want) || ShownPieces(got) != c.shown {
			t.Errorf("%s: %+v, and %s", c.shown, got, ShownPieces(got))
		}
	}
}

func TestAll(t *testing.T) {
	for _, c := range []struct {
		letters     string
		n           int
		ended, open string
	}{
		{"ab", 0, "", ""},
		{"", 2, "", ""},
		{"a", 2, ",a,aa", ",a~,aa~"},
		{"ab", 2, ",a,b,aa,ab,ba,bb", ",a~,b~,aa~,ab~,ba~,bb~"},
	} {
		if got := ShownAll(Ended(c.letters, c.n)); got != c.ended {
			t.Errorf("%s, %d: ended %s, want %s", c.letters, c.n, got, c.ended)
		}
		if got := ShownAll(All(c.letters, c.n)); got != c.ended+c.open {
			t.Errorf("%s, %d: all %s, want %s", c.letters, c.n, got, c.ended+c.open)
		}
	}
}

func TestNumbered(t *testing.T) {
	if got := strings.Join(Numbered(11), ""); got != "0\n1\n2\n3\n4\n5\n6\n7\n8\n9\n10\n" {
		t.Errorf("%q", got)
	}
}

func TestRoomyAndSpoil(t *testing.T) {
	l, all := Roomy(File("ab"))
	if Shown(l) != "ab" || Shown(all) != "abroom~" || cap(l) != cap(all) {
		t.Errorf("%q of %q", l, all)
	}
	side, allSide := Roomy(File("c"))
	base, allBase := Roomy(nil)
	sides := [][]string{side}
	Spoil([]api.Piece{{Text: l, Base: base, Sides: sides}})
	if got := Shown(all) + Shown(allSide) + Shown(allBase); got != strings.Repeat("!~", 6) || sides[0] != nil {
		t.Errorf("%s, %q", got, sides)
	}
}
