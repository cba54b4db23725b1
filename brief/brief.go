// Package brief writes files, and what is made of them, as short texts: the layers' tests are written in these.
//
// A letter is a line, and a letter with a ~ behind it is an open line; files have a comma between. Lines of more than a letter stand side by side, each line feed as a stroke.
package brief

import (
	"iter"
	"slices"
	"strconv"
	"strings"

	"sennit/api"
	"sennit/every"
)

const (
	feed  = "\n"
	open  = '~'
	comma = ","

	stroke = "/"
)

// File is the lines of the letters.
func File(letters string) []string {
	var l []string
	for _, letter := range letters {
		if letter == open {
			l[len(l)-1] = strings.TrimSuffix(l[len(l)-1], feed)
			continue
		}
		l = append(l, string(letter)+feed)
	}
	return l
}

// Files is the files that have a comma between.
func Files(letters string) [][]string {
	var all [][]string
	for file := range strings.SplitSeq(letters, comma) {
		all = append(all, File(file))
	}
	return all
}

// Shown is the lines as letters.
func Shown(l []string) string {
	var s strings.Builder
	for _, text := range l {
		line, ended := strings.CutSuffix(text, feed)
		s.WriteString(line)
		if !ended {
			s.WriteRune(open)
		}
	}
	return s.String()
}

// ShownAll is the files with a comma between.
func ShownAll(lists [][]string) string {
	all := make([]string, len(lists))
	for k, l := range lists {
		all[k] = Shown(l)
	}
	return strings.Join(all, comma)
}

// Lines is the lines that stand side by side, each line feed as a stroke; without one the last is an open line.
func Lines(strokes string) []string {
	var l []string
	for line := range strings.SplitAfterSeq(strokes, stroke) {
		if line != "" {
			l = append(l, strings.ReplaceAll(line, stroke, feed))
		}
	}
	return l
}

// ShownLines is the lines so.
func ShownLines(l []string) string {
	return strings.ReplaceAll(strings.Join(l, ""), feed, stroke)
}

// ShownPieces has each text as it is, and each conflict in angle brackets: its base, and a colon, and its sides, if it has some. What isn't of a piece's kind stands behind an exclamation mark.
func ShownPieces(l []api.Piece) string {
	all := make([]string, len(l))
	for at, p := range l {
		switch {
		case p.Conflict && len(p.Text) == 0:
			all[at] = shownConflict(p)
		case !p.Conflict && len(p.Base) == 0 && len(p.Sides) == 0:
			all[at] = Shown(p.Text)
		default:
			all[at] = "!" + Shown(p.Text) + ":" + Shown(p.Base) + ":" + ShownAll(p.Sides)
		}
	}
	return strings.Join(all, " ")
}

func shownConflict(p api.Piece) string {
	if len(p.Sides) == 0 {
		return "<" + Shown(p.Base) + ">"
	}
	return "<" + Shown(p.Base) + ":" + ShownAll(p.Sides) + ">"
}

// Pieces is the pieces that are shown so, without exclamation marks.
func Pieces(shown string) []api.Piece {
	if shown == "" {
		return nil
	}
	var l []api.Piece
	for p := range strings.SplitSeq(shown, " ") {
		l = append(l, Piece(p))
	}
	return l
}

// Piece is the one piece that is shown so.
func Piece(shown string) api.Piece {
	within, isConflict := strings.CutPrefix(shown, "<")
	if !isConflict {
		return api.Piece{Text: File(shown)}
	}
	base, sides, sided := strings.Cut(strings.TrimSuffix(within, ">"), ":")
	p := api.Piece{Conflict: true, Base: File(base)}
	if sided {
		p.Sides = Files(sides)
	}
	return p
}

// Conflicts is small conflicts: of one side to five, ended and open ones, empty ones, and such as are the same.
func Conflicts() iter.Seq[api.Piece] {
	return func(yield func(api.Piece) bool) {
		for _, c := range []struct {
			files [][]string
			sides int
		}{
			{All("ab", 2), 1},
			{All("ab", 2), 2},
			{All("a", 2), 3},
			{All("ab", 1), 3},
			{All("a", 1), 5},
		} {
			for lists := range every.List(c.files, c.sides+1) {
				if !yield(api.Piece{Conflict: true, Base: lists[0], Sides: lists[1:]}) {
					return
				}
			}
		}
	}
}

// Ended is all files of at most n lines of the letters.
func Ended(letters string, n int) [][]string {
	var all [][]string
	for list := range every.UpTo(strings.Split(letters, ""), n) {
		all = append(all, File(strings.Join(list, "")))
	}
	return all
}

// All is all files of at most n lines of the letters, the last one a line, or open.
func All(letters string, n int) [][]string {
	all := Ended(letters, n)
	for _, ended := range all {
		if len(ended) > 0 {
			all = append(all, File(Shown(ended)+string(open)))
		}
	}
	return all
}

// Numbered is n lines that all differ.
func Numbered(n int) []string {
	l := make([]string, n)
	for i := range l {
		l[i] = strconv.Itoa(i) + feed
	}
	return l
}

// Roomy is the list with room behind its end, where a text stands, and all that there is.
func Roomy(l []string) ([]string, []string) {
	all := append(slices.Clone(l), "room")
	return all[:len(l)], all
}

// Spoil writes into all that the pieces have, and behind it.
func Spoil(l []api.Piece) {
	for _, p := range l {
		for _, list := range append([][]string{p.Text, p.Base}, p.Sides...) {
			list = append(list, "!")
			for i := range list {
				list[i] = "!"
			}
		}
		clear(p.Sides)
	}
}
