package content

import (
	"math"
	"slices"
	"strconv"
	"strings"
	"testing"

	"sennit/api"
	"sennit/every"
)

func span(from, to int) api.Span { return api.Span{From: from, To: to} }

// chunk is a chunk of the base's span, and one of each side.
func chunk(base api.Span, sides ...api.Span) api.Chunk {
	return api.Chunk{Base: base, Sides: sides}
}

func sameLists(a, b [][]string) bool {
	return slices.EqualFunc(a, b, slices.Equal[[]string])
}

func checkParts(t *testing.T, c api.Chunk, base []string, sides [][]string, want []string, wants ...[]string) {
	t.Helper()
	part, parts, e := Parts(c, base, sides)
	if e != api.OK || !slices.Equal(part, want) || !sameLists(parts, wants) {
		t.Fatalf("%v of %q, %q: error %d, %q, %q, want %q, %q", c, base, sides, e, part, parts, want, wants)
	}
}

func checkNoParts(t *testing.T, name string, c api.Chunk, base []string, sides [][]string, want api.Errno) {
	t.Helper()
	part, parts, e := Parts(c, base, sides)
	if e != want || len(part) != 0 || len(parts) != 0 {
		t.Fatalf("%s: %v of %q, %q: error %d, want %d; %q, %q", name, c, base, sides, e, want, part, parts)
	}
}

func checkDiffering(t *testing.T, base []string, parts [][]string, want ...[]string) {
	t.Helper()
	if got := Differing(base, parts); !sameLists(got, want) {
		t.Fatalf("%q of %q: %q, want %q", parts, base, got, want)
	}
	kind := Many
	if len(want) == 0 {
		kind = Same
	} else if len(want) == 1 {
		kind = One
	}
	if got := Kind(base, parts); got != kind {
		t.Fatalf("%q of %q: the kind %d, want %d", parts, base, got, kind)
	}
}

// letters is a list of one text a letter.
func letters(l string) []string {
	return strings.Split(l, "")
}

// numbered is n texts that all differ.
func numbered(n int) []string {
	l := make([]string, n)
	for i := range l {
		l[i] = strconv.Itoa(i)
	}
	return l
}

func TestKindsAreAsTheChapterSays(t *testing.T) {
	if Same != 0 || One != 1 || Many != 2 {
		t.Errorf("%d, %d, %d", Same, One, Many)
	}
}

// P6.1: ordinary chunks, and the edges of spans.

func TestParts(t *testing.T) {
	base, x, y := letters("abc"), letters("xbcd"), letters("y")
	two := [][]string{x, y}
	for _, c := range []struct {
		name  string
		chunk api.Chunk
		base  []string
		sides [][]string
		want  []string
		wants [][]string
	}{
		{"all of the base, and of each side", chunk(span(0, 3), span(0, 4), span(0, 1)), base, two, base, two},
		{"the begin", chunk(span(0, 1), span(0, 1), span(0, 1)), base, two, letters("a"), [][]string{letters("x"), y}},
		{"the middle", chunk(span(1, 2), span(1, 3), span(0, 0)), base, two, letters("b"), [][]string{letters("bc"), nil}},
		{"the end", chunk(span(2, 3), span(3, 4), span(1, 1)), base, two, letters("c"), [][]string{letters("d"), nil}},
		{"no places at the begin", chunk(span(0, 0), span(0, 0), span(0, 0)), base, two, nil, [][]string{nil, nil}},
		{"no places in the middle", chunk(span(1, 1), span(2, 2), span(0, 0)), base, two, nil, [][]string{nil, nil}},
		{"no places at the end", chunk(span(3, 3), span(4, 4), span(1, 1)), base, two, nil, [][]string{nil, nil}},
		{"places of the base alone", chunk(span(1, 3), span(4, 4), span(0, 0)), base, two, letters("bc"), [][]string{nil, nil}},
		{"places of one side alone", chunk(span(3, 3), span(1, 3), span(1, 1)), base, two, nil, [][]string{letters("bc"), nil}},
		{"a base without texts", chunk(span(0, 0), span(1, 2), span(0, 1)), nil, two, nil, [][]string{letters("b"), y}},
		{"a side without texts", chunk(span(0, 3), span(0, 0), span(0, 1)), base, [][]string{nil, y}, base, [][]string{nil, y}},
		{"no texts at all", chunk(span(0, 0), span(0, 0)), nil, [][]string{{}}, nil, [][]string{nil}},
		{"no sides", chunk(span(1, 3)), base, nil, letters("bc"), nil},
		{"no sides, and no texts", api.Chunk{}, nil, nil, nil, nil},
		{"the same side twice, of other places", chunk(span(0, 1), span(0, 2), span(1, 4)), base, [][]string{x, x}, letters("a"), [][]string{letters("xb"), letters("bcd")}},
		{"texts that are no lines", chunk(span(0, 2), span(0, 1)), []string{"", "a\nb\x00\xff", "c"}, [][]string{{"\n\n"}}, []string{"", "a\nb\x00\xff"}, [][]string{{"\n\n"}}},
	} {
		t.Run(c.name, func(t *testing.T) {
			checkParts(t, c.chunk, c.base, c.sides, c.want, c.wants...)
			c.chunk.Stable = true
			checkParts(t, c.chunk, c.base, c.sides, c.want, c.wants...)
		})
	}
}

// spansByWords tells whether each span is one of its list's places.
func spansByWords(c api.Chunk, base []string, sides [][]string) bool {
	lists, spans := append([][]string{base}, sides...), append([]api.Span{c.Base}, c.Sides...)
	for k, s := range spans {
		if s.From < 0 || s.From > s.To || s.To > len(lists[k]) {
			return false
		}
	}
	return true
}

// lyingIn are the texts of l whose places are none ahead of s, and none behind it.
func lyingIn(l []string, s api.Span) []string {
	var texts []string
	for i, text := range l {
		if s.From <= i && i < s.To {
			texts = append(texts, text)
		}
	}
	return texts
}

// checkByWords is P6.1, word by word.
func checkByWords(t *testing.T, c api.Chunk, base []string, sides [][]string) {
	t.Helper()
	switch {
	case len(c.Sides) != len(sides):
		checkNoParts(t, "not as many sides", c, base, sides, api.ErrArg)
	case !spansByWords(c, base, sides):
		checkNoParts(t, "no span of places", c, base, sides, api.ErrRange)
	default:
		var wants [][]string
		for k, side := range sides {
			wants = append(wants, lyingIn(side, c.Sides[k]))
		}
		checkParts(t, c, base, sides, lyingIn(base, c.Base), wants...)
	}
}

// spansOf are all spans whose ends are of the numbers.
func spansOf(numbers ...int) []api.Span {
	var all []api.Span
	for ends := range every.List(numbers, 2) {
		all = append(all, span(ends[0], ends[1]))
	}
	return all
}

func TestPartsAreAsTheWordsSay(t *testing.T) {
	base := letters("abc")
	for size := range 4 {
		for spans := range every.List(spansOf(-1, 0, 1, 2, 3, 4), 2) {
			checkByWords(t, chunk(spans[0], spans[1]), base[:size], [][]string{letters("xy")})
		}
	}
	for count := range 4 {
		for spans := range every.UpTo(spansOf(-1, 0, 1, 2), 4) {
			if len(spans) > 0 {
				checkByWords(t, chunk(spans[0], spans[1:]...), base[:1], [][]string{letters("x"), nil, letters("yz")}[:count])
			}
		}
	}
}

func TestPartsOfManySidesAndTexts(t *testing.T) {
	const most = 100
	base, side := numbered(5000), numbered(3000)
	sides, spans, wants := make([][]string, most), make([]api.Span, most), make([][]string, most)
	for k := range most {
		sides[k], spans[k], wants[k] = side, span(k, 2*k+1000), side[k:2*k+1000]
	}
	checkParts(t, chunk(span(17, 4999), spans...), base, sides, base[17:4999], wants...)
	spans[most-1] = span(0, 3001)
	checkNoParts(t, "the last of many sides", chunk(span(17, 4999), spans...), base, sides, api.ErrRange)
}

// P6.1: wrong ones.

func TestNotAsManySides(t *testing.T) {
	base := letters("ab")
	for spans := range 20 {
		for sides := range 20 {
			if spans == sides {
				continue
			}
			name := strconv.Itoa(spans) + " spans, and " + strconv.Itoa(sides) + " sides"
			checkNoParts(t, name, chunk(span(0, 1), make([]api.Span, spans)...), base, slices.Repeat([][]string{base}, sides), api.ErrArg)
			checkNoParts(t, name+", and the base's span is none", chunk(span(0, 3), make([]api.Span, spans)...), base, slices.Repeat([][]string{base}, sides), api.ErrArg)
			checkNoParts(t, name+", and the sides' spans are none", chunk(span(0, 1), slices.Repeat([]api.Span{span(-1, 9)}, spans)...), base, slices.Repeat([][]string{base}, sides), api.ErrArg)
		}
	}
}

func TestWhatIsNoSpanOfPlaces(t *testing.T) {
	const low, high = math.MinInt, math.MaxInt
	list, right := letters("abc"), span(1, 2)
	for _, c := range []struct {
		name string
		s    api.Span
	}{
		{"begins below 0", span(-1, 2)},
		{"begins below 0, without places", span(-1, -1)},
		{"begins below 0, and ends at 0", span(-1, 0)},
		{"begins below 0, and ends ahead of its begin", span(-1, -2)},
		{"begins far below 0", span(low, 1)},
		{"ends ahead of its begin", span(2, 1)},
		{"ends ahead of its begin, at 0", span(1, 0)},
		{"ends ahead of its begin, below 0", span(1, -1)},
		{"ends ahead of its begin, far below 0", span(1, low)},
		{"ends ahead of its begin, that is above all places", span(4, 3)},
		{"ends above how many places there are", span(0, 4)},
		{"ends above, and begins at the last place", span(2, 4)},
		{"ends above, and begins behind the last place", span(3, 4)},
		{"ends above, without places", span(4, 4)},
		{"ends far above", span(0, high)},
		{"ends far above, without places", span(high, high)},
		{"begins far above, and ends far below", span(high, low)},
		{"begins far below, and ends far above", span(low, high)},
	} {
		checkNoParts(t, c.name+", of the base, without sides", chunk(c.s), list, nil, api.ErrRange)
		checkNoParts(t, c.name+", of the base", chunk(c.s, right, right), list, [][]string{list, list}, api.ErrRange)
		checkNoParts(t, c.name+", of the first side", chunk(right, c.s, right), list, [][]string{list, list}, api.ErrRange)
		checkNoParts(t, c.name+", of the last side", chunk(right, right, c.s), list, [][]string{list, list}, api.ErrRange)
		checkNoParts(t, c.name+", of all", chunk(c.s, c.s, c.s), list, [][]string{list, list}, api.ErrRange)
		checkNoParts(t, c.name+", and not as many sides", chunk(c.s, c.s), list, [][]string{list, list}, api.ErrArg)
	}
	checkNoParts(t, "the base's span, of a longer side", chunk(span(0, 2), span(0, 1)), letters("a"), [][]string{letters("ab")}, api.ErrRange)
	checkNoParts(t, "a side's span, of a longer base", chunk(span(0, 1), span(0, 2)), letters("ab"), [][]string{letters("a")}, api.ErrRange)
	checkNoParts(t, "each side's span, of the other side", chunk(span(0, 0), span(0, 2), span(0, 1)), nil, [][]string{letters("a"), letters("ab")}, api.ErrRange)
	checkNoParts(t, "a base without texts", chunk(span(0, 1)), nil, nil, api.ErrRange)
	checkNoParts(t, "places that are there for more texts alone", chunk(span(0, 3)), list[:2], nil, api.ErrRange)
	checkNoParts(t, "a side's places that are there for more texts alone", chunk(span(0, 1), span(2, 3)), list, [][]string{list[:2]}, api.ErrRange)
}

// What is handed in stays as it is, even if what is told is added to.

func TestWhatIsHandedInStays(t *testing.T) {
	base, side, spans := letters("abcd"), letters("wxyz"), []api.Span{span(1, 2), span(0, 3), span(7, 7)}
	sides := [][]string{side[:3], side, nil}
	part, parts, _ := Parts(chunk(span(1, 3), spans[:2]...), base[:3], sides[:2])
	_, _ = append(part, "7"), append(parts, letters("8"))
	for _, p := range parts {
		_ = append(p, "9")
	}
	if !slices.Equal(part, letters("bc")) || !sameLists(parts, [][]string{letters("x"), letters("wxy")}) {
		t.Errorf("%q, %q", part, parts)
	}
	differing := Differing(base, sides)
	for _, d := range differing {
		_ = append(d, "5")
	}
	_ = append(differing, letters("6"))
	if !slices.Equal(base, letters("abcd")) || !slices.Equal(side, letters("wxyz")) || !sameLists(sides, [][]string{letters("wxy"), letters("wxyz"), nil}) {
		t.Errorf("%q, %q, %q", base, side, sides)
	}
	if !slices.Equal(spans, []api.Span{span(1, 2), span(0, 3), span(7, 7)}) {
		t.Errorf("%v", spans)
	}
}

// P6.2.

func TestDiffering(t *testing.T) {
	a, b, c := letters("a"), letters("b"), letters("c")
	abc, abd, ab := letters("abc"), letters("abd"), letters("ab")
	for _, x := range []struct {
		name  string
		base  []string
		parts [][]string
		want  [][]string
	}{
		{"the example: one content differs", a, [][]string{a, b, b}, [][]string{b}},
		{"the example: two do", a, [][]string{a, b, c}, [][]string{b, c}},
		{"no parts", a, nil, nil},
		{"no parts, of a base without texts", nil, nil, nil},
		{"one part, the base's", a, [][]string{a}, nil},
		{"all parts the base's", abc, [][]string{abc, letters("abc"), abc, letters("abc")}, nil},
		{"all parts without texts, as the base", nil, [][]string{nil, {}, nil}, nil},
		{"one part, that differs", a, [][]string{b}, [][]string{b}},
		{"the same ones beside one another", a, [][]string{b, b, c, c}, [][]string{b, c}},
		{"the same ones apart", a, [][]string{b, c, b, a, c, b}, [][]string{b, c}},
		{"the same ones around the base's", a, [][]string{b, a, b}, [][]string{b}},
		{"the turn is that of the first ones", a, [][]string{c, b, c, b, b}, [][]string{c, b}},
		{"the last text alone differs", abc, [][]string{abd, abc}, [][]string{abd}},
		{"the last text alone differs, between parts", a, [][]string{abc, abd, abc}, [][]string{abc, abd}},
		{"the first text alone differs", abc, [][]string{letters("xbc"), abc}, [][]string{letters("xbc")}},
		{"the turn of texts differs", abc, [][]string{letters("cba"), letters("bac")}, [][]string{letters("cba"), letters("bac")}},
		{"fewer texts than the base", abc, [][]string{ab, abc, a}, [][]string{ab, a}},
		{"more texts than the base", ab, [][]string{abc, ab, letters("abb")}, [][]string{abc, letters("abb")}},
		{"parts of other lengths", nil, [][]string{ab, abc, a, abc, ab}, [][]string{ab, abc, a}},
		{"a part without texts", a, [][]string{a, nil, {}}, [][]string{nil}},
		{"a part without texts, beside others", a, [][]string{b, {}, nil, b}, [][]string{b, nil}},
		{"a base without texts", nil, [][]string{a, nil, a}, [][]string{a}},
		{"an empty text isn't no text", nil, [][]string{{""}, {"", ""}, {""}}, [][]string{{""}, {"", ""}}},
		{"the same bytes, cut in another way", []string{"ab", "c"}, [][]string{{"a", "bc"}, {"abc"}, {"ab", "c"}, {"", "abc"}}, [][]string{{"a", "bc"}, {"abc"}, {"", "abc"}}},
		{"an open text isn't the line", []string{"a\n"}, [][]string{{"a"}, {"a\r\n"}, {"A\n"}, {"a\n"}}, [][]string{{"a"}, {"a\r\n"}, {"A\n"}}},
		{"texts that look alike", []string{"\u00e9"}, [][]string{{"e\u0301"}, {"\xe9"}, {"\u00e9"}, {"\ufffd"}}, [][]string{{"e\u0301"}, {"\xe9"}, {"\ufffd"}}},
		{"bytes that stand between texts elsewhere", []string{"a", "b"}, [][]string{{"a\x00b"}, {"a\nb"}, {"a b"}, {"a,b"}}, [][]string{{"a\x00b"}, {"a\nb"}, {"a b"}, {"a,b"}}},
	} {
		t.Run(x.name, func(t *testing.T) { checkDiffering(t, x.base, x.parts, x.want...) })
	}
}

// sameByWords tells whether a and b have as many texts, and the same ones, in turn.
func sameByWords(a, b []string) bool {
	if len(a) != len(b) {
		return false
	}
	for i := range a {
		if a[i] != b[i] {
			return false
		}
	}
	return true
}

// comesFirst tells whether none of the parts ahead of the one at the place at is the same.
func comesFirst(parts [][]string, at int) bool {
	for _, ahead := range parts[:at] {
		if sameByWords(ahead, parts[at]) {
			return false
		}
	}
	return true
}

func differingByWords(base []string, parts [][]string) [][]string {
	var l [][]string
	for at, part := range parts {
		if !sameByWords(part, base) && comesFirst(parts, at) {
			l = append(l, part)
		}
	}
	return l
}

func TestDifferingIsAsTheWordsSay(t *testing.T) {
	contents := slices.Collect(every.UpTo(letters("ab"), 2))
	for _, base := range contents {
		for parts := range every.UpTo(contents, 4) {
			checkDiffering(t, base, parts, differingByWords(base, parts)...)
		}
	}
}

func TestDifferingOfManyAndLongParts(t *testing.T) {
	base := numbered(2000)
	last, short := slices.Clone(base), base[:1999]
	last[1999] = "other"
	for k := range 16 {
		parts := slices.Repeat([][]string{base}, 16)
		parts[k] = last
		checkDiffering(t, base, parts, last)
		parts[15-k] = short
		checkDiffering(t, base, parts, differingByWords(base, parts)...)
	}
	var parts [][]string
	for _, text := range numbered(1000) {
		parts = append(parts, []string{text})
	}
	checkDiffering(t, nil, parts, parts...)
	checkDiffering(t, parts[7], slices.Concat(parts, parts), slices.Delete(slices.Clone(parts), 7, 8)...)
}

// P6.3.

// sorted is the lists, in a turn that hangs on what they have alone.
func sorted(lists [][]string) [][]string {
	return slices.SortedFunc(slices.Values(lists), slices.Compare[[]string])
}

func checkTurns(t *testing.T, base []string, parts [][]string) {
	t.Helper()
	want, kind := sorted(Differing(base, parts)), Kind(base, parts)
	for turned := range every.Turn(parts) {
		if got := sorted(Differing(base, turned)); !sameLists(got, want) {
			t.Fatalf("%q: %q, and in another turn %q", turned, got, want)
		}
		if got := Kind(base, turned); got != kind {
			t.Fatalf("%q: the kind %d, and in another turn %d", turned, got, kind)
		}
		checkDiffering(t, base, turned, differingByWords(base, turned)...)
	}
}

func TestPartsInEveryTurn(t *testing.T) {
	a, b, c := letters("a"), letters("b"), letters("abc")
	for parts := range every.UpTo([][]string{nil, a, b, c}, 4) {
		checkTurns(t, a, parts)
		checkTurns(t, nil, parts)
	}
	checkTurns(t, a, [][]string{a, b, c, nil, b, {"abc"}, a})
	checkTurns(t, a, [][]string{a, a, a, a, a, b, a})
	checkTurns(t, c, [][]string{b, b, b, b, b, b})
}

// P6.1, P6.2: a chunk's parts, and what differs of them.

func TestWhatAChunkHas(t *testing.T) {
	base, sides := letters("abc"), [][]string{letters("xbc"), letters("aby"), letters("xbc")}
	for _, x := range []struct {
		chunk api.Chunk
		want  [][]string
	}{
		{chunk(span(0, 1), span(0, 1), span(0, 1), span(0, 1)), [][]string{letters("x")}},
		{chunk(span(1, 2), span(1, 2), span(1, 2), span(1, 2)), nil},
		{chunk(span(2, 3), span(2, 3), span(2, 3), span(2, 2)), [][]string{letters("y"), nil}},
		{chunk(span(0, 3), span(0, 3), span(0, 3), span(0, 3)), [][]string{letters("xbc"), letters("aby")}},
	} {
		part, parts, e := Parts(x.chunk, base, sides)
		if e != api.OK {
			t.Fatalf("%v: error %d", x.chunk, e)
		}
		checkDiffering(t, part, parts, x.want...)
	}
}
