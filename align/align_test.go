package align

import (
	"math"
	"slices"
	"testing"

	"sennit/api"
	"sennit/every"
)

// stable is a stable chunk of as many spans as there are rows of two numbers, From and To: the base's first, then each side's.
func stable(rows ...[2]int) api.Chunk {
	c := other(rows...)
	c.Stable = true
	return c
}

// other is a chunk that isn't stable.
func other(rows ...[2]int) api.Chunk {
	c := api.Chunk{Base: api.Span{From: rows[0][0], To: rows[0][1]}}
	for _, r := range rows[1:] {
		c.Sides = append(c.Sides, api.Span{From: r[0], To: r[1]})
	}
	return c
}

func sameChunk(a, b api.Chunk) bool {
	return a.Stable == b.Stable && a.Base == b.Base && slices.Equal(a.Sides, b.Sides)
}

func sameChunks(a, b []api.Chunk) bool {
	return slices.EqualFunc(a, b, sameChunk)
}

func checkAlign(t *testing.T, m int, sizes []int, matches [][]int, want ...api.Chunk) {
	t.Helper()
	l, e := Align(m, sizes, matches)
	if e != api.OK || !sameChunks(l, want) {
		t.Fatalf("%d, %v, %v: error %d, %v, want %v", m, sizes, matches, e, l, want)
	}
}

func checkWrong(t *testing.T, name string, m int, sizes []int, matches [][]int) {
	t.Helper()
	if l, e := Align(m, sizes, matches); e != api.ErrArg || len(l) != 0 {
		t.Errorf("%s: error %d, %v", name, e, l)
	}
}

func rising(i int) int { return i }

func noPair(int) int { return -1 }

// isMatchByWords is the document's word of a match, asked of each two numbers.
func isMatchByWords(match []int, n int) bool {
	for i, j := range match {
		if j < -1 || j >= n {
			return false
		}
		for _, ahead := range match[:i] {
			if j != -1 && ahead >= j {
				return false
			}
		}
	}
	return n >= 0
}

// side is a match, and the size of the side.
type side struct {
	match []int
	size  int
}

func apart(sides []side) (sizes []int, matches [][]int) {
	for _, s := range sides {
		sizes = append(sizes, s.size)
		matches = append(matches, s.match)
	}
	return sizes, matches
}

// sidesOf are all sides up to a size, with all matches of m places to them.
func sidesOf(m, most int) []side {
	var all []side
	for n := range most + 1 {
		for match := range every.List(every.Place(n+1, func(i int) int { return i - 1 }), m) {
			if isMatchByWords(match, n) {
				all = append(all, side{slices.Clone(match), n})
			}
		}
	}
	return all
}

// eachSides calls see with all bases and sides of some small numbers: each base, as many sides, each up to the size.
func eachSides(see func(m int, sizes []int, matches [][]int)) {
	for _, c := range []struct{ m, sides, most int }{
		{0, 1, 4}, {1, 1, 4}, {2, 1, 4}, {3, 1, 4}, {4, 1, 5}, {5, 1, 5}, {0, 2, 3}, {1, 2, 3}, {2, 2, 3}, {3, 2, 4}, {4, 2, 4}, {0, 3, 2}, {1, 3, 2}, {2, 3, 3}, {3, 3, 3},
	} {
		for sides := range every.List(sidesOf(c.m, c.most), c.sides) {
			sizes, matches := apart(sides)
			see(c.m, sizes, matches)
		}
	}
}

func stableByWords(matches [][]int, place int) bool {
	for _, match := range matches {
		if match[place] == -1 {
			return false
		}
	}
	return true
}

// togetherByWords tells whether the place and the one behind it are stable, and stand together.
func togetherByWords(matches [][]int, place int) bool {
	if !stableByWords(matches, place) || !stableByWords(matches, place+1) {
		return false
	}
	for _, match := range matches {
		if match[place+1]-match[place] != 1 {
			return false
		}
	}
	return true
}

// runsByWords are the stable chunks: runs of stable places that stand together, that are as long as may be.
func runsByWords(m int, matches [][]int) []api.Chunk {
	var runs []api.Chunk
	for from := range m {
		if !stableByWords(matches, from) || from > 0 && togetherByWords(matches, from-1) {
			continue
		}
		last := from
		for last+1 < m && togetherByWords(matches, last) {
			last++
		}
		rows := [][2]int{{from, last + 1}}
		for _, match := range matches {
			rows = append(rows, [2]int{match[from], match[last] + 1})
		}
		runs = append(runs, stable(rows...))
	}
	return runs
}

// chunksByWords is P5.1, word by word: the stable chunks, and what lies ahead of the first, between each two, and behind the last one.
func chunksByWords(m int, sizes []int, matches [][]int) []api.Chunk {
	edges := make([][2]int, 1+len(sizes))
	ends := [][2]int{{m, m}}
	for _, n := range sizes {
		ends = append(ends, [2]int{n, n})
	}
	all := slices.Concat([]api.Chunk{stable(edges...)}, runsByWords(m, matches), []api.Chunk{stable(ends...)})
	var l []api.Chunk
	for at := 1; at < len(all); at++ {
		ahead, here := all[at-1], all[at]
		lies := ahead.Base.To < here.Base.From
		rows := [][2]int{{ahead.Base.To, here.Base.From}}
		for k := range sizes {
			rows = append(rows, [2]int{ahead.Sides[k].To, here.Sides[k].From})
			lies = lies || ahead.Sides[k].To < here.Sides[k].From
		}
		if lies {
			l = append(l, other(rows...))
		}
		if at < len(all)-1 {
			l = append(l, here)
		}
	}
	return l
}

// P5.1: ordinary bases and sides, and the chapter's edges.

func TestAlign(t *testing.T) {
	for _, c := range []struct {
		name    string
		m       int
		sizes   []int
		matches [][]int
		want    []api.Chunk
	}{
		{"the document's example", 3, []int{3}, [][]int{{-1, 0, 1}}, []api.Chunk{
			other([2]int{0, 1}, [2]int{0, 0}), stable([2]int{1, 3}, [2]int{0, 2}), other([2]int{3, 3}, [2]int{2, 3})}},
		{"no base, and a side without places", 0, []int{0}, [][]int{nil}, nil},
		{"no base, and sides without places", 0, []int{0, 0, 0}, [][]int{nil, {}, nil}, nil},
		{"no base, and a side with places", 0, []int{2}, [][]int{nil}, []api.Chunk{other([2]int{0, 0}, [2]int{0, 2})}},
		{"no base, and one side of two with places", 0, []int{0, 3}, [][]int{nil, nil}, []api.Chunk{other([2]int{0, 0}, [2]int{0, 0}, [2]int{0, 3})}},
		{"a side without places", 2, []int{0}, [][]int{{-1, -1}}, []api.Chunk{other([2]int{0, 2}, [2]int{0, 0})}},
		{"sides without places", 2, []int{0, 0}, [][]int{{-1, -1}, {-1, -1}}, []api.Chunk{other([2]int{0, 2}, [2]int{0, 0}, [2]int{0, 0})}},
		{"one side of two without places", 2, []int{2, 0}, [][]int{{0, 1}, {-1, -1}}, []api.Chunk{other([2]int{0, 2}, [2]int{0, 2}, [2]int{0, 0})}},
		{"no pair", 2, []int{3}, [][]int{{-1, -1}}, []api.Chunk{other([2]int{0, 2}, [2]int{0, 3})}},
		{"pairs, but no stable place", 2, []int{1, 2}, [][]int{{-1, 0}, {0, -1}}, []api.Chunk{other([2]int{0, 2}, [2]int{0, 1}, [2]int{0, 2})}},
		{"all places of three sides paired but by one", 3, []int{3, 3, 1}, [][]int{{0, 1, 2}, {0, 1, 2}, {-1, 0, -1}}, []api.Chunk{
			other([2]int{0, 1}, [2]int{0, 1}, [2]int{0, 1}, [2]int{0, 0}),
			stable([2]int{1, 2}, [2]int{1, 2}, [2]int{1, 2}, [2]int{0, 1}),
			other([2]int{2, 3}, [2]int{2, 3}, [2]int{2, 3}, [2]int{1, 1})}},
		{"one place, stable", 1, []int{1}, [][]int{{0}}, []api.Chunk{stable([2]int{0, 1}, [2]int{0, 1})}},
		{"all stable", 3, []int{3, 3}, [][]int{{0, 1, 2}, {0, 1, 2}}, []api.Chunk{stable([2]int{0, 3}, [2]int{0, 3}, [2]int{0, 3})}},
		{"all stable, and places of a side ahead", 2, []int{4}, [][]int{{2, 3}}, []api.Chunk{
			other([2]int{0, 0}, [2]int{0, 2}), stable([2]int{0, 2}, [2]int{2, 4})}},
		{"all stable, and places of a side behind", 2, []int{4, 2}, [][]int{{0, 1}, {0, 1}}, []api.Chunk{
			stable([2]int{0, 2}, [2]int{0, 2}, [2]int{0, 2}), other([2]int{2, 2}, [2]int{2, 4}, [2]int{2, 2})}},
		{"all stable, none of which stand together", 3, []int{5}, [][]int{{0, 2, 4}}, []api.Chunk{
			stable([2]int{0, 1}, [2]int{0, 1}), other([2]int{1, 1}, [2]int{1, 2}),
			stable([2]int{1, 2}, [2]int{2, 3}), other([2]int{2, 2}, [2]int{3, 4}),
			stable([2]int{2, 3}, [2]int{4, 5})}},
		{"together on the base and on the first side, not on the second", 2, []int{2, 3}, [][]int{{0, 1}, {0, 2}}, []api.Chunk{
			stable([2]int{0, 1}, [2]int{0, 1}, [2]int{0, 1}),
			other([2]int{1, 1}, [2]int{1, 1}, [2]int{1, 2}),
			stable([2]int{1, 2}, [2]int{1, 2}, [2]int{2, 3})}},
		{"together on the base and on the second side, not on the first", 2, []int{3, 2}, [][]int{{0, 2}, {0, 1}}, []api.Chunk{
			stable([2]int{0, 1}, [2]int{0, 1}, [2]int{0, 1}),
			other([2]int{1, 1}, [2]int{1, 2}, [2]int{1, 1}),
			stable([2]int{1, 2}, [2]int{2, 3}, [2]int{1, 2})}},
		{"together on no side, which have other places between", 2, []int{4, 3}, [][]int{{0, 3}, {0, 2}}, []api.Chunk{
			stable([2]int{0, 1}, [2]int{0, 1}, [2]int{0, 1}),
			other([2]int{1, 1}, [2]int{1, 3}, [2]int{1, 2}),
			stable([2]int{1, 2}, [2]int{3, 4}, [2]int{2, 3})}},
		{"together on the side, not on the base", 3, []int{2}, [][]int{{0, -1, 1}}, []api.Chunk{
			stable([2]int{0, 1}, [2]int{0, 1}), other([2]int{1, 2}, [2]int{1, 1}), stable([2]int{2, 3}, [2]int{1, 2})}},
		{"places of all between", 3, []int{3, 3}, [][]int{{0, -1, 2}, {0, -1, 2}}, []api.Chunk{
			stable([2]int{0, 1}, [2]int{0, 1}, [2]int{0, 1}),
			other([2]int{1, 2}, [2]int{1, 2}, [2]int{1, 2}),
			stable([2]int{2, 3}, [2]int{2, 3}, [2]int{2, 3})}},
		{"a place between that one side alone pairs", 3, []int{3, 2}, [][]int{{0, 1, 2}, {0, -1, 1}}, []api.Chunk{
			stable([2]int{0, 1}, [2]int{0, 1}, [2]int{0, 1}),
			other([2]int{1, 2}, [2]int{1, 2}, [2]int{1, 1}),
			stable([2]int{2, 3}, [2]int{2, 3}, [2]int{1, 2})}},
		{"long runs, with places of one side, or of the base, between", 7, []int{8, 6}, [][]int{{0, 1, 2, 5, -1, 6, 7}, {0, 1, 2, 3, -1, 4, 5}}, []api.Chunk{
			stable([2]int{0, 3}, [2]int{0, 3}, [2]int{0, 3}),
			other([2]int{3, 3}, [2]int{3, 5}, [2]int{3, 3}),
			stable([2]int{3, 4}, [2]int{5, 6}, [2]int{3, 4}),
			other([2]int{4, 5}, [2]int{6, 6}, [2]int{4, 4}),
			stable([2]int{5, 7}, [2]int{6, 8}, [2]int{4, 6})}},
		{"places of one side alone ahead, of the other one alone behind", 1, []int{2, 2}, [][]int{{1}, {0}}, []api.Chunk{
			other([2]int{0, 0}, [2]int{0, 1}, [2]int{0, 0}),
			stable([2]int{0, 1}, [2]int{1, 2}, [2]int{0, 1}),
			other([2]int{1, 1}, [2]int{2, 2}, [2]int{1, 2})}},
		{"places of the base alone ahead, and behind", 3, []int{1}, [][]int{{-1, 0, -1}}, []api.Chunk{
			other([2]int{0, 1}, [2]int{0, 0}), stable([2]int{1, 2}, [2]int{0, 1}), other([2]int{2, 3}, [2]int{1, 1})}},
	} {
		t.Run(c.name, func(t *testing.T) { checkAlign(t, c.m, c.sizes, c.matches, c.want...) })
	}
}

func TestAlignIsAsTheWordsSay(t *testing.T) {
	eachSides(func(m int, sizes []int, matches [][]int) {
		checkAlign(t, m, sizes, matches, chunksByWords(m, sizes, matches)...)
	})
}

func TestAsManySidesAsMayBe(t *testing.T) {
	const most = 16
	sizes := every.Place(most, func(int) int { return 3 })
	matches := slices.Repeat([][]int{{0, 1, 2}}, most)
	row := [2]int{0, 3}
	checkAlign(t, 3, sizes, matches, stable(slices.Repeat([][2]int{row}, most+1)...))
	matches[most-1] = []int{0, 2, -1}
	checkAlign(t, 3, sizes, matches, chunksByWords(3, sizes, matches)...)
	if l, _ := Align(3, sizes, matches); len(l) != 4 {
		t.Errorf("the last side cuts into %d chunks", len(l))
	}
	checkAlign(t, 0, make([]int, most), make([][]int, most))
	for n := range most {
		checkAlign(t, 3, sizes[n:], matches[n:], chunksByWords(3, sizes[n:], matches[n:])...)
	}
}

// The chapter sets no limit to how long a base, or a side, is.
func TestLongBasesAndSides(t *testing.T) {
	const m = 100000
	full, none := every.Place(m, rising), every.Place(m, noPair)
	checkAlign(t, m, []int{m}, [][]int{full}, stable([2]int{0, m}, [2]int{0, m}))
	checkAlign(t, m, []int{m, 5}, [][]int{full, none}, other([2]int{0, m}, [2]int{0, m}, [2]int{0, 5}))
	everyOther := every.Place(m, func(i int) int { return i | -(i & 1) })
	spread := every.Place(m, func(i int) int { return 2 * i })
	sizes, matches := []int{m, m, 2*m + 1}, [][]int{full, everyOther, spread}
	checkAlign(t, m, sizes, matches, chunksByWords(m, sizes, matches)...)
	if l, _ := Align(m, sizes, matches); len(l) != m {
		t.Errorf("%d chunks", len(l))
	}
}

func TestGreatSizes(t *testing.T) {
	const most = math.MaxInt
	checkAlign(t, 0, []int{most}, [][]int{nil}, other([2]int{0, 0}, [2]int{0, most}))
	checkAlign(t, 1, []int{most}, [][]int{{-1}}, other([2]int{0, 1}, [2]int{0, most}))
	checkAlign(t, 1, []int{most}, [][]int{{most - 1}}, other([2]int{0, 0}, [2]int{0, most - 1}), stable([2]int{0, 1}, [2]int{most - 1, most}))
	checkAlign(t, 2, []int{most, most}, [][]int{{most - 2, most - 1}, {0, most - 1}},
		other([2]int{0, 0}, [2]int{0, most - 2}, [2]int{0, 0}),
		stable([2]int{0, 1}, [2]int{most - 2, most - 1}, [2]int{0, 1}),
		other([2]int{1, 1}, [2]int{most - 1, most - 1}, [2]int{1, most - 1}),
		stable([2]int{1, 2}, [2]int{most - 1, most}, [2]int{most - 1, most}))
}

// P5.1: wrong ones.

func TestNoMatchOrTooMany(t *testing.T) {
	checkWrong(t, "no match", 0, nil, nil)
	checkWrong(t, "no match, empty lists", 0, []int{}, [][]int{})
	checkWrong(t, "no match, and a base", 2, nil, nil)
	for _, many := range []int{17, 18, 32, 1000} {
		checkWrong(t, "too many, without places", 0, make([]int, many), make([][]int, many))
		checkWrong(t, "too many, with places", 1, slices.Repeat([]int{1}, many), slices.Repeat([][]int{{0}}, many))
	}
}

func TestNotAsManyMatchesAsSizes(t *testing.T) {
	for matches := range 17 {
		for sizes := range 20 {
			if matches != sizes {
				checkWrong(t, "without places", 0, make([]int, sizes), make([][]int, matches))
				checkWrong(t, "with places", 1, slices.Repeat([]int{1}, sizes), slices.Repeat([][]int{{0}}, matches))
			}
		}
	}
}

func TestWhatIsNoMatch(t *testing.T) {
	for _, c := range []struct {
		name  string
		m     int
		size  int
		match []int
	}{
		{"no numbers", 1, 1, nil},
		{"too few numbers", 3, 3, []int{0, 1}},
		{"too many numbers", 1, 3, []int{0, 1}},
		{"numbers without a base", 0, 1, []int{0}},
		{"numbers without pairs, without a base", 0, 0, []int{-1}},
		{"m below 0", -1, 0, nil},
		{"m below 0, and as many numbers above", -1, 1, []int{0}},
		{"m far below 0", math.MinInt, 0, nil},
		{"m far above", math.MaxInt, 1, []int{0}},
		{"size below 0, without a base", 0, -1, nil},
		{"size below 0, without a pair", 2, -1, []int{-1, -1}},
		{"size far below 0", 1, math.MinInt, []int{-1}},
		{"below -1", 1, 2, []int{-2}},
		{"below -1, ahead of pairs", 3, 2, []int{-2, 0, 1}},
		{"below -1, behind pairs", 3, 2, []int{0, 1, -2}},
		{"far below -1", 1, 2, []int{math.MinInt}},
		{"0 of a side without places", 1, 0, []int{0}},
		{"not below the size", 1, 2, []int{2}},
		{"not below the size, behind pairs", 3, 2, []int{0, 1, 2}},
		{"not below the size, ahead of what isn't paired", 3, 2, []int{0, 2, -1}},
		{"far above the size", 1, 2, []int{math.MaxInt}},
		{"falling", 2, 2, []int{1, 0}},
		{"falling to what is below one farther ahead", 3, 4, []int{1, 3, 2}},
		{"falling behind what isn't paired", 4, 4, []int{2, -1, -1, 1}},
		{"the same number twice", 2, 2, []int{0, 0}},
		{"the same number twice, around what isn't paired", 3, 3, []int{1, -1, 1}},
	} {
		checkWrong(t, c.name, c.m, []int{c.size}, [][]int{c.match})
		if c.m < 0 || c.m > 100 {
			continue
		}
		right := every.Place(c.m, rising)
		checkWrong(t, c.name+", the first of two", c.m, []int{c.size, c.m}, [][]int{c.match, right})
		checkWrong(t, c.name+", the second of two", c.m, []int{c.m, c.size}, [][]int{right, c.match})
		checkWrong(t, c.name+", the last of 16", c.m, append(slices.Repeat([]int{c.m}, 15), c.size), append(slices.Repeat([][]int{right}, 15), c.match))
	}
	checkWrong(t, "each a match to the other's size alone", 1, []int{1, 3}, [][]int{{2}, {0}})
}

func TestAllListsOfNumbers(t *testing.T) {
	for m := range 4 {
		for size := -1; size < 4; size++ {
			for count := range 5 {
				for match := range every.List([]int{-2, -1, 0, 1, 2, 3, 4}, count) {
					sizes, matches := []int{size}, [][]int{match}
					if count == m && isMatchByWords(match, size) {
						checkAlign(t, m, sizes, matches, chunksByWords(m, sizes, matches)...)
					} else {
						checkWrong(t, "no match", m, sizes, matches)
					}
				}
			}
		}
	}
}

// What is handed in stays, and no two chunks share their Sides.

func TestWhatIsHandedInStaysAndNothingIsShared(t *testing.T) {
	wholeSizes, wholeFirst, wholeSecond := []int{2, 3, 77}, []int{0, 1, 77}, []int{0, 2, 77}
	sizes, matches := wholeSizes[:2], [][]int{wholeFirst[:2], wholeSecond[:2], nil}[:2]
	l, _ := Align(2, sizes, matches)
	want := chunksByWords(2, sizes, matches)
	for at := range l {
		for k := range l[at].Sides {
			l[at].Sides[k] = api.Span{From: -5, To: -5}
		}
		l[at].Sides = append(l[at].Sides, api.Span{From: -6, To: -6})
		if at+1 < len(l) && !sameChunk(l[at+1], want[at+1]) {
			t.Errorf("the chunk %d has become %v", at+1, l[at+1])
		}
	}
	checkAlign(t, 2, sizes, matches, want...)
	if !slices.Equal(wholeSizes, []int{2, 3, 77}) || !slices.Equal(wholeFirst, []int{0, 1, 77}) || !slices.Equal(wholeSecond, []int{0, 2, 77}) || matches[:3][2] != nil {
		t.Errorf("%v, %v, %v", wholeSizes, wholeFirst, wholeSecond)
	}
}

// P5.2.

func TestSpansAreAllOfTheBaseAndOfEachSideAndTakeTurns(t *testing.T) {
	eachSides(func(m int, sizes []int, matches [][]int) {
		l, e := Align(m, sizes, matches)
		base, ends := 0, make([]int, len(sizes))
		for at, c := range l {
			if c.Base.From != base || c.Base.To < base || len(c.Sides) != len(sizes) || at > 0 && c.Stable == l[at-1].Stable {
				t.Fatalf("%d, %v, %v: %v", m, sizes, matches, l)
			}
			base = c.Base.To
			for k, s := range c.Sides {
				if s.From != ends[k] || s.To < ends[k] {
					t.Fatalf("%d, %v, %v: %v", m, sizes, matches, l)
				}
				ends[k] = s.To
			}
		}
		if e != api.OK || base != m || !slices.Equal(ends, sizes) {
			t.Fatalf("%d, %v, %v: error %d, %v", m, sizes, matches, e, l)
		}
	})
}

// mayStand tells whether c may stand in a list that is as P5.2 says, but for what its neighbours are.
func mayStand(c api.Chunk, matches [][]int) bool {
	some := c.Base.From < c.Base.To
	for place := c.Base.From; place < c.Base.To; place++ {
		if !c.Stable && stableByWords(matches, place) {
			return false
		}
	}
	for k, s := range c.Sides {
		some = some || s.From < s.To
		if c.Stable && s.To-s.From != c.Base.To-c.Base.From {
			return false
		}
		for place := c.Base.From; c.Stable && place < c.Base.To; place++ {
			if matches[k][place] != s.From+place-c.Base.From {
				return false
			}
		}
	}
	return some
}

// eachNext calls see with each chunk that goes on where the lists are cut at the places at, ends no farther than the places ends, and may stand there.
func eachNext(steady bool, at, ends []int, matches [][]int, see func(c api.Chunk, to []int)) {
	to := slices.Clone(at)
	var fill func(k int)
	fill = func(k int) {
		if k < len(at) {
			for to[k] = at[k]; to[k] <= ends[k]; to[k]++ {
				fill(k + 1)
			}
			return
		}
		c := api.Chunk{Stable: steady, Base: api.Span{From: at[0], To: to[0]}}
		for s := 1; s < len(at); s++ {
			c.Sides = append(c.Sides, api.Span{From: at[s], To: to[s]})
		}
		if mayStand(c, matches) {
			see(c, slices.Clone(to))
		}
	}
	fill(0)
}

// allLists are all lists of chunks, that take turns, from the places at on, that are as P5.2 says.
func allLists(steady bool, at, ends []int, matches [][]int) [][]api.Chunk {
	if slices.Equal(at, ends) {
		return [][]api.Chunk{nil}
	}
	var all [][]api.Chunk
	eachNext(steady, at, ends, matches, func(c api.Chunk, to []int) {
		for _, rest := range allLists(!steady, to, ends, matches) {
			all = append(all, append([]api.Chunk{c}, rest...))
		}
	})
	return all
}

func TestNoOtherListOfChunksIsSo(t *testing.T) {
	for _, c := range []struct{ m, sides, most int }{{0, 1, 3}, {1, 1, 3}, {2, 1, 4}, {3, 1, 4}, {4, 1, 4}, {0, 2, 2}, {1, 2, 2}, {2, 2, 3}, {3, 2, 3}, {2, 3, 2}} {
		for sides := range every.List(sidesOf(c.m, c.most), c.sides) {
			sizes, matches := apart(sides)
			ends := append([]int{c.m}, sizes...)
			start := make([]int, len(ends))
			all := allLists(true, start, ends, matches)
			if !slices.Equal(start, ends) {
				all = append(all, allLists(false, start, ends, matches)...)
			}
			if len(all) != 1 {
				t.Fatalf("%d, %v, %v: %d lists of chunks are so: %v", c.m, sizes, matches, len(all), all)
			}
			checkAlign(t, c.m, sizes, matches, all[0]...)
		}
	}
}
