package edit

import (
	"math"
	"slices"
	"testing"

	"sennit/api"
	"sennit/every"
)

// changes are as many changes as there are rows of four numbers: Old's From and To, New's From and To.
func changes(rows ...[4]int) []api.Change {
	var l []api.Change
	for _, r := range rows {
		l = append(l, api.Change{Old: api.Span{From: r[0], To: r[1]}, New: api.Span{From: r[2], To: r[3]}})
	}
	return l
}

func rising(i int) int { return i }

func noPair(int) int { return -1 }

// isMatchByWords is the document's word of a match, asked of each two numbers.
func isMatchByWords(match []int, n int) bool {
	for i, j := range match {
		if j < -1 || j >= n {
			return false
		}
		for _, ahead := range match[:i] {
			if j != -1 && ahead >= j {
				return false
			}
		}
	}
	return true
}

// matchesOf are all matches of m places to n.
func matchesOf(m, n int) [][]int {
	var all [][]int
	for match := range every.List(every.Place(n+1, func(i int) int { return i - 1 }), m) {
		if isMatchByWords(match, n) {
			all = append(all, slices.Clone(match))
		}
	}
	return all
}

// paired are the places of both lists that a match pairs.
func paired(match []int) (olds, news []int) {
	for i, j := range match {
		if j >= 0 {
			olds, news = append(olds, i), append(news, j)
		}
	}
	return olds, news
}

// changesByWords is P4.1, word by word: what lies ahead of the first pair, between each two pairs, and behind the last one.
func changesByWords(match []int, n int) []api.Change {
	olds, news := paired(match)
	olds = slices.Concat([]int{-1}, olds, []int{len(match)})
	news = slices.Concat([]int{-1}, news, []int{n})
	var l []api.Change
	for k := 1; k < len(olds); k++ {
		old := api.Span{From: olds[k-1] + 1, To: olds[k]}
		now := api.Span{From: news[k-1] + 1, To: news[k]}
		if old.From < old.To || now.From < now.To {
			l = append(l, api.Change{Old: old, New: now})
		}
	}
	return l
}

func checkChanges(t *testing.T, match []int, n int, want []api.Change) {
	t.Helper()
	l, e := Changes(match, n)
	if e != api.OK || !slices.Equal(l, want) {
		t.Fatalf("%v, to %d: error %d, %v, want %v", match, n, e, l, want)
	}
}

func checkMatch(t *testing.T, l []api.Change, m, n int, want []int) {
	t.Helper()
	match, e := Match(l, m, n)
	if e != api.OK || !slices.Equal(match, want) {
		t.Fatalf("%v, of %d, to %d: error %d, %v, want %v", l, m, n, e, match, want)
	}
}

func checkNoChanges(t *testing.T, name string, match []int, n int, want api.Errno) {
	t.Helper()
	if l, e := Changes(match, n); e != want || len(l) != 0 {
		t.Errorf("%s: error %d, want %d, %v", name, e, want, l)
	}
}

func checkNoMatch(t *testing.T, name string, l []api.Change, m, n int, want api.Errno) {
	t.Helper()
	if match, e := Match(l, m, n); e != want || len(match) != 0 {
		t.Errorf("%s: error %d, want %d, %v", name, e, want, match)
	}
}

// A match, and the changes that it has.
var ordinary = []struct {
	name  string
	match []int
	n     int
	l     []api.Change
}{
	{"the document's example", []int{-1, 0, 1}, 3, changes([4]int{0, 1, 0, 0}, [4]int{3, 3, 2, 3})},
	{"no places", nil, 0, nil},
	{"no places, an empty list", []int{}, 0, nil},
	{"no old places", nil, 2, changes([4]int{0, 0, 0, 2})},
	{"no new places", []int{-1, -1}, 0, changes([4]int{0, 2, 0, 0})},
	{"no pair: all", []int{-1, -1, -1}, 2, changes([4]int{0, 3, 0, 2})},
	{"all paired", []int{0, 1, 2}, 3, nil},
	{"one place, paired", []int{0}, 1, nil},
	{"new places ahead", []int{1, 2}, 3, changes([4]int{0, 0, 0, 1})},
	{"new places between", []int{0, 3}, 4, changes([4]int{1, 1, 1, 3})},
	{"new places behind", []int{0, 1}, 4, changes([4]int{2, 2, 2, 4})},
	{"old places ahead", []int{-1, -1, 0}, 1, changes([4]int{0, 2, 0, 0})},
	{"old places between", []int{0, -1, 1}, 2, changes([4]int{1, 2, 1, 1})},
	{"old places behind", []int{0, -1, -1}, 1, changes([4]int{1, 3, 1, 1})},
	{"places of both between", []int{0, -1, -1, 4}, 5, changes([4]int{1, 3, 1, 4})},
	{"places of both ahead, and behind", []int{-1, 2, -1}, 4, changes([4]int{0, 1, 0, 2}, [4]int{2, 3, 3, 4})},
	{"one pair between each two changes", []int{-1, 1, -1, 3, -1}, 5, changes([4]int{0, 1, 0, 1}, [4]int{2, 3, 2, 3}, [4]int{4, 5, 4, 5})},
	{"several pairs between changes", []int{-1, 0, 1, -1, 2, 4}, 6, changes([4]int{0, 1, 0, 0}, [4]int{3, 4, 2, 2}, [4]int{5, 5, 3, 4}, [4]int{6, 6, 5, 6})},
	{"the last place of all with the first one", []int{-1, -1, 0}, 3, changes([4]int{0, 2, 0, 0}, [4]int{3, 3, 1, 3})},
	{"the first place with the last one", []int{2, -1, -1}, 3, changes([4]int{0, 0, 0, 2}, [4]int{1, 3, 3, 3})},
}

// P4.1.

func TestChanges(t *testing.T) {
	for _, c := range ordinary {
		t.Run(c.name, func(t *testing.T) { checkChanges(t, c.match, c.n, c.l) })
	}
}

func TestChangesOfAsManyAsMayBe(t *testing.T) {
	const most = 2000
	full := every.Place(most, rising)
	checkChanges(t, full, most, nil)
	checkChanges(t, full[:most-1], most, changes([4]int{most - 1, most - 1, most - 1, most}))
	checkChanges(t, every.Place(most, noPair), most, changes([4]int{0, most, 0, most}))
	checkChanges(t, every.Place(most, noPair), 0, changes([4]int{0, most, 0, 0}))
	checkChanges(t, nil, most, changes([4]int{0, 0, 0, most}))
	everyOther := every.Place(most, func(i int) int { return i | -(i & 1) })
	checkChanges(t, everyOther, most, changesByWords(everyOther, most))
	if l, _ := Changes(everyOther, most); len(l) != most/2 {
		t.Errorf("%d changes", len(l))
	}
}

func TestChangesOfTooMany(t *testing.T) {
	const over = 2001
	for _, c := range []struct {
		name  string
		match []int
		n     int
	}{
		{"numbers", every.Place(over, noPair), 0},
		{"numbers, all paired", every.Place(over, rising), over - 1},
		{"new places", nil, over},
		{"new places, as many as may be paired", every.Place(over-1, rising), over},
		{"both", every.Place(over, rising), over},
		{"very many new places", []int{0}, math.MaxInt},
		{"numbers, and n is below 0", every.Place(over, noPair), -1},
		{"numbers that are no match", make([]int, over), 5},
		{"new places, and no match", []int{1, 0}, over},
		{"new places, and a number below -1", []int{-2}, over},
	} {
		checkNoChanges(t, c.name, c.match, c.n, api.ErrLong)
	}
}

func TestChangesOfWhatIsNoMatch(t *testing.T) {
	for _, c := range []struct {
		name  string
		match []int
		n     int
	}{
		{"n below 0, without places", nil, -1},
		{"n below 0, without a pair", []int{-1, -1}, -1},
		{"n far below 0", []int{-1}, math.MinInt},
		{"below -1", []int{-2}, 2},
		{"below -1, ahead of pairs", []int{-2, 0, 1}, 2},
		{"below -1, behind pairs", []int{0, 1, -2}, 2},
		{"below -1, without new places", []int{-2}, 0},
		{"far below -1", []int{math.MinInt}, 2},
		{"not below n", []int{2}, 2},
		{"not below n, behind pairs", []int{0, 1, 2}, 2},
		{"not below n, ahead of what isn't paired", []int{0, 2, -1}, 2},
		{"0, not below n", []int{0}, 0},
		{"above n", []int{3}, 2},
		{"far above n", []int{math.MaxInt}, 2000},
		{"falling", []int{1, 0}, 2},
		{"falling to what is below one farther ahead", []int{1, 3, 2}, 4},
		{"falling behind what isn't paired", []int{2, -1, -1, 1}, 3},
		{"the same number twice", []int{0, 0}, 2},
		{"the same number twice, later", []int{0, 1, 1}, 3},
		{"the same number twice, around what isn't paired", []int{1, -1, 1}, 3},
	} {
		checkNoChanges(t, c.name, c.match, c.n, api.ErrArg)
	}
}

func TestChangesOfAllListsOfNumbers(t *testing.T) {
	for m := range 5 {
		for n := range 5 {
			for match := range every.List([]int{-2, -1, 0, 1, 2, 3, 4}, m) {
				if isMatchByWords(match, n) {
					checkChanges(t, match, n, changesByWords(match, n))
				} else {
					checkNoChanges(t, "no match", match, n, api.ErrArg)
				}
			}
		}
	}
}

func TestAMatchStaysAsItIs(t *testing.T) {
	whole := []int{-1, 0, 2, 77}
	match := whole[:3]
	l, _ := Changes(match, 4)
	l = append(l, changes([4]int{5, 5, 5, 5})...)
	l[0] = api.Change{}
	if !slices.Equal(whole, []int{-1, 0, 2, 77}) {
		t.Errorf("%v", whole)
	}
	checkChanges(t, match, 4, changes([4]int{0, 1, 0, 0}, [4]int{2, 2, 1, 2}, [4]int{3, 3, 3, 4}))
}

// P4.2: Match.

func TestMatch(t *testing.T) {
	for _, c := range ordinary {
		t.Run(c.name, func(t *testing.T) { checkMatch(t, c.l, len(c.match), c.n, c.match) })
	}
	checkMatch(t, []api.Change{}, 3, 3, []int{0, 1, 2})
}

func TestMatchOfAsManyAsMayBe(t *testing.T) {
	const most = 2000
	full := every.Place(most, rising)
	checkMatch(t, nil, most, most, full)
	checkMatch(t, changes([4]int{0, most, 0, most}), most, most, every.Place(most, noPair))
	checkMatch(t, changes([4]int{0, most, 0, 0}), most, 0, every.Place(most, noPair))
	checkMatch(t, changes([4]int{0, 0, 0, most}), 0, most, nil)
	checkMatch(t, changes([4]int{most - 1, most - 1, most - 1, most}), most-1, most, full[:most-1])
	everyOther := every.Place(most, func(i int) int { return i | -(i & 1) })
	checkMatch(t, changesByWords(everyOther, most), most, most, everyOther)
}

func TestMatchOfTooMany(t *testing.T) {
	const over = 2001
	for _, c := range []struct {
		name string
		l    []api.Change
		m, n int
	}{
		{"old places", changes([4]int{0, over, 0, 0}), over, 0},
		{"new places", changes([4]int{0, 0, 0, over}), 0, over},
		{"both, all paired", nil, over, over},
		{"very many old places", nil, math.MaxInt, 0},
		{"very many new places", nil, 0, math.MaxInt},
		{"old places, and n below 0", nil, over, -1},
		{"new places, and m below 0", nil, -1, over},
		{"old places, and changes that no match has", changes([4]int{0, 0, 0, 0}), over, over},
		{"new places, and changes that no match has", changes([4]int{1, 0, 0, 0}), 3, over},
	} {
		checkNoMatch(t, c.name, c.l, c.m, c.n, api.ErrLong)
	}
}

func TestMatchOfPlacesBelowNought(t *testing.T) {
	for _, c := range []struct{ m, n int }{{-1, 0}, {0, -1}, {-1, -1}, {-1, 3}, {3, -1}, {-2, -2}, {math.MinInt, 0}, {0, math.MinInt}, {math.MinInt, math.MinInt}, {-1, 2000}, {2000, -1}} {
		checkNoMatch(t, "no changes", nil, c.m, c.n, api.ErrArg)
		checkNoMatch(t, "all changed", changes([4]int{0, c.m, 0, c.n}), c.m, c.n, api.ErrArg)
	}
}

func TestMatchOfChangesThatNoMatchHas(t *testing.T) {
	for _, c := range []struct {
		name string
		l    []api.Change
		m, n int
	}{
		{"an empty one", changes([4]int{0, 0, 0, 0}), 1, 1},
		{"an empty one, of no places", changes([4]int{0, 0, 0, 0}), 0, 0},
		{"an empty one within", changes([4]int{1, 1, 1, 1}), 2, 2},
		{"an empty one behind all", changes([4]int{2, 2, 2, 2}), 2, 2},
		{"an empty one behind others", changes([4]int{0, 1, 0, 1}, [4]int{2, 2, 2, 2}), 3, 3},
		{"an empty one ahead of others", changes([4]int{0, 0, 0, 0}, [4]int{1, 2, 1, 2}), 3, 3},
		{"an empty one between two others", changes([4]int{0, 1, 0, 1}, [4]int{2, 2, 2, 2}, [4]int{3, 4, 3, 4}), 4, 4},
		{"in a wrong turn", changes([4]int{2, 3, 2, 3}, [4]int{0, 1, 0, 1}), 4, 4},
		{"the same one twice", changes([4]int{1, 2, 1, 2}, [4]int{1, 2, 1, 2}), 3, 3},
		{"in a wrong turn in the old list alone", changes([4]int{2, 3, 1, 1}, [4]int{0, 1, 2, 3}), 4, 3},
		{"in a wrong turn in the new list alone", changes([4]int{0, 1, 2, 3}, [4]int{2, 3, 0, 1}), 4, 4},
		{"that touch in both lists", changes([4]int{0, 1, 0, 1}, [4]int{1, 2, 1, 2}), 2, 2},
		{"that touch in both lists, with pairs around", changes([4]int{1, 2, 1, 2}, [4]int{2, 3, 2, 3}), 4, 4},
		{"that touch, of which one is old and one new", changes([4]int{1, 2, 1, 1}, [4]int{2, 2, 1, 2}), 3, 3},
		{"that touch in the old list alone", changes([4]int{0, 1, 0, 1}, [4]int{1, 2, 2, 2}), 2, 2},
		{"that touch in the new list alone", changes([4]int{0, 1, 0, 1}, [4]int{2, 2, 1, 2}), 2, 2},
		{"that overlap in both lists", changes([4]int{0, 2, 0, 2}, [4]int{1, 3, 1, 3}), 4, 4},
		{"that overlap in the old list", changes([4]int{0, 2, 0, 1}, [4]int{1, 3, 2, 3}), 4, 4},
		{"that overlap in the new list", changes([4]int{0, 1, 0, 2}, [4]int{2, 3, 1, 3}), 4, 4},
		{"one within another one", changes([4]int{0, 4, 0, 4}, [4]int{1, 2, 1, 2}), 4, 4},
		{"past m", changes([4]int{0, 2, 0, 0}), 1, 0},
		{"past n", changes([4]int{0, 0, 0, 2}), 0, 1},
		{"past m, begun there", changes([4]int{1, 2, 1, 1}), 1, 1},
		{"past m, and n", changes([4]int{1, 2, 1, 2}), 1, 1},
		{"behind m", changes([4]int{2, 3, 1, 2}), 1, 3},
		{"past m as far as past n", changes([4]int{3, 4, 3, 4}), 2, 2},
		{"empty in the old list, behind m", changes([4]int{2, 2, 2, 3}), 1, 3},
		{"ahead of 0", changes([4]int{-1, 0, 0, 0}), 1, 1},
		{"ahead of 0 in both lists", changes([4]int{-1, 1, -1, 1}), 2, 2},
		{"from ahead of 0 on", changes([4]int{0, 1, -1, 1}), 1, 1},
		{"that end ahead of where they begin", changes([4]int{1, 0, 0, 0}), 1, 1},
		{"that end ahead of where they begin, in the new list", changes([4]int{0, 0, 1, 0}), 1, 1},
		{"that end ahead of where they begin, in both lists", changes([4]int{2, 1, 2, 1}), 3, 3},
		{"as many less old places as new ones", changes([4]int{1, 0, 1, 2}), 2, 4},
		{"more old places ahead", changes([4]int{1, 2, 0, 1}), 2, 1},
		{"more new places ahead", changes([4]int{0, 1, 1, 2}), 1, 2},
		{"more old places ahead, as many behind", changes([4]int{2, 3, 1, 2}), 3, 2},
		{"more old places between", changes([4]int{0, 1, 0, 1}, [4]int{3, 4, 2, 3}), 4, 3},
		{"more new places between", changes([4]int{0, 1, 0, 1}, [4]int{2, 3, 3, 4}), 3, 4},
		{"more old places behind", changes([4]int{0, 1, 0, 1}), 3, 2},
		{"more new places behind", changes([4]int{0, 1, 0, 1}), 2, 3},
		{"an old place behind, no new one", changes([4]int{0, 1, 0, 0}), 2, 0},
		{"more ahead, as many less behind", changes([4]int{2, 3, 1, 2}), 4, 4},
		{"no changes, more old places", nil, 2, 1},
		{"no changes, more new places", nil, 1, 2},
		{"no changes, no old places", nil, 0, 1},
		{"no changes, no new places", nil, 1, 0},
	} {
		checkNoMatch(t, c.name, c.l, c.m, c.n, api.ErrArg)
		checkNoMatch(t, c.name+", swapped", Swap(c.l), c.n, c.m, api.ErrArg)
	}
}

// What is reckoned with these would be above or below what an int holds.
func TestMatchOfChangesWithGreatNumbers(t *testing.T) {
	ends := []int{math.MinInt, math.MinInt + 1, -1, 0, 1, 2, math.MaxInt - 1, math.MaxInt}
	for r := range every.List(ends, 4) {
		l := changes([4]int(r))
		match, e := Match(l, 2, 2)
		if want, ok := matchByWords(l, 2, 2); !sameMatch(match, e, want, ok) {
			t.Fatalf("%v: error %d, %v, want %v, %v", l, e, match, ok, want)
		}
	}
	for _, to := range []int{3, math.MaxInt} {
		checkNoMatch(t, "behind another one", changes([4]int{0, 1, 0, 1}, [4]int{math.MinInt, to, math.MinInt, to}), 3, 3, api.ErrArg)
	}
	checkNoMatch(t, "around another one", changes([4]int{0, math.MaxInt, 0, math.MaxInt}, [4]int{1, 2, 1, 2}), 3, 3, api.ErrArg)
	checkNoMatch(t, "ahead of another one", changes([4]int{math.MaxInt, math.MinInt, math.MaxInt, math.MinInt}, [4]int{1, 2, 1, 2}), 3, 3, api.ErrArg)
}

// matchByWords is the match of m places to n whose changes are l, searched among all.
func matchByWords(l []api.Change, m, n int) ([]int, bool) {
	for _, match := range matchesOf(m, n) {
		if slices.Equal(changesByWords(match, n), l) {
			return match, true
		}
	}
	return nil, false
}

func sameMatch(match []int, e api.Errno, want []int, ok bool) bool {
	if !ok {
		return e == api.ErrArg && len(match) == 0
	}
	return e == api.OK && slices.Equal(match, want)
}

// spans are all spans with ends from -1 up to most, and those whose ends are exchanged.
func spans(most int) []api.Span {
	var l []api.Span
	for from := -1; from <= most; from++ {
		for to := -1; to <= most; to++ {
			l = append(l, api.Span{From: from, To: to})
		}
	}
	return l
}

// changesOf are all changes of two of the spans.
func changesOf(l []api.Span) []api.Change {
	var all []api.Change
	for _, old := range l {
		for _, now := range l {
			all = append(all, api.Change{Old: old, New: now})
		}
	}
	return all
}

func TestMatchOfAllListsOfChanges(t *testing.T) {
	known := changesOf(spans(3))
	for m := range 4 {
		for n := range 4 {
			wanted := map[[2]api.Change][]int{}
			for _, match := range matchesOf(m, n) {
				if l := changesByWords(match, n); len(l) == 2 {
					wanted[[2]api.Change(l)] = match
				}
			}
			for size := range 2 {
				for l := range every.List(known, size) {
					match, e := Match(l, m, n)
					if want, ok := matchByWords(l, m, n); !sameMatch(match, e, want, ok) {
						t.Fatalf("%v, of %d, to %d: error %d, %v, want %v, %v", l, m, n, e, match, ok, want)
					}
				}
			}
			for l := range every.List(known, 2) {
				match, e := Match(l, m, n)
				if want, ok := wanted[[2]api.Change(l)]; !sameMatch(match, e, want, ok) {
					t.Fatalf("%v, of %d, to %d: error %d, %v, want %v, %v", l, m, n, e, match, ok, want)
				}
			}
		}
	}
}

func TestChangesStayAsTheyAre(t *testing.T) {
	want := changes([4]int{0, 1, 0, 0}, [4]int{3, 3, 2, 3}, [4]int{7, 8, 9, 10})
	whole := slices.Clone(want)
	l := whole[:2]
	match, _ := Match(l, 3, 3)
	match[0] = 5
	swapped := append(Swap(l), api.Change{})
	swapped[0] = api.Change{}
	if !slices.Equal(whole, want) {
		t.Errorf("%v", whole)
	}
	checkMatch(t, l, 3, 3, []int{-1, 0, 1})
}

// P4.2: Swap.

func TestSwap(t *testing.T) {
	for _, c := range []struct {
		name    string
		l, want []api.Change
	}{
		{"no changes", nil, nil},
		{"no changes, an empty list", []api.Change{}, nil},
		{"one", changes([4]int{0, 1, 2, 5}), changes([4]int{2, 5, 0, 1})},
		{"several, in turn", changes([4]int{0, 1, 0, 0}, [4]int{3, 3, 2, 3}, [4]int{5, 7, 5, 6}), changes([4]int{0, 0, 0, 1}, [4]int{2, 3, 3, 3}, [4]int{5, 6, 5, 7})},
		{"the same both ways", changes([4]int{1, 2, 1, 2}), changes([4]int{1, 2, 1, 2})},
		{"that no match has", changes([4]int{4, 2, -1, 0}, [4]int{0, 0, 0, 0}, [4]int{4, 2, -1, 0}), changes([4]int{-1, 0, 4, 2}, [4]int{0, 0, 0, 0}, [4]int{-1, 0, 4, 2})},
		{"with great numbers", changes([4]int{math.MinInt, 0, 1, math.MaxInt}), changes([4]int{1, math.MaxInt, math.MinInt, 0})},
	} {
		t.Run(c.name, func(t *testing.T) {
			if l := Swap(c.l); !slices.Equal(l, c.want) {
				t.Errorf("%v, want %v", l, c.want)
			}
			if l := Swap(Swap(c.l)); !slices.Equal(l, c.l) {
				t.Errorf("twice: %v, want %v", l, c.l)
			}
		})
	}
}

func TestSwapOfMany(t *testing.T) {
	var l, want []api.Change
	for i := range 100000 {
		l = append(l, changes([4]int{i, i + 1, 2 * i, 3 * i})...)
		want = append(want, changes([4]int{2 * i, 3 * i, i, i + 1})...)
	}
	if !slices.Equal(Swap(l), want) {
		t.Error("not exchanged, or not in turn")
	}
}

// turned is the match of n places to len(match), with the same pairs.
func turned(match []int, n int) []int {
	back := every.Place(n, noPair)
	for i, j := range match {
		if j >= 0 {
			back[j] = i
		}
	}
	return back
}

func TestSwappedAreTheChangesOfTheMatchTheOtherWay(t *testing.T) {
	for m := range 5 {
		for n := range 5 {
			for _, match := range matchesOf(m, n) {
				l, _ := Changes(match, n)
				checkChanges(t, turned(match, n), m, Swap(l))
				checkMatch(t, Swap(l), n, m, turned(match, n))
			}
		}
	}
}

// P4.3.

func TestMatchesThereAndBackAndNoTwoWithTheSameChanges(t *testing.T) {
	for m := range 6 {
		for n := range 6 {
			var seen [][]api.Change
			for _, match := range matchesOf(m, n) {
				l, e := Changes(match, n)
				if e != api.OK {
					t.Fatalf("%v, to %d: error %d", match, n, e)
				}
				checkMatch(t, l, m, n, match)
				if slices.ContainsFunc(seen, func(other []api.Change) bool { return slices.Equal(other, l) }) {
					t.Fatalf("%v, to %d: another match has %v, too", match, n, l)
				}
				seen = append(seen, l)
			}
		}
	}
}

// scattered is a match of m places to n, always the same one for the same seed: of each place the first bits tell whether it is paired, and how many new places are passed over.
func scattered(m, n int, seed uint64) []int {
	next := 0
	return every.Place(m, func(int) int {
		seed = seed*6364136223846793005 + 1442695040888963407
		bits := int(seed >> 40)
		next += bits >> 3 % 3 * (bits >> 1 & 1)
		if bits&1 == 0 || next >= n {
			return -1
		}
		next++
		return next - 1
	})
}

func TestLongMatchesThereAndBack(t *testing.T) {
	for seed := range uint64(50) {
		for _, c := range []struct{ m, n int }{{2000, 2000}, {2000, 300}, {300, 2000}, {1999, 2000}} {
			match := scattered(c.m, c.n, seed)
			l, e := Changes(match, c.n)
			if e != api.OK || !slices.Equal(l, changesByWords(match, c.n)) {
				t.Fatalf("seed %d: error %d", seed, e)
			}
			checkMatch(t, l, c.m, c.n, match)
			checkMatch(t, Swap(l), c.n, c.m, turned(match, c.n))
		}
	}
}

// What is ranged over ends where its reader leaves it, and can be ranged over again.
func TestWhatIsRangedOverIsLeftAndRangedOverAgain(t *testing.T) {
	match := []int{-1, 0, 2, 3}
	for name, seq := range map[string]func(func(api.Change) bool){
		"pairs":   pairs(match),
		"between": between(pairs(match), len(match), 5),
	} {
		var seen [2][]api.Change
		for round := range seen {
			for c := range seq {
				seen[round] = append(seen[round], c)
				if len(seen[round]) == 2 {
					break
				}
			}
		}
		if len(seen[0]) != 2 || !slices.Equal(seen[0], seen[1]) {
			t.Errorf("%s: %v", name, seen)
		}
	}
}
