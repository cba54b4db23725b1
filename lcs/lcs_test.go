package lcs

import (
	"math"
	"slices"
	"sync"
	"testing"

	"sennit/api"
	"sennit/every"
)

// chosen is what stands at the places of l whose bits are set.
func chosen(l []int, bits int) []int {
	var c []int
	for i, number := range l {
		if bits>>i&1 == 1 {
			c = append(c, number)
		}
	}
	return c
}

// stands tells whether b has the numbers of l at some places that rise.
func stands(l, b []int) bool {
	for _, number := range b {
		if len(l) > 0 && l[0] == number {
			l = l[1:]
		}
	}
	return len(l) == 0
}

// longest is how many places the longest common sequences have, found by going through all of them.
func longest(a, b []int) int {
	most := 0
	for bits := range 1 << len(a) {
		if c := chosen(a, bits); len(c) > most && stands(c, b) {
			most = len(c)
		}
	}
	return most
}

// grid is L of the document for all places of both lists, whole.
func grid(a, b []int) [][]int {
	g := make([][]int, len(a)+1)
	for i := range g {
		g[i] = make([]int, len(b)+1)
	}
	for i := len(a) - 1; i >= 0; i-- {
		for j := len(b) - 1; j >= 0; j-- {
			g[i][j] = max(g[i+1][j], g[i][j+1])
			if a[i] == b[j] {
				g[i][j] = g[i+1][j+1] + 1
			}
		}
	}
	return g
}

// paired is what P3.2 says, with L as it is handed in.
func paired(a, b []int, l func(i, j int) int) []int {
	var match []int
	i, j := 0, 0
	for i < len(a) && j < len(b) {
		if a[i] == b[j] {
			match = append(match, j)
			i, j = i+1, j+1
		} else if l(i+1, j) < l(i, j+1) {
			j++
		} else {
			match = append(match, -1)
			i++
		}
	}
	for len(match) < len(a) {
		match = append(match, -1)
	}
	return match
}

func pairOf(t *testing.T, a, b []int) *Pair {
	t.Helper()
	p, e := New(a, b)
	if p == nil || e != api.OK {
		t.Fatalf("%d numbers, and %d: pair %v, error %d", len(a), len(b), p, e)
	}
	return p
}

func checkPair(t *testing.T, a, b []int, long int, match []int) {
	t.Helper()
	p := pairOf(t, a, b)
	if p.Len() != long || !slices.Equal(p.Match(), match) {
		t.Fatalf("%v, %v: %d, %v, want %d, %v", a, b, p.Len(), p.Match(), long, match)
	}
}

// checkCommon asks of a match what P3.4 says: it rises, pairs what is the same, and pairs as many as long says.
func checkCommon(t *testing.T, a, b, match []int, long int) {
	t.Helper()
	if len(match) != len(a) {
		t.Fatalf("%d numbers, for %d places", len(match), len(a))
	}
	last, count := -1, 0
	for i, j := range match {
		if j == -1 {
			continue
		}
		if j <= last || j >= len(b) || a[i] != b[j] {
			t.Fatalf("place %d is paired with %d, behind %d", i, j, last)
		}
		last = j
		count++
	}
	if count != long {
		t.Fatalf("%d are paired, Len is %d", count, long)
	}
}

// scattered are n numbers below many, always the same ones for the same seed.
func scattered(n, many int, seed uint64) []int {
	return every.Place(n, func(int) int {
		seed = seed*6364136223846793005 + 1442695040888963407
		return int(seed>>33) % many
	})
}

func rising(i int) int { return i }

// P3.1: New.

func TestNewOfListsThatAreTooLong(t *testing.T) {
	for _, c := range []struct {
		name string
		a, b int
	}{
		{"the first one, the second one empty", api.MaxLines + 1, 0},
		{"the second one, the first one empty", 0, api.MaxLines + 1},
		{"the first one", api.MaxLines + 1, 3},
		{"the second one", 3, api.MaxLines + 1},
		{"the first one, the second one as long as may be", api.MaxLines + 1, api.MaxLines},
		{"the second one, the first one as long as may be", api.MaxLines, api.MaxLines + 1},
		{"both", api.MaxLines + 1, api.MaxLines + 1},
		{"much too long", 100000, 0},
	} {
		p, e := New(make([]int, c.a), make([]int, c.b))
		if p != nil || e != api.ErrLong {
			t.Errorf("%s: pair %v, error %d", c.name, p, e)
		}
		if p.Len() != 0 || len(p.Match()) != 0 {
			t.Errorf("%s: %d, %v", c.name, p.Len(), p.Match())
		}
	}
}

func TestNewOfListsAsLongAsMayBe(t *testing.T) {
	const most = 2000
	full, turned := every.Place(most, rising), every.Place(most, func(i int) int { return most - 1 - i })
	nothing := every.Place(most, func(int) int { return -1 })
	checkPair(t, full, full, most, full)
	checkPair(t, full, nil, 0, nothing)
	checkPair(t, nil, full, 0, nil)
	checkPair(t, make([]int, most), []int{0, 0, 0}, 3, append([]int{0, 1, 2}, nothing[3:]...))
	checkPair(t, []int{0, 1999}, full, 2, []int{0, 1999})
	checkPair(t, full, turned, 1, append(slices.Clone(nothing[1:]), 0))
	checkPair(t, full, every.Place(most, func(i int) int { return i + most }), 0, nothing)
}

func TestItIsReckonedOnceWhateverIsAsked(t *testing.T) {
	for name, ask := range map[string]func(*Pair){
		"Len":   func(p *Pair) { p.Len() },
		"Match": func(p *Pair) { p.Match() },
	} {
		p := pairOf(t, []int{1, 2, 3}, []int{2, 3, 1})
		ask(p)
		p.long, p.match = 77, []int{78}
		if p.Len() != 77 || !slices.Equal(p.Match(), []int{78}) {
			t.Errorf("%s: reckoned again: %d, %v", name, p.Len(), p.Match())
		}
	}
}

func TestWhatIsAskedFirstMakesNoOdds(t *testing.T) {
	a, b := []int{3, 1, 2, 1}, []int{1, 3, 2, 2, 1}
	p, q := pairOf(t, a, b), pairOf(t, a, b)
	long, match := p.Len(), q.Match()
	for range 3 {
		if p.Len() != long || q.Len() != long || !slices.Equal(p.Match(), match) || !slices.Equal(q.Match(), match) {
			t.Errorf("%d, %v, and %d, %v", p.Len(), p.Match(), q.Len(), q.Match())
		}
	}
	checkCommon(t, a, b, match, 3)
}

func TestManyAskAtOneTime(t *testing.T) {
	a, b := scattered(300, 5, 1), scattered(300, 5, 2)
	p := pairOf(t, a, b)
	longs, matches := make([]int, 8), make([][]int, 8)
	var all sync.WaitGroup
	for i := range longs {
		all.Go(func() { longs[i], matches[i] = p.Len(), p.Match() })
	}
	all.Wait()
	for i, match := range matches {
		if longs[i] != longs[0] || !slices.Equal(match, matches[0]) {
			t.Errorf("%d, and %d", longs[i], longs[0])
		}
	}
	checkCommon(t, a, b, matches[0], longs[0])
}

func TestAPairHangsOnItsListsAsTheyWereHandedIn(t *testing.T) {
	a, b := []int{1, 2, 3}, []int{2, 3, 1}
	p := pairOf(t, a, b)
	clear(a)
	clear(b)
	if p.Len() != 2 || !slices.Equal(p.Match(), []int{-1, 0, 1}) {
		t.Errorf("%d, %v", p.Len(), p.Match())
	}
}

func TestListsStayAsTheyAre(t *testing.T) {
	a, b := []int{1, 2, 3}, []int{2, 3, 1}
	p := pairOf(t, a, b)
	p.Len()
	p.Match()
	if !slices.Equal(a, []int{1, 2, 3}) || !slices.Equal(b, []int{2, 3, 1}) {
		t.Errorf("%v, %v", a, b)
	}
}

func TestPairsKeepNothingOfEachOther(t *testing.T) {
	p, q := pairOf(t, []int{1, 2}, []int{2}), pairOf(t, []int{1, 2}, []int{1, 2})
	if p.Len() != 1 || q.Len() != 2 || !slices.Equal(p.Match(), []int{-1, 0}) || !slices.Equal(q.Match(), []int{0, 1}) {
		t.Errorf("%d, %v, and %d, %v", p.Len(), p.Match(), q.Len(), q.Match())
	}
}

// P3.1 and P3.2: Len and Match.

func TestLenAndMatch(t *testing.T) {
	for _, c := range []struct {
		name string
		a, b []int
		long int
		want []int
	}{
		{"the document's example", []int{1, 2, 3}, []int{2, 3, 1}, 2, []int{-1, 0, 1}},
		{"both nil", nil, nil, 0, nil},
		{"both empty", []int{}, []int{}, 0, nil},
		{"the first one empty", nil, []int{1, 2}, 0, nil},
		{"the second one empty", []int{1, 2}, nil, 0, []int{-1, -1}},
		{"one number, the same", []int{5}, []int{5}, 1, []int{0}},
		{"one number, another one", []int{5}, []int{6}, 0, []int{-1}},
		{"the same lists", []int{3, 1, 3}, []int{3, 1, 3}, 3, []int{0, 1, 2}},
		{"nothing in common", []int{1, 2}, []int{3, 4, 5}, 0, []int{-1, -1}},
		{"either way as long: the first list's place is passed over", []int{1, 2}, []int{2, 1}, 1, []int{-1, 0}},
		{"either way as long, of three", []int{1, 2, 3}, []int{3, 2, 1}, 1, []int{-1, -1, 0}},
		{"one way longer: the second list's place is passed over", []int{1, 2, 3}, []int{3, 1, 2}, 2, []int{1, 2, -1}},
		{"what is several times in the first list is paired early", []int{1, 1, 2}, []int{1, 2}, 2, []int{0, -1, 1}},
		{"what is several times in the second list is paired early", []int{1, 2}, []int{1, 1, 2}, 2, []int{0, 2}},
		{"at the end, too, in the first list", []int{2, 1, 1}, []int{2, 1}, 2, []int{0, 1, -1}},
		{"at the end, too, in the second list", []int{2, 1}, []int{2, 1, 1}, 2, []int{0, 1}},
		{"more of one number in the first list", []int{7, 7, 7}, []int{7, 7}, 2, []int{0, 1, -1}},
		{"more of one number in the second list", []int{7, 7}, []int{7, 7, 7}, 2, []int{0, 1}},
		{"what both lists begin with, though it ends them, too", []int{1, 2, 1}, []int{1, 3, 1, 2}, 2, []int{0, -1, 2}},
		{"ahead and behind", []int{9, 1, 8, 2}, []int{1, 7, 2, 6}, 2, []int{-1, 0, -1, 2}},
		{"longer ahead of what is behind", []int{1, 2, 3, 4}, []int{4, 1, 2, 5, 3}, 3, []int{1, 2, 4, -1}},
	} {
		t.Run(c.name, func(t *testing.T) { checkPair(t, c.a, c.b, c.long, c.want) })
	}
}

func TestNegativeAndGreatNumbers(t *testing.T) {
	checkPair(t, []int{-1, -2, -3}, []int{-2, -3, -1}, 2, []int{-1, 0, 1})
	checkPair(t, []int{-1}, []int{-1}, 1, []int{0})
	checkPair(t, []int{-1}, []int{1}, 0, []int{-1})
	checkPair(t, []int{-1, 0, -1}, []int{0, -1}, 2, []int{-1, 0, 1})
	checkPair(t, []int{math.MinInt, 0, math.MaxInt}, []int{0, math.MinInt, math.MaxInt}, 2, []int{-1, 0, 2})
	checkPair(t, []int{math.MaxInt}, []int{math.MinInt}, 0, []int{-1})
	checkPair(t, []int{1 << 32}, []int{0}, 0, []int{-1})
	checkPair(t, []int{1 << 32, 1}, []int{1, 1 << 32}, 1, []int{-1, 0})
}

func TestMatchAskedAgain(t *testing.T) {
	p := pairOf(t, []int{1, 2, 3}, []int{2, 3, 1})
	first := p.Match()
	first[0], first[1], first[2] = 5, 6, 7
	if second := p.Match(); !slices.Equal(second, []int{-1, 0, 1}) || !slices.Equal(p.Match(), second) || p.Len() != 2 {
		t.Errorf("%v, then %v, %d", second, p.Match(), p.Len())
	}
}

// P3.3.

func TestOfAPairThatIsNil(t *testing.T) {
	var none *Pair
	for range 2 {
		if none.Len() != 0 || len(none.Match()) != 0 {
			t.Errorf("%d, %v", none.Len(), none.Match())
		}
	}
}

// P3.1, P3.2 and P3.4, of all short lists.

func TestAllShortListsAreAsTheWordsSay(t *testing.T) {
	for _, lists := range [][][]int{slices.Collect(every.UpTo([]int{0, 1, 2}, 4)), slices.Collect(every.UpTo([]int{-1, 3}, 5))} {
		for _, a := range lists {
			for _, b := range lists {
				l := func(i, j int) int { return longest(a[i:], b[j:]) }
				checkPair(t, a, b, l(0, 0), paired(a, b, l))
				checkCommon(t, a, b, pairOf(t, a, b).Match(), l(0, 0))
			}
		}
	}
}

// P3.1, P3.2 and P3.4, of long lists.

func TestLongListsAreAsTheWordsSay(t *testing.T) {
	for _, c := range []struct{ m, n, many int }{
		{1, 2000, 40}, {2000, 1, 40}, {2000, 2000, 2}, {2000, 2000, 50}, {2000, 1999, 3000}, {777, 1234, 9}, {1234, 777, 9},
	} {
		a, b := scattered(c.m, c.many, 3), scattered(c.n, c.many, 4)
		p, g := pairOf(t, a, b), grid(a, b)
		checkCommon(t, a, b, p.Match(), p.Len())
		if want := paired(a, b, func(i, j int) int { return g[i][j] }); p.Len() != g[0][0] || !slices.Equal(p.Match(), want) {
			t.Errorf("%v: %d, want %d, or another match", c, p.Len(), g[0][0])
		}
	}
}

// P3.4: what both lists begin with.

func TestWhatBothListsBeginWithIsPairedPlaceByPlace(t *testing.T) {
	lists := slices.Collect(every.UpTo([]int{0, 1}, 3))
	for _, begin := range lists {
		for _, a := range lists {
			for _, b := range lists {
				match := pairOf(t, slices.Concat(begin, a), slices.Concat(begin, b)).Match()
				if want := every.Place(len(begin), rising); !slices.Equal(match[:len(begin)], want) {
					t.Fatalf("%v, behind it %v, and %v: %v", begin, a, b, match)
				}
			}
		}
	}
	begin := scattered(1500, 3, 5)
	match := pairOf(t, slices.Concat(begin, scattered(500, 3, 6)), slices.Concat(begin, scattered(400, 3, 7))).Match()
	if !slices.Equal(match[:1500], every.Place(1500, rising)) {
		t.Errorf("%v", match[:1500])
	}
}
