package intern

import (
	"math"
	"slices"
	"strconv"
	"strings"
	"testing"

	"sennit/every"
)

// alikeTexts differ from each other, though some look alike, or are parts of others.
var alikeTexts = []string{"", "a", "a\n", "A", "a ", "a\x00", "\xff", "aa", "\u00e9", "e\u0301"}

// firstComeNumbers is what P2.1 asks of texts in turn, reckoned without a table: the place of each among the texts that differ, as they first come.
func firstComeNumbers(texts []string) (ids []int, differing []string) {
	for _, text := range texts {
		id := slices.Index(differing, text)
		if id < 0 {
			id = len(differing)
			differing = append(differing, text)
		}
		ids = append(ids, id)
	}
	return ids, differing
}

func checkIds(t *testing.T, table *Table, texts []string, want ...int) {
	t.Helper()
	for i, text := range texts {
		if id := table.Id(text); id != want[i] {
			t.Fatalf("%q: text %d has the number %d, want %d", texts, i, id, want[i])
		}
	}
}

func checkTexts(t *testing.T, table *Table, want ...string) {
	t.Helper()
	if table.Len() != len(want) {
		t.Fatalf("%d numbers, want %d", table.Len(), len(want))
	}
	for id, text := range want {
		if got := table.Text(id); got != text {
			t.Fatalf("the number %d has the text %q, want %q", id, got, text)
		}
	}
}

func checkNoText(t *testing.T, table *Table, ids ...int) {
	t.Helper()
	for _, id := range ids {
		if got := table.Text(id); got != "" {
			t.Errorf("the number %d has the text %q", id, got)
		}
	}
}

func checkAll(t *testing.T, all [][]int, want ...[]int) {
	t.Helper()
	if !slices.EqualFunc(all, want, slices.Equal[[]int]) {
		t.Errorf("%v, want %v", all, want)
	}
}

// P2.1: a table that New made.

func TestNewIsWithoutTexts(t *testing.T) {
	table := New()
	if table == nil {
		t.Fatal("no table")
	}
	checkTexts(t, table)
	checkNoText(t, table, 0, 1, -1)
}

func TestIdGivesTheNextNumberToANewText(t *testing.T) {
	for _, c := range []struct {
		name  string
		texts []string
		want  []int
	}{
		{"one text", []string{"a"}, []int{0}},
		{"texts that differ", []string{"c", "a", "b"}, []int{0, 1, 2}},
		{"a text asked again", []string{"a", "a", "a"}, []int{0, 0, 0}},
		{"a text asked again later", []string{"a", "b", "a", "c", "b", "a"}, []int{0, 1, 0, 2, 1, 0}},
		{"the empty text first", []string{"", "a", ""}, []int{0, 1, 0}},
		{"the empty text later", []string{"a", "", "b", "", "a"}, []int{0, 1, 2, 1, 0}},
		{"lines, and an open one", []string{"a\n", "a", "\n", "a\n"}, []int{0, 1, 2, 0}},
		{"figures are texts", []string{"1", "0", "-1", "0"}, []int{0, 1, 2, 1}},
		{"bytes that are no characters", []string{"\xff", "\xfe", "\ufffd", "\xff"}, []int{0, 1, 2, 0}},
	} {
		t.Run(c.name, func(t *testing.T) { checkIds(t, New(), c.texts, c.want...) })
	}
}

func TestTextIsWhatHasTheNumber(t *testing.T) {
	table := New()
	checkIds(t, table, []string{"b", "a", "b", "", "a\n"}, 0, 1, 0, 2, 3)
	checkTexts(t, table, "b", "a", "", "a\n")
}

func TestTextOfANumberThatNoTextHasIsEmpty(t *testing.T) {
	table := New()
	checkIds(t, table, []string{"a", "b"}, 0, 1)
	checkNoText(t, table, 2, 3, -1, -2, math.MaxInt, math.MinInt, 1<<32, 1<<32+1, -1<<32)
	checkTexts(t, table, "a", "b")
}

func TestLenCountsNumbersNotAsks(t *testing.T) {
	table := New()
	for i, want := range []int{1, 1, 2, 2, 3, 3} {
		table.Id([]string{"a", "a", "", "a", "b", ""}[i])
		if table.Len() != want {
			t.Errorf("after %d asks: %d numbers, want %d", i+1, table.Len(), want)
		}
	}
}

func TestTextAndLenGiveNoNumbers(t *testing.T) {
	table := New()
	checkNoText(t, table, 0, 5, -1)
	checkTexts(t, table)
	checkIds(t, table, []string{"a", ""}, 0, 1)
}

func TestTablesHaveNumbersOfTheirOwn(t *testing.T) {
	first, second := New(), New()
	checkIds(t, first, []string{"a", "b"}, 0, 1)
	checkIds(t, second, []string{"b", "c", "a"}, 0, 1, 2)
	checkIds(t, first, []string{"c", "a"}, 2, 0)
	checkTexts(t, first, "a", "b", "c")
	checkTexts(t, second, "b", "c", "a")
}

// P2.1: a table that is nil.

func TestOfATableThatIsNil(t *testing.T) {
	var none *Table
	for range 2 {
		checkIds(t, none, []string{"a", "", "a\n", "b"}, -1, -1, -1, -1)
		checkTexts(t, none)
		checkNoText(t, none, 0, 1, -1, math.MaxInt, math.MinInt)
	}
}

// P2.2.

func TestAll(t *testing.T) {
	for _, c := range []struct {
		name  string
		files [][]string
		want  [][]int
	}{
		{"the document's example", [][]string{{"a", "b", "a"}, {"c", "a"}}, [][]int{{0, 1, 0}, {2, 0}}},
		{"no files", nil, nil},
		{"a file without texts", [][]string{{}}, [][]int{nil}},
		{"files without texts", [][]string{nil, {}, nil}, [][]int{nil, nil, nil}},
		{"one file", [][]string{{"b", "a", "b"}}, [][]int{{0, 1, 0}}},
		{"a file without texts ahead", [][]string{nil, {"a"}}, [][]int{nil, {0}}},
		{"a file without texts between", [][]string{{"a"}, {}, {"b", "a"}}, [][]int{{0}, nil, {1, 0}}},
		{"a file without texts at the end", [][]string{{"a", "b"}, nil}, [][]int{{0, 1}, nil}},
		{"files that are the same", [][]string{{"a", "b"}, {"a", "b"}}, [][]int{{0, 1}, {0, 1}}},
		{"files without a text in common", [][]string{{"a", "b"}, {"c"}, {"d", "e"}}, [][]int{{0, 1}, {2}, {3, 4}}},
		{"the empty text", [][]string{{""}, {"a", ""}}, [][]int{{0}, {1, 0}}},
		{"a line, and an open one", [][]string{{"a\n", "b\n"}, {"b\n", "a"}}, [][]int{{0, 1}, {1, 2}}},
	} {
		t.Run(c.name, func(t *testing.T) { checkAll(t, All(c.files...), c.want...) })
	}
	checkAll(t, All())
}

func TestAllIsByANewTableEachTime(t *testing.T) {
	checkAll(t, All([]string{"a", "b"}), []int{0, 1})
	checkAll(t, All([]string{"b", "c"}), []int{0, 1})
}

func TestAllIsTheIdsOfOneTable(t *testing.T) {
	for list := range every.List(alikeTexts[:3], 5) {
		ids, _ := firstComeNumbers(list)
		for cut := range len(list) + 1 {
			checkAll(t, All(list[:cut], list[cut:]), ids[:cut], ids[cut:])
		}
	}
}

func TestAllKeepsItsFilesAndSharesNoLists(t *testing.T) {
	file := []string{"a", "b"}
	all := All(file, file)
	all[0][0] = 7
	all[0] = append(all[0], 8)
	checkAll(t, all, []int{7, 1, 8}, []int{0, 1})
	if !slices.Equal(file, []string{"a", "b"}) {
		t.Errorf("file changed: %q", file)
	}
}

// P2.3.

func TestOneNumberJustIfTheSameText(t *testing.T) {
	for list := range every.List(alikeTexts, 4) {
		table := New()
		ids, differing := firstComeNumbers(list)
		checkIds(t, table, list, ids...)
		checkTexts(t, table, differing...)
	}
}

func TestTheSameTextOfOtherMemory(t *testing.T) {
	table := New()
	for i, text := range alikeTexts {
		checkIds(t, table, []string{text, strings.Clone(text), string([]byte(text))}, i, i, i)
	}
	checkTexts(t, table, alikeTexts...)
}

func TestManyNumbersWithoutGaps(t *testing.T) {
	const many = 100000
	table := New()
	for i := range many {
		if id := table.Id(strconv.Itoa(i)); id != i {
			t.Fatalf("text %d has the number %d", i, id)
		}
		if id := table.Id(strconv.Itoa(i / 2)); id != i/2 {
			t.Fatalf("text %d has the number %d now", i/2, id)
		}
	}
	if table.Len() != many {
		t.Errorf("%d numbers", table.Len())
	}
	for i := range many {
		if text := table.Text(i); text != strconv.Itoa(i) {
			t.Fatalf("the number %d has the text %q", i, text)
		}
	}
}

// The document says nothing of a table that New didn't make; it doesn't panic all the same.
func TestAZeroTableDoesNotPanic(t *testing.T) {
	var table Table
	checkNoText(t, &table, 0, -1)
	checkIds(t, &table, []string{"a", "b", "a"}, 0, 1, 0)
	checkTexts(t, &table, "a", "b")
}
