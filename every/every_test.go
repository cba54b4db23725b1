package every

import (
	"iter"
	"slices"
	"testing"
)

// checkLists holds what lists yields against want, and breaks off behind each list once.
func checkLists(t *testing.T, lists iter.Seq[[]string], want ...[]string) {
	t.Helper()
	same := func(got [][]string, want [][]string) bool { return slices.EqualFunc(got, want, slices.Equal[[]string]) }
	if got := slices.Collect(lists); !same(got, want) {
		t.Errorf("%q, want %q", got, want)
	}
	for n := range want {
		var got [][]string
		for list := range lists {
			got = append(got, list)
			if len(got) > n {
				break
			}
		}
		if !same(got, want[:n+1]) {
			t.Errorf("broken off: %q, want %q", got, want[:n+1])
		}
	}
}

func TestList(t *testing.T) {
	checkLists(t, List([]string{"a", "b"}, 2), []string{"a", "a"}, []string{"a", "b"}, []string{"b", "a"}, []string{"b", "b"})
	checkLists(t, List([]string{"a", "b"}, 0), nil)
	checkLists(t, List([]string(nil), 0), nil)
	checkLists(t, List([]string(nil), 1))
}

func TestUpTo(t *testing.T) {
	checkLists(t, UpTo([]string{"a", "b"}, 1), nil, []string{"a"}, []string{"b"})
	checkLists(t, UpTo([]string{"a"}, 3), nil, []string{"a"}, []string{"a", "a"}, []string{"a", "a", "a"})
	checkLists(t, UpTo([]string(nil), 3), nil)
}

func TestTurn(t *testing.T) {
	things := []string{"a", "b", "c"}
	checkLists(t, Turn(things), []string{"a", "b", "c"}, []string{"a", "c", "b"}, []string{"b", "a", "c"}, []string{"b", "c", "a"}, []string{"c", "b", "a"}, []string{"c", "a", "b"})
	if !slices.Equal(things, []string{"a", "b", "c"}) {
		t.Errorf("what was handed in has become %q", things)
	}
	checkLists(t, Turn([]string(nil)), nil)
}

func TestPlace(t *testing.T) {
	if got := Place(3, func(i int) int { return 2 * i }); !slices.Equal(got, []int{0, 2, 4}) {
		t.Errorf("%v", got)
	}
}
