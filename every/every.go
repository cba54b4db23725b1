// Package every goes through all things of a kind, as long as these are few and short: the layers' tests hand them in.
package every

import (
	"iter"
	"slices"
)

// List is every list of just n of the things, each one new.
func List[T any](things []T, n int) iter.Seq[[]T] {
	return func(yield func([]T) bool) {
		list := make([]T, n)
		var fill func(at int) bool
		fill = func(at int) bool {
			if at == n {
				return yield(slices.Clone(list))
			}
			for _, thing := range things {
				list[at] = thing
				if !fill(at + 1) {
					return false
				}
			}
			return true
		}
		fill(0)
	}
}

// UpTo is every list of no more than n of the things, the short ones first, each one new.
func UpTo[T any](things []T, n int) iter.Seq[[]T] {
	return func(yield func([]T) bool) {
		for size := range n + 1 {
			for list := range List(things, size) {
				if !yield(list) {
					return
				}
			}
		}
	}
}

// Turn is the things in every turn, each list new.
func Turn[T any](things []T) iter.Seq[[]T] {
	return func(yield func([]T) bool) {
		list := slices.Clone(things)
		var fill func(at int) bool
		fill = func(at int) bool {
			if at == len(list) {
				return yield(slices.Clone(list))
			}
			for from := at; from < len(list); from++ {
				list[at], list[from] = list[from], list[at]
				goOn := fill(at + 1)
				list[at], list[from] = list[from], list[at]
				if !goOn {
					return false
				}
			}
			return true
		}
		fill(0)
	}
}

// Place is n numbers, each what next tells of its place.
func Place(n int, next func(i int) int) []int {
	l := make([]int, n)
	for i := range l {
		l[i] = next(i)
	}
	return l
}
