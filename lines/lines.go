// Package lines tells bytes as lines, and lines as bytes. It is layer 1: see shared/doc/01-lines.md.
package lines

import (
	"iter"
	"strings"
)

const feed = '\n'

// Split is b, cut behind each line feed: lines, and what stands behind the last line feed, if something does, as an open line.
func Split(b []byte) []string {
	var l []string
	for line := range cut(string(b)) {
		l = append(l, line)
	}
	return l
}

// Join is all texts of all lists, one behind the other.
func Join(l ...[]string) []byte {
	var b []byte
	for _, list := range l {
		for _, text := range list {
			b = append(b, text...)
		}
	}
	return b
}

// May tells whether all texts of l are lines, but the last one, which may be an open line.
func May(l []string) bool {
	last := len(l) - 1
	for i, text := range l {
		if text == "" || firstEnd(text) < len(text) {
			return false
		}
		if i < last && !ended(text) {
			return false
		}
	}
	return true
}

// Open tells whether l has texts, and the last one isn't ended by a line feed.
func Open(l []string) bool {
	return len(l) > 0 && !ended(l[len(l)-1])
}

// cut tells the lines of s, one by one, and at last an open line, if there is one.
func cut(s string) iter.Seq[string] {
	return func(yield func(string) bool) {
		rest := s
		for rest != "" {
			end := firstEnd(rest)
			if !yield(rest[:end]) {
				return
			}
			rest = rest[end:]
		}
	}
}

// firstEnd is where the first line of s ends; without a line feed the whole of s is an open line.
func firstEnd(s string) int {
	if i := strings.IndexByte(s, feed); i >= 0 {
		return i + 1
	}
	return len(s)
}

func ended(text string) bool {
	return text != "" && text[len(text)-1] == feed
}
