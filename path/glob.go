package path

import "strings"

// anyNames is the pattern that any number of names fit.
const anyNames = "**"

// Glob tells whether g is a glob.
func Glob(g string) bool {
	return consistsOf(g, pattern)
}

// Match tells whether g is a glob, s a path, and the names of s fit the patterns of g.
func Match(g string, s string) bool {
	if !Glob(g) || !Right(s) {
		return false
	}
	many := func(p string) bool { return p == anyNames }
	return parted(strings.Split(g, "/"), strings.Split(s, "/"), many, fits)
}

// pattern tells whether s may stand between the slashes of a glob.
func pattern(s string) bool {
	return s == anyNames || spelt(s, "*?") && !strings.Contains(s, "**")
}

// fits tells whether the name s fits the pattern p, which is not that of any names.
func fits(p string, s string) bool {
	many := func(c byte) bool { return c == '*' }
	one := func(c byte, b byte) bool { return c == '?' || c == b }
	return parted([]byte(p), []byte(s), many, one)
}

// place is where the rest of the patterns, and that of the items, begin.
type place struct{ pattern, item int }

// parted tells whether the items can be parted into rows, one for each pattern, in order: any number of items for a pattern that takes many, for any other one just one that fits it.
func parted[T any](patterns []T, items []T, many func(T) bool, one func(T, T) bool) bool {
	// Several ways lead only to a place whose pattern takes many: what failed there is kept, or each of them would be gone anew.
	failed := map[place]struct{}{}
	var from func(p place) bool
	from = func(p place) bool {
		if p.pattern == len(patterns) {
			return p.item == len(items)
		}
		next, left := patterns[p.pattern], p.item < len(items)
		if !many(next) {
			return left && one(next, items[p.item]) && from(place{p.pattern + 1, p.item + 1})
		}
		if _, known := failed[p]; known {
			return false
		}
		if from(place{p.pattern + 1, p.item}) || left && from(place{p.pattern, p.item + 1}) {
			return true
		}
		failed[p] = struct{}{}
		return false
	}
	return from(place{})
}
