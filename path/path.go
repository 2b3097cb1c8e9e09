// Package path tells paths, and which of them match a glob: layer 1, see shared/doc/01-path.md.
package path

import (
	"strings"

	"quilter/api"
)

// Clean answers s without empty parts, without `.`, and without `..` and what each of them takes away; ErrPath, if what is left is no path.
func Clean(s string) (string, api.Errno) {
	var names []string
parts:
	for part := range strings.SplitSeq(s, "/") {
		switch part {
		case "..":
			if len(names) == 0 {
				return "", api.ErrPath
			}
			names = names[:len(names)-1]
			fallthrough
		case "", ".":
			continue parts
		}
		names = append(names, part)
	}
	clean := strings.Join(names, "/")
	// What `..` took away may have been anything, so only what is left is asked.
	if !Right(clean) {
		return "", api.ErrPath
	}
	return clean, api.OK
}

// Right tells whether s is a path.
func Right(s string) bool {
	return consistsOf(s, name)
}

// Dir answers what is ahead of the last slash of s; nothing, if it has none.
func Dir(s string) string {
	return s[:max(strings.LastIndexByte(s, '/'), 0)]
}

// Base answers what is behind the last slash of s; s, if it has none.
func Base(s string) string {
	return s[strings.LastIndexByte(s, '/')+1:]
}

// Join answers dir and s, a slash between; the other one, if one of them is empty.
func Join(dir string, s string) string {
	switch {
	case dir == "":
		return s
	case s == "":
		return dir
	}
	return dir + "/" + s
}

// Under tells whether s lies below dir; all lies below a dir that is empty.
func Under(s string, dir string) bool {
	if dir == "" {
		return true
	}
	rest, begins := strings.CutPrefix(s, dir)
	return begins && strings.HasPrefix(rest, "/")
}

// consistsOf tells whether s is short enough for a path, and each of its parts may be one.
func consistsOf(s string, part func(string) bool) bool {
	if len(s) > api.MaxPath {
		return false
	}
	for p := range strings.SplitSeq(s, "/") {
		if !part(p) {
			return false
		}
	}
	return true
}

// name tells whether s may stand between the slashes of a path.
func name(s string) bool {
	return spelt(s, "")
}

// spelt tells whether s is as a name is, where bytes of wild may stand in it, too.
func spelt(s string, wild string) bool {
	if s == "" || s == "." || s == ".." || len(s) > api.MaxName {
		return false
	}
	for i := range len(s) {
		if !plain(s[i]) && strings.IndexByte(wild, s[i]) < 0 {
			return false
		}
	}
	return true
}

// plain tells whether a name may have the byte c.
func plain(c byte) bool {
	switch {
	case 'a' <= c && c <= 'z', 'A' <= c && c <= 'Z', '0' <= c && c <= '9':
		return true
	}
	return c == '.' || c == '_' || c == '-'
}
