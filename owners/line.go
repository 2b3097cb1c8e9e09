package owners

import (
	"slices"
	"strings"

	"quilter/api"
	"quilter/path"
)

// What stands in lines beside names and globs.
const (
	remark   = "#"
	set      = "set"
	noParent = "noparent"
	perFile  = "per-file"
)

// maxName is how many bytes a name has at most.
const maxName = 20

// kind is what a line may be: which words are of it, and what they tell.
type kind struct {
	is   func(words []string) bool
	tell func(o *api.Owners, words []string)
}

// kinds answers all that a line may be; no words are of two of them.
func kinds() [4]kind {
	return [...]kind{
		{isNothing, func(*api.Owners, []string) {}},
		{isNoParent, func(o *api.Owners, _ []string) { o.NoParent = true }},
		{isPerFile, func(o *api.Owners, words []string) { add(o, words[1], words[2:]) }},
		{isName, func(o *api.Owners, words []string) { add(o, "", words) }},
	}
}

// Named tells whether s may be the name of an owner.
func Named(s string) bool {
	if s == "" || len(s) > maxName {
		return false
	}
	for i := range len(s) {
		if !plain(s[i]) {
			return false
		}
	}
	return true
}

// plain tells whether a name may have the byte c.
func plain(c byte) bool {
	return 'a' <= c && c <= 'z' || '0' <= c && c <= '9' || c == '-'
}

// wordsOf answers the words of a line, without its remark.
func wordsOf(line string) []string {
	told, _, _ := strings.Cut(line, remark)
	var l []string
	for word := range strings.FieldsFuncSeq(told, func(c rune) bool { return c == ' ' }) {
		l = append(l, word)
	}
	return l
}

func isNothing(words []string) bool { return len(words) == 0 }

func isNoParent(words []string) bool {
	return slices.Equal(words, []string{set, noParent})
}

func isPerFile(words []string) bool {
	return len(words) > 2 && words[0] == perFile && isGlob(words[1]) && allNamed(words[2:])
}

func isName(words []string) bool {
	return len(words) == 1 && Named(words[0])
}

// isGlob tells whether s is a glob of files of one directory.
func isGlob(s string) bool {
	return path.Glob(s) && !strings.Contains(s, "/")
}

func allNamed(l []string) bool {
	return !slices.ContainsFunc(l, func(s string) bool { return !Named(s) })
}

// add puts a line behind those of o; it keeps names.
func add(o *api.Owners, glob string, names []string) {
	o.Lines = append(o.Lines, api.Line{Glob: glob, Owners: names})
}
