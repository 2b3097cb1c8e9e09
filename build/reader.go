package build

import (
	"strings"

	"quilter/api"
	"quilter/path"
)

// What stands in lines beside names, files and labels.
const (
	remark = "#"
	target = "target"
	src    = "src"
	dep    = "dep"
	colon  = ":"
)

// indent stands ahead of what is of the target above it.
const indent = "  "

// maxName is how many bytes a target's own name has at most.
const maxName = 20

// reader reads a BUILD file. The Target at hand, to which files and deps are laid, is the last one of all; nil, if there is none yet.
type reader struct {
	*api.Target
	dir   string
	all   []api.Target
	names map[string]struct{} // of all
}

// read takes s line by line, up to the first one that may not be.
func (r *reader) read(s string) api.Errno {
	acts := map[string]func(string) api.Errno{target: r.target, src: r.src, dep: r.dep}
lines:
	for line := range strings.SplitSeq(s, "\n") {
		switch words := wordsOf(line); len(words) {
		case 0:
			continue lines
		case 2:
			if act, known := acts[words[0]]; known {
				if e := act(words[1]); e != api.OK {
					return e
				}
				continue lines
			}
		}
		return api.ErrLine
	}
	return api.OK
}

// target begins a Target of that name.
func (r *reader) target(name string) api.Errno {
	if !Named(name) {
		return api.ErrLine
	}
	label := r.dir + colon + name
	if _, there := r.names[label]; there {
		return api.ErrTwice
	}
	r.names[label] = struct{}{}
	r.all = append(r.all, api.Target{Name: label})
	// The list may have moved, so the Target at hand is taken anew; those ahead of it are not asked for any more.
	r.Target = &r.all[len(r.all)-1]
	return api.OK
}

// src lays a file to the Target at hand.
func (r *reader) src(text string) api.Errno {
	s := path.Join(r.dir, text)
	if r.Target == nil || !path.Right(s) {
		return api.ErrLine
	}
	r.Srcs = append(r.Srcs, s)
	return api.OK
}

// dep lays what the Target at hand stands on to it.
func (r *reader) dep(text string) api.Errno {
	dir, name, _ := strings.Cut(text, colon)
	if r.Target == nil || dir != "" && !path.Right(dir) || !Named(name) {
		return api.ErrLine
	}
	if dir == "" {
		dir = r.dir
	}
	r.Deps = append(r.Deps, dir+colon+name)
	return api.OK
}

// Named tells whether s may be the name of a target.
func Named(s string) bool {
	if s == "" || len(s) > maxName {
		return false
	}
	for i := range len(s) {
		if !plain(s[i]) {
			return false
		}
	}
	return true
}

// plain tells whether a name may have the byte c.
func plain(c byte) bool {
	return 'a' <= c && c <= 'z' || '0' <= c && c <= '9' || c == '_'
}

// wordsOf answers the words of a line, without its remark.
func wordsOf(line string) []string {
	words, _, _ := strings.Cut(line, remark)
	return strings.FieldsFunc(words, func(c rune) bool { return c == ' ' })
}
