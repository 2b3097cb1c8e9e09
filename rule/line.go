package rule

import (
	"strings"

	"quilter/api"
)

// What stands between lines, and between the words of one.
const (
	lineFeed = "\n"
	blank    = " "
)

// form is what the first word of a line makes of it: a Rule of that Kind, with so many texts behind its glob.
type form struct{ kind, texts int }

// forms answers the form of each word that a line may begin with; no two are of one Kind.
func forms() map[string]form {
	return map[string]form{
		"replace": {api.Replace, 2},
		"insert":  {api.Insert, 2},
		"strike":  {api.Strike, 1},
		"rename":  {api.Rename, 2},
		"remove":  {api.Remove, 0},
	}
}

// formOf answers the form of a Kind, and its word; nothing, if there is none.
func formOf(kind int) (string, form) {
	for word, f := range forms() {
		if f.kind == kind {
			return word, f
		}
	}
	return "", form{}
}

// has tells whether as many words stand behind the first one as the form has: a glob, and its texts.
func (f form) has(words []string) bool {
	return len(words) == 1+f.texts
}

// read answers the rule of that glob and these texts, which stand there quoted; false, if there is none that may be.
func (f form) read(glob string, quoted ...string) (api.Rule, bool) {
	r := api.Rule{Kind: f.kind, Glob: glob}
	for i, text := range f.places(&r) {
		s, is := Unquote(quoted[i])
		if !is {
			return api.Rule{}, false
		}
		*text = s
	}
	return r, Right(r)
}

// write answers the line of r, which begins with that word.
func (f form) write(word string, r api.Rule) string {
	words := []string{word, r.Glob}
	for _, text := range f.places(&r) {
		words = append(words, Quote(*text))
	}
	return strings.Join(words, blank)
}

// places answers where in r the form's texts are.
func (f form) places(r *api.Rule) []*string {
	return []*string{&r.Old, &r.New}[:f.texts]
}

// wordsOf answers what lies between the blanks of a line, also what has no byte.
func wordsOf(line string) []string {
	var l []string
	for word := range strings.SplitSeq(line, blank) {
		l = append(l, word)
	}
	return l
}
