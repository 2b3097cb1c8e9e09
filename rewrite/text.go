package rewrite

import (
	"iter"
	"strings"

	"quilter/api"
	"quilter/rule"
)

const lineFeed = "\n"

// text is a file's bytes, as far as rules have changed them.
type text struct {
	pieces rows[string] // what stands in one line; an item may be several lines, a line feed between
	lines  rows[int]    // whole lines: each item is the place of a piece, and a line feed
	whole  int          // the place of all lines that have a line feed
	rest   int          // the place of the piece behind them
}

// stretch is what stands between any two places of a text: if it has a line feed (fed), the piece ahead of the first one, lines, and the piece behind the last one; if it has none, head alone.
type stretch struct {
	head  int
	fed   bool
	lines int
	tail  int
}

// changes answers what a rule of each Kind does to a text; others do nothing to it.
func changes() map[int]func(*text, api.Rule) {
	return map[int]func(*text, api.Rule){
		api.Replace: func(t *text, r api.Rule) { t.replace(r.Old, r.New) },
		api.Insert:  func(t *text, r api.Rule) { t.exchange(r.Old, r.Old, r.New) },
		api.Strike:  func(t *text, r api.Rule) { t.exchange(r.Old) },
	}
}

// textOf answers the text of these bytes.
func textOf(b []byte) *text {
	t := &text{pieces: newRows[string](), lines: newRows[int]()}
	t.add(t.stretch(string(b)))
	return t
}

// size answers how many bytes t has; huge, if they are that many, or more.
func (t *text) size() int {
	return min(t.lines.sizes[t.whole]+t.pieces.sizes[t.rest], huge)
}

// bytes answers all that t has.
func (t *text) bytes() []byte {
	b := make([]byte, 0, t.size())
	for piece := range t.lines.items(t.whole) {
		for s := range t.pieces.items(piece) {
			b = append(b, s...)
		}
		b = append(b, lineFeed...)
	}
	for s := range t.pieces.items(t.rest) {
		b = append(b, s...)
	}
	return b
}

// apply changes t as the rule does.
func (t *text) apply(r api.Rule) {
	change, is := changes()[r.Kind]
	if !is {
		return
	}
	change(t, r)
	// Many small pieces are slow: they are worth it only where there are more bytes than a file may have.
	if t.size() <= api.MaxBody {
		*t = *textOf(t.bytes())
	}
}

// replace puts other in the place of each token that is old.
func (t *text) replace(old string, other string) {
	x := textOf(nil)
	by := x.stretch(other)
	pieces := fold(t.pieces, func(s string) stretch { return x.replaced(s, old, by) }, x.cat)
	lines := fold(t.lines, func(piece int) int { return x.fed(pieces[piece]) }, x.lines.join)
	x.whole = lines[t.whole]
	x.add(pieces[t.rest])
	*t = *x
}

// replaced answers s with by in the place of each token that is old. So no token lies in two pieces, ever: what was beside one is no byte of a token.
func (t *text) replaced(s string, old string, by stretch) stretch {
	var l []stretch
	from := 0
	for begin, end := range tokens(s) {
		if s[begin:end] == old {
			l = append(l, t.stretch(s[from:begin]), by)
			from = end
		}
	}
	return joined(append(l, t.stretch(s[from:])), t.cat)
}

// exchange puts other lines in the place of each line that is old.
func (t *text) exchange(old string, others ...string) {
	x := &text{pieces: t.pieces, lines: newRows[int](), rest: t.rest}
	s := x.stretch(strings.Join(others, lineFeed))
	by := none
	if len(others) > 0 {
		by = x.fed(s)
	}
	lines := fold(t.lines, func(piece int) int { return x.exchanged(piece, old, by) }, x.lines.join)
	x.whole = lines[t.whole]
	if x.rest != none && x.is(x.rest, old) {
		x.rest = none
		x.add(s)
	}
	*t = *x
}

// exchanged answers a piece and a line feed, with by in the place of each line that is old.
func (t *text) exchanged(piece int, old string, by int) int {
	s, one := t.pieces.one(piece)
	switch {
	case one:
		return t.exchangedIn(s, old, by)
	case t.is(piece, old):
		return by
	}
	return t.line(piece)
}

// exchangedIn answers s and a line feed, with by in the place of each line that is old.
func (t *text) exchangedIn(s string, old string, by int) int {
	var l []int
	from, begin := 0, 0
	keep := func() {
		if from < begin {
			l = append(l, t.line(t.piece(s[from:begin-len(lineFeed)])))
		}
	}
	for line := range strings.SplitSeq(s, lineFeed) {
		end := begin + len(line) + len(lineFeed)
		if line == old {
			keep()
			l = append(l, by)
			from = end
		}
		begin = end
	}
	keep()
	return joined(l, t.lines.join)
}

// is tells whether a piece is s.
func (t *text) is(piece int, s string) bool {
	if t.pieces.sizes[piece] != len(s) {
		return false
	}
	for part := range t.pieces.items(piece) {
		rest, begins := strings.CutPrefix(s, part)
		if !begins {
			return false
		}
		s = rest
	}
	return true
}

// add lays s behind all of t.
func (t *text) add(s stretch) {
	t.rest = t.pieces.join(t.rest, s.head)
	if s.fed {
		t.whole = t.lines.join(t.lines.join(t.whole, t.line(t.rest)), s.lines)
		t.rest = s.tail
	}
}

// piece answers the place of s.
func (t *text) piece(s string) int {
	if s == "" {
		return none
	}
	return t.pieces.item(s, len(s))
}

// line answers the place of a piece and a line feed.
func (t *text) line(piece int) int {
	return t.lines.item(piece, t.pieces.sizes[piece]+len(lineFeed))
}

// fed answers the place of s and a line feed, where a line begins.
func (t *text) fed(s stretch) int {
	s = t.cat(s, stretch{fed: true})
	return t.lines.join(t.line(s.head), s.lines)
}

// stretch answers s.
func (t *text) stretch(s string) stretch {
	first, last := strings.Index(s, lineFeed), strings.LastIndex(s, lineFeed)
	if first < 0 {
		return stretch{head: t.piece(s)}
	}
	x := stretch{head: t.piece(s[:first]), fed: true, tail: t.piece(s[last+1:])}
	if first < last {
		x.lines = t.line(t.piece(s[first+1 : last]))
	}
	return x
}

// cat answers a, and b behind it.
func (t *text) cat(a stretch, b stretch) stretch {
	switch {
	case !a.fed:
		b.head = t.pieces.join(a.head, b.head)
		return b
	case !b.fed:
		a.tail = t.pieces.join(a.tail, b.head)
		return a
	}
	line := t.line(t.pieces.join(a.tail, b.head))
	a.lines = t.lines.join(t.lines.join(a.lines, line), b.lines)
	a.tail = b.tail
	return a
}

// tokens tells where each row of bytes of tokens that is as long as may be begins and ends in s.
func tokens(s string) iter.Seq2[int, int] {
	return func(yield func(int, int) bool) {
		begin := 0
	bytes:
		for i := range len(s) + 1 {
			if i < len(s) && rule.Token(s[i:i+1]) {
				continue bytes
			}
			if begin < i && !yield(begin, i) {
				return
			}
			begin = i + 1
		}
	}
}
