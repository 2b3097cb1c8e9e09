package rule

import "strings"

const (
	// mark stands ahead of the two digits of a byte that is not itself; alone it is the quote of a text without a byte.
	mark   = '%'
	digits = "0123456789abcdef"
)

// Quote answers s as a word: one byte at least, and all of them to be seen.
func Quote(s string) string {
	if s == "" {
		return string(mark)
	}
	var b strings.Builder
	for _, c := range []byte(s) {
		if itself(c) {
			b.WriteByte(c)
			continue
		}
		b.WriteByte(mark)
		b.WriteByte(digits[c>>4])
		b.WriteByte(digits[c&15])
	}
	return b.String()
}

// Unquote answers the text of which s is the quote; false, if there is none.
func Unquote(s string) (string, bool) {
	if s == string(mark) {
		return "", true
	}
	var b strings.Builder
	for rest := s; rest != ""; {
		c, size := byteOf(rest)
		b.WriteByte(c)
		rest = rest[size:]
	}
	// What was read may have been written otherwise than Quote writes it.
	if text := b.String(); Quote(text) == s {
		return text, true
	}
	return "", false
}

// itself tells whether the byte c stands for itself in a quote.
func itself(c byte) bool {
	return '!' <= c && c <= '~' && c != mark
}

// byteOf answers the byte with which s, which has one, begins as a quote, and how many bytes of s stand for it.
func byteOf(s string) (byte, int) {
	if s[0] == mark && len(s) > 2 {
		high, low := strings.IndexByte(digits, s[1]), strings.IndexByte(digits, s[2])
		if high >= 0 && low >= 0 {
			return byte(high<<4 | low), 3
		}
	}
	return s[0], 1
}
