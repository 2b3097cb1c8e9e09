package rule_test

import (
	"fmt"
	"math"
	"strings"
	"testing"

	"quilter/api"
	"quilter/rule"
)

// of answers a rule of these texts; those that are left out have no byte.
func of(kind int, glob string, texts ...string) api.Rule {
	texts = append(texts, "", "")
	return api.Rule{Kind: kind, Glob: glob, Old: texts[0], New: texts[1]}
}

// a answers a row of that letter, so many bytes long.
func a(n int) string {
	return strings.Repeat("a", n)
}

// longPath answers a path of n bytes, n being odd.
func longPath(n int) string {
	return strings.Repeat("a/", n/2) + "b"
}

// short answers the beginning of s.
func short(s string) string {
	return s[:min(len(s), 60)]
}

// show answers all that stands in l, and nothing of how it is kept.
func show(l []api.Rule) string {
	var b strings.Builder
	for _, r := range l {
		fmt.Fprintf(&b, "%d %q %q %q; ", r.Kind, short(r.Glob), short(r.Old), short(r.New))
	}
	return b.String()
}

// signs are all that a token may have.
const signs = "abcdefghijklmnopqrstuvwxyzABCDEFGHIJKLMNOPQRSTUVWXYZ0123456789_"

func TestToken(t *testing.T) {
	for i := range 256 {
		first := string([]byte{byte(i)})
		right := strings.Contains(signs, first)
		if rule.Token(first) != right {
			t.Errorf("Token(%q) = %t", first, !right)
		}
		for j := range 256 {
			second := string([]byte{byte(j)})
			if rule.Token(first+second) != (right && strings.Contains(signs, second)) {
				t.Errorf("Token(%q) = %t", first+second, rule.Token(first+second))
			}
		}
	}
	for n := range 300 {
		if rule.Token(a(n)) != (n > 0) {
			t.Errorf("Token of %d bytes = %t", n, n == 0)
		}
	}
	for i := range 20 {
		for _, c := range []string{"-", "\u00e9", "\xff", " "} {
			if s := a(i) + c + a(20-i); rule.Token(s) {
				t.Errorf("Token(%q) = true", s)
			}
		}
	}
	for s, want := range map[string]bool{
		"A_9": true, "_": true, "__": true, "0": true, "9a": true, "replace": true, signs: true, a(1 << 16): true,
		"": false, " ": false, "a b": false, " a": false, "a ": false, "a-b": false, "a.b": false, "a/b": false, "a%": false, "%": false, "a\n": false, "\na": false, "*": false, "\x00": false,
		// letters and digits of other scripts are none of these
		"\u00e9": false, "a\u00df": false, "\u0391": false, "\u0663": false, "\uff41": false, "\u0131": false, "\u212a": false, "\ufffd": false, "\xc3": false, "a\xa9": false,
		a(1<<16) + "-": false,
	} {
		if rule.Token(s) != want {
			t.Errorf("Token(%q) = %t", short(s), !want)
		}
	}
}

func TestRight(t *testing.T) {
	for _, r := range []api.Rule{
		// a token by anything
		of(api.Replace, "**", "a", "b"), of(api.Replace, "**", "a", ""), of(api.Replace, "**", "a", "a"), of(api.Replace, "a/*.go", "A_9", "x y\n%\x00\xff"), of(api.Replace, "*", "_", "\n"),
		of(api.Replace, "*", a(100), a(100)), of(api.Replace, "?", "0", strings.Repeat("\n", 100)), of(api.Replace, "?", "0", strings.Repeat("\u00e9", 50)),
		// a line behind another
		of(api.Insert, "*", "a", "b"), of(api.Insert, "*", "", ""), of(api.Insert, "*", "", "x"), of(api.Insert, "*", "x", ""), of(api.Insert, "*", "a b%\x00\xff\r", "\t c/"), of(api.Insert, "*", a(100), a(100)), of(api.Insert, "*", "a", "a"),
		// a line
		of(api.Strike, "*", "a"), of(api.Strike, "*", ""), of(api.Strike, "*", "a b%\x00\xff\r"), of(api.Strike, "*", a(100)),
		// paths
		of(api.Rename, "**", "a/b", "c"), of(api.Rename, "**", "a", "a"), of(api.Rename, "**", "a", "a/b"), of(api.Rename, "**", "...", "-.A_9"), of(api.Rename, "**", longPath(99), longPath(99)), of(api.Rename, "**", longPath(97)+"bcd", longPath(97)+"/bc"), of(api.Rename, "**", a(30), a(30)),
		// nothing
		of(api.Remove, "d/**"), of(api.Remove, "**"), of(api.Remove, "a"), of(api.Remove, longPath(99)), of(api.Remove, longPath(97)+"/b?"), of(api.Remove, strings.Repeat("*?", 15)),
	} {
		if !rule.Right(r) {
			t.Errorf("Right(%s) = false", show([]api.Rule{r}))
		}
	}
}

// wrong answers rules that may not be, each for one reason.
func wrong() []api.Rule {
	l := []api.Rule{
		of(api.Replace, "**", "", "b"), of(api.Replace, "**", "", ""), of(api.Replace, "**", "a-b", "c"), of(api.Replace, "**", "a b", "c"), of(api.Replace, "**", "a\n", "c"), of(api.Replace, "**", "\u00e9", "c"), of(api.Replace, "**", "\xff", "c"), of(api.Replace, "**", "%", "c"), of(api.Replace, "**", "a/b", "c"),
		of(api.Replace, "**", a(101), "b"), of(api.Replace, "**", "a", a(101)), of(api.Replace, "**", "a", strings.Repeat("\u00e9", 51)), of(api.Replace, "**", "a", a(1<<16)), of(api.Replace, "**", a(1<<16), "b"),
		of(api.Insert, "**", "\n", "b"), of(api.Insert, "**", "a\n", "b"), of(api.Insert, "**", "\na", "b"), of(api.Insert, "**", "a\nb", "c"), of(api.Insert, "**", "a", "\n"), of(api.Insert, "**", "a", "b\n"), of(api.Insert, "**", "a", "b\nc"), of(api.Insert, "**", "", "\n"), of(api.Insert, "**", "\n", ""), of(api.Insert, "**", a(101), "b"), of(api.Insert, "**", "a", a(101)),
		of(api.Strike, "**", "\n"), of(api.Strike, "**", "a\n"), of(api.Strike, "**", "a\nb"), of(api.Strike, "**", "a", "b"), of(api.Strike, "**", "", "b"), of(api.Strike, "**", "a", "a"), of(api.Strike, "**", "a", "\n"), of(api.Strike, "**", "a", "\x00"), of(api.Strike, "**", a(101)), of(api.Strike, "**", "a", a(101)),
		of(api.Rename, "**", "", ""), of(api.Rename, "**", "", "b"), of(api.Rename, "**", "a", ""), of(api.Rename, "**", "a/", "b"), of(api.Rename, "**", "a", "b/"), of(api.Rename, "**", "/a", "b"), of(api.Rename, "**", "a", "/b"), of(api.Rename, "**", "a//b", "c"), of(api.Rename, "**", "a", "b/../c"), of(api.Rename, "**", ".", "b"), of(api.Rename, "**", "a", ".."), of(api.Rename, "**", "*", "b"), of(api.Rename, "**", "a", "*"), of(api.Rename, "**", "a b", "c"), of(api.Rename, "**", "a", "b\n"), of(api.Rename, "**", a(31), "b"), of(api.Rename, "**", "a", a(31)), of(api.Rename, "**", longPath(101), "b"), of(api.Rename, "**", "a", longPath(101)),
		of(api.Remove, "**", "a"), of(api.Remove, "**", "", "a"), of(api.Remove, "**", "a", "b"), of(api.Remove, "**", "\x00"), of(api.Remove, "**", "", "\n"), of(api.Remove, "**", a(101)),
		{},
	}
	for _, kind := range []int{0, 6, 7, -1, -5, 10, 256 + 1, 1 << 32, 1<<32 + 1, math.MaxInt, math.MinInt} {
		l = append(l, of(kind, "**", "a", "b"), of(kind, "**", "a"), of(kind, "**"))
	}
	for _, glob := range []string{"", "/", "/a", "a/", "a//b", ".", "..", "a/..", "***", "a**", "**a", "a b", "[a]", "\u00e9", "\xff", "\x00", "*\n", "%", a(31), longPath(101), longPath(99) + "/*"} {
		l = append(l, of(api.Replace, glob, "a", "b"), of(api.Insert, glob, "a", "b"), of(api.Strike, glob, "a"), of(api.Rename, glob, "a", "b"), of(api.Remove, glob))
	}
	return l
}

func TestRightWrong(t *testing.T) {
	for _, r := range wrong() {
		if rule.Right(r) {
			t.Errorf("Right(%s) = true", show([]api.Rule{r}))
		}
	}
}

// TestRightBounds asks each kind for texts of each length.
func TestRightBounds(t *testing.T) {
	for n := range 300 {
		for _, kind := range []int{api.Replace, api.Insert, api.Strike} {
			want := n <= 100 && (n > 0 || kind != api.Replace)
			if rule.Right(of(kind, "*", a(n))) != want {
				t.Errorf("Right of kind %d, and %d bytes = %t", kind, n, !want)
			}
		}
		for _, kind := range []int{api.Replace, api.Insert} {
			if rule.Right(of(kind, "*", "a", a(n))) != (n <= 100) {
				t.Errorf("Right of kind %d, a, and %d bytes = %t", kind, n, n > 100)
			}
		}
	}
}

func TestQuote(t *testing.T) {
	for s, want := range map[string]string{
		"": "%", "a": "a", "%": "%25", " ": "%20", "!": "!", "~": "~", "\x7f": "%7f", "\x00": "%00", "\xff": "%ff", "\n": "%0a", "\t": "%09", "\r\n": "%0d%0a",
		" \x7f%": "%20%7f%25", "a b%": "a%20b%25", "%41": "%2541", "%%": "%25%25", "  ": "%20%20", "a/b.c": "a/b.c", "#\"'\\&$": "#\"'\\&$",
		"\u00e9": "%c3%a9", "\u20ac": "%e2%82%ac", "\U0001f600": "%f0%9f%98%80", "\ufffd": "%ef%bf%bd", "\xc3": "%c3", "\xa9\xc3": "%a9%c3", "a\xe2\x82b": "a%e2%82b", "\xed\xa0\x80": "%ed%a0%80",
	} {
		if got := rule.Quote(s); got != want {
			t.Errorf("Quote(%q) = %q, want %q", s, got, want)
		}
		if got, is := rule.Unquote(want); !is || got != s {
			t.Errorf("Unquote(%q) = %q, %t", want, got, is)
		}
	}
}

// TestQuoteOfAllBytes asks for each byte, alone and between others, and for all two.
func TestQuoteOfAllBytes(t *testing.T) {
	var quotes [256]string
	for i := range quotes {
		quotes[i] = fmt.Sprintf("%%%02x", i)
		if i >= 0x21 && i <= 0x7e && i != '%' {
			quotes[i] = string([]byte{byte(i)})
		}
		s := string([]byte{byte(i)})
		if got := rule.Quote(s); got != quotes[i] {
			t.Errorf("Quote(%q) = %q", s, got)
		}
		if got := rule.Quote("a" + s + "%z"); got != "a"+quotes[i]+"%25z" {
			t.Errorf("Quote(%q) = %q", "a"+s+"%z", got)
		}
	}
	for i := range quotes {
		for j := range quotes {
			s := string([]byte{byte(i), byte(j)})
			if got := rule.Quote(s); got != quotes[i]+quotes[j] {
				t.Errorf("Quote(%q) = %q", s, got)
			}
			if got, is := rule.Unquote(quotes[i] + quotes[j]); !is || got != s {
				t.Errorf("Unquote(%q) = %q, %t", quotes[i]+quotes[j], got, is)
			}
		}
	}
}

// TestUnquoteOfAllDigits asks for all two signs behind the mark: just those that Quote writes have a text.
func TestUnquoteOfAllDigits(t *testing.T) {
	const small = "0123456789abcdef"
	for i := range 256 {
		for j := range 256 {
			s := string([]byte{'%', byte(i), byte(j)})
			high, low := strings.IndexByte(small, byte(i)), strings.IndexByte(small, byte(j))
			n := high*16 + low
			want := high >= 0 && low >= 0 && (n < 0x21 || n > 0x7e || n == '%')
			text := ""
			if want {
				text = string([]byte{byte(n)})
			}
			if got, is := rule.Unquote(s); is != want || got != text {
				t.Errorf("Unquote(%q) = %q, %t", s, got, is)
			}
		}
	}
}

func TestUnquoteWrong(t *testing.T) {
	for _, s := range []string{
		"", " ", "a b", " a", "a ", "\n", "a\n", "\t", "\x7f", "\x00", "\xff", "\u00e9", "a\u00e9",
		"%%", "%%%", "a%", "%a", "%2", "a%2", "%20%", "%20%2", "%a%20", "% 20", "%2 0", "%2A", "%C3", "%fF", "%0A", "%g0", "%0g", "%+1", "%-1", "%0x", "%_1", "%x0a", "%.5",
		"%41", "%61", "%7e", "%21", "%30", "%5f", "a%61", "%61a", "%20%61", "%61%20", "%%20", "%%25", "%25%", "%2525%", "%20 ", "%\u00e9", "%2\u00e9",
		a(1<<16) + "%", a(1<<16) + "%61", strings.Repeat("%", 1<<16), strings.Repeat("%61", 1<<15),
	} {
		if got, is := rule.Unquote(s); is || got != "" {
			t.Errorf("Unquote(%q) = %q, %t", short(s), short(got), is)
		}
	}
	for s, want := range map[string]string{"%": "", "%25": "%", "%2561": "%61", "%2525": "%25", "a%20b": "a b", "%00%ff": "\x00\xff", "%c3%a9": "\u00e9", "20": "20", "a": "a", a(1 << 16): a(1 << 16), strings.Repeat("%20", 1<<15): strings.Repeat(" ", 1<<15)} {
		if got, is := rule.Unquote(s); !is || got != want {
			t.Errorf("Unquote(%q) = %q, %t", short(s), short(got), is)
		}
	}
}
