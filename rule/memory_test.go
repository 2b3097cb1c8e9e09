package rule_test

import (
	"slices"
	"testing"

	"quilter/api"
	"quilter/rule"
)

// TestParseMemory writes over all that came out, and over the room behind it: what comes out otherwise stays.
func TestParseMemory(t *testing.T) {
	first, _ := rule.Parse(someText)
	second, _ := rule.Parse(someText)
	for i := range first[:cap(first)] {
		first[:cap(first)][i] = of(9, "!", "!", "!")
	}
	third, _ := rule.Parse(someText)
	if !slices.Equal(second, some) || !slices.Equal(third, some) {
		t.Errorf("two answers share: %s, %s", show(second), show(third))
	}
}

// TestNotChanged hands in lists with room behind them that is somebody else's.
func TestNotChanged(t *testing.T) {
	whole := append(slices.Repeat(some, 11), of(9, "behind"))
	was := slices.Clone(whole)
	for range 2 {
		if s, e := rule.Print(whole[:5]); e != api.OK || s != someText {
			t.Errorf("Print = %q, %d", s, e)
		}
		if s, e := rule.Print(whole[:55]); e != api.ErrLong || s != "" {
			t.Errorf("Print of too many = %q, %d", short(s), e)
		}
		if s, e := rule.Print(whole); e != api.ErrArg || s != "" {
			t.Errorf("Print of a wrong one = %q, %d", short(s), e)
		}
	}
	if !slices.Equal(whole, was) {
		t.Errorf("what was handed in is %s", show(whole))
	}
}

// TestNothingKept asks the same of texts that other ones stand between.
func TestNothingKept(t *testing.T) {
	for _, other := range []string{"", "remove *", "wrong", someText, "replace ** a"} {
		rule.Parse(other)
		if l, e := rule.Parse(someText); e != api.OK || !slices.Equal(l, some) {
			t.Errorf("behind %q: Parse = %s, %d", other, show(l), e)
		}
		rule.Print([]api.Rule{{Glob: other}})
		if s, e := rule.Print(some); e != api.OK || s != someText {
			t.Errorf("behind %q: Print = %q, %d", other, s, e)
		}
	}
}
