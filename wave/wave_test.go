package wave_test

import (
	"fmt"
	"slices"
	"strconv"
	"strings"
	"testing"

	"quilter/api"
	"quilter/wave"
)

// on answers a Target of these files and deps, each a text with blanks between.
func on(name string, srcs string, deps string) api.Target {
	return api.Target{Name: name, Srcs: strings.Fields(srcs), Deps: strings.Fields(deps)}
}

// at answers a Shard of that ring, of one file.
func at(id int, ring string) api.Shard {
	return api.Shard{ID: id, Owners: []string{"ann"}, Ring: ring, Paths: []string{"p" + strconv.Itoa(id)}}
}

// shards answers a Shard of each ring, each a word of rings, `-` of none.
func shards(rings string) []api.Shard {
	var l []api.Shard
	for i, ring := range strings.Fields(rings) {
		l = append(l, at(i+1, strings.TrimSuffix(ring, "-")))
	}
	return l
}

// numbers answers the numbers of s.
func numbers(s string) []int {
	var l []int
	for _, w := range strings.Fields(s) {
		n, err := strconv.Atoi(w)
		if err != nil {
			panic(err)
		}
		l = append(l, n)
	}
	return l
}

// plan answers a Plan of as many Shards as there are waves, and these needs.
func plan(waves string, needs ...string) api.Plan {
	p := api.Plan{Waves: numbers(waves)}
	for i := range p.Waves {
		p.Shards = append(p.Shards, at(i+1, ""))
	}
	for _, s := range needs {
		p.Needs = append(p.Needs, numbers(s))
	}
	return p
}

// show answers all that stands in p.
func show(p api.Plan) string {
	var out []string
	for _, s := range p.Shards {
		out = append(out, fmt.Sprintf("%d %q %q %q", s.ID, s.Owners, s.Ring, s.Paths))
	}
	return fmt.Sprintf("%s | %v | %v", strings.Join(out, "; "), p.Waves, p.Needs)
}

// short answers the beginning of s.
func short(s string) string {
	return s[:min(len(s), 2000)]
}

// told asks that Of tells the Shards as they are, and just these waves and needs.
func told(t *testing.T, targets []api.Target, l []api.Shard, waves string, needs ...string) {
	t.Helper()
	want := plan(waves, needs...)
	want.Shards = l
	got := wave.Of(targets, l)
	if show(got) != show(want) || !wave.Same(got, want) {
		t.Errorf("Of(%v) = %s; want %s", targets, short(show(got)), short(show(want)))
	}
}

func TestOf(t *testing.T) {
	told(t, nil, nil, "")
	told(t, []api.Target{}, []api.Shard{}, "")
	told(t, []api.Target{on(":x", "", "")}, nil, "")
	told(t, nil, shards(":x - :y"), "0 0 0", "", "", "")
	told(t, []api.Target{on(":x", "", "")}, shards(":x"), "0", "")
	// the chapter's own example
	told(t, []api.Target{on(":x", "a", ":y"), on(":y", "b", "")}, shards(":x :y"), "1 0", "2", "")
	told(t, []api.Target{on(":x", "a", ":y"), on(":y", "b", "")}, shards(":y :x"), "0 1", "", "1")
	// what stands on it itself needs nothing by that
	told(t, []api.Target{on(":x", "", ":x")}, shards(":x :x"), "0 0", "", "")
	// far behind: a wave each, whether a shard is of it or not, and all further ones are needed
	l := []api.Target{on(":a", "", ":b"), on(":b", "", ":c"), on(":c", "", ":d"), on(":d", "", "")}
	told(t, l, shards(":a :b :c :d"), "3 2 1 0", "2 3 4", "3 4", "4", "")
	told(t, l, shards(":d :a"), "0 3", "", "1")
	told(t, l, shards(":b :a :c"), "2 3 1", "3", "1 3", "")
	// by the longest way
	l = []api.Target{on(":a", "", ":d :b"), on(":b", "", ":c :d"), on(":c", "", ":d"), on(":d", "", ""), on(":e", "", ":d")}
	told(t, l, shards(":a :b :c :d :e"), "3 2 1 0 1", "2 3 4", "3 4", "4", "", "4")
	// both ways to one
	l = []api.Target{on(":a", "", ":b :c"), on(":b", "", ":d"), on(":c", "", ":d"), on(":d", "", "")}
	told(t, l, shards(":d :c :b :a"), "0 1 1 2", "", "1", "1", "1 2 3")
	// several of one ring need the same, and not one another
	told(t, l, shards(":a :b :a :b :d :d"), "2 1 2 1 0 0", "2 4 5 6", "5 6", "2 4 5 6", "5 6", "", "")
}

// TestOfRings asks of targets that stand on one another.
func TestOfRings(t *testing.T) {
	l := []api.Target{on(":a", "", ":b :c"), on(":b", "", ":c"), on(":c", "", ":b :d"), on(":d", "", ":e"), on(":e", "", ":f"), on(":f", "", ":e")}
	told(t, l, shards(":a :b :d :e"), "3 2 1 0", "2 3 4", "3 4", "4", "")
	told(t, l, shards(":e :d :b :a"), "0 1 2 3", "", "1", "1 2", "1 2 3")
	// a ring that is not told by its least target is one of another name
	told(t, l, shards(":b :c :e :f"), "2 2 0 0", "2 3 4", "1 3 4", "4", "3")
	told(t, l, shards(":c :f :c"), "2 0 2", "2", "", "2")
}

// TestOfNoNode asks of rings that are no targets.
func TestOfNoNode(t *testing.T) {
	l := []api.Target{on(":x", "", ":y"), on(":y", "", ""), on("d:x", "", ":x")}
	told(t, l, shards("- :x - :y"), "0 1 0 0", "", "4", "", "")
	told(t, l, shards(":z d:x :q"), "0 2 0", "", "", "")
	told(t, l, []api.Shard{at(1, "x"), at(2, ":x"), at(3, ":"), at(4, ":y "), at(5, "D:x"), at(6, ":xy"), at(7, ":y")}, "0 1 0 0 0 0 0", "", "7", "", "", "", "", "")
	// what has no byte is no node, even if there is a target of that name; to others it is there
	l = []api.Target{{Name: "", Deps: []string{":y"}}, {Name: ":x", Deps: []string{""}}, on(":y", "", "")}
	told(t, l, shards("- :x :y"), "0 2 0", "", "3", "")
	// what is not there is not stood on
	told(t, []api.Target{on(":x", "", ":q :y :z"), on(":y", "", "")}, shards(":x :q :y"), "1 0 0", "3", "", "")
	// any texts
	l = []api.Target{{Name: "\xff", Deps: []string{" "}}, {Name: " ", Deps: []string{"\ufffd"}}, {Name: "\ufffd"}}
	told(t, l, []api.Shard{at(1, "\xff"), at(2, " "), at(3, "\ufffd")}, "2 1 0", "2 3", "3", "")
}

// TestOfTwoOfOneName asks it of targets of one name: the first one is the node.
func TestOfTwoOfOneName(t *testing.T) {
	l := []api.Target{on(":x", "", ":y"), on(":y", "", ""), on(":x", "", ":z"), on(":z", "", ":x"), on(":y", "", ":z")}
	told(t, l, shards(":x :y :z"), "1 0 2", "2", "", "1 2")
	// the second one is of another ring than the first one, and deeper
	l = []api.Target{on(":x", "", ""), on(":x", "", ":y"), on(":y", "", ":x")}
	told(t, l, shards(":x :y"), "0 1", "", "1")
	told(t, slices.Concat(l[1:], l[:1]), shards(":x :y"), "0 0", "2", "1")
}

// TestOfAnyShards asks that Shards are taken as they are.
func TestOfAnyShards(t *testing.T) {
	l := []api.Target{on(":x", "", ":y"), on(":y", "", "")}
	// IDs in the order of the Shards, whatever they are, and however often
	told(t, l, []api.Shard{at(7, ":y"), at(-3, ":y"), at(5, ":x"), at(7, ":y"), at(5, ":y"), at(0, ":y")}, "0 0 1 0 0 0", "", "", "7 -3 7 5 0", "", "", "")
	// all fields
	told(t, l, []api.Shard{{ID: 2, Owners: []string{"b", "a", "a"}, Ring: ":x", Paths: []string{"d/b", "", "a"}}, {Owners: []string{""}}, {Ring: ":y", Paths: []string{"z"}}}, "1 0 0", "0", "", "")
}

func TestRight(t *testing.T) {
	for _, p := range []api.Plan{
		{},
		{Shards: []api.Shard{}, Waves: []int{}, Needs: [][]int{}},
		plan("0", ""),
		plan("7", ""),
		plan("0 0", "", ""),
		plan("0 1", "", "1"),
		plan("1 0", "2", ""),
		plan("9 8", "2", ""),
		plan("0 1 2", "", "1", "2"),
		plan("0 1 2", "", "1", "1 2"),
		plan("0 0 1", "", "", "1 2"),
		plan("1 1 0 9", "3", "3", "", "1 2 3"),
		// a wave may be without any
		plan("0 5 1 3", "", "1 3 4", "", "1 3"),
		{Shards: []api.Shard{{ID: 1, Owners: []string{"b", "a"}, Ring: "\n", Paths: []string{"/", "/"}}}, Waves: []int{0}, Needs: [][]int{{}}},
	} {
		if !wave.Right(p) {
			t.Errorf("Right(%s) = false", show(p))
		}
	}
}

// wrongs answers Plans that are not Right.
func wrongs() []api.Plan {
	l := []api.Plan{
		plan("0"),
		plan("0 1", ""),
		plan("0 1", "", "1", ""),
		plan("0", "", ""),
		plan("", ""),
		{Waves: []int{0}},
		{Needs: [][]int{nil}},
		{Waves: []int{0}, Needs: [][]int{nil}},
		{Shards: []api.Shard{{ID: 1}}},
		{Shards: []api.Shard{{ID: 1}}, Waves: []int{0}},
		{Shards: []api.Shard{{ID: 1}}, Needs: [][]int{nil}},
		{Shards: []api.Shard{{ID: 1}}, Waves: []int{0, 0}, Needs: [][]int{nil}},
		{Shards: []api.Shard{{ID: 1}}, Waves: []int{0, 0}, Needs: [][]int{nil, nil}},
		{Shards: []api.Shard{{ID: 1}, {ID: 2}}, Waves: []int{0}, Needs: [][]int{nil, nil}},
		plan("-1", ""),
		plan("0 -1", "", ""),
		plan("-1 0", "", "1"),
		plan("0 0", "", "1"),
		plan("0 0", "2", ""),
		plan("0 1", "2", ""),
		plan("1 0", "", "1"),
		plan("0 1", "", "2"),
		plan("0 1", "", "0"),
		plan("0 1", "", "-1"),
		plan("0 1", "", "3"),
		plan("0 1", "", "1 3"),
		plan("0 1", "", "0 1"),
		plan("0 1", "", "1 1"),
		plan("0 0 1", "", "", "2 1"),
		plan("0 0 1", "", "", "1 2 2"),
		plan("0 0 1", "", "", "1 2 1"),
		plan("0 1 1", "", "", "1 2"),
		plan("1 1 1 0", "4", "4", "2", ""),
	}
	for _, ids := range []string{"0", "2", "-1", "1 1", "2 1", "1 3", "0 1", "1 2 2", "1 2 4"} {
		var p api.Plan
		for _, id := range numbers(ids) {
			p.Shards, p.Waves, p.Needs = append(p.Shards, at(id, "")), append(p.Waves, 0), append(p.Needs, nil)
		}
		l = append(l, p)
	}
	return l
}

// TestWrong asks that of Plans that are not Right nothing is told.
func TestWrong(t *testing.T) {
	for _, p := range wrongs() {
		if wave.Right(p) {
			t.Errorf("Right(%s) = true", show(p))
		}
		if got := wave.Order(p); len(got) > 0 {
			t.Errorf("Order(%s) = %v", show(p), got)
		}
		for id := -1; id < 6; id++ {
			if got := wave.Behind(p, id); len(got) > 0 {
				t.Errorf("Behind(%s, %d) = %v", show(p), id, got)
			}
		}
	}
}

// ordered asks that Order tells just want.
func ordered(t *testing.T, p api.Plan, want string) {
	t.Helper()
	if got := wave.Order(p); !slices.Equal(got, numbers(want)) {
		t.Errorf("Order(%s) = %v; want %s", show(p), got, want)
	}
}

func TestOrder(t *testing.T) {
	ordered(t, api.Plan{}, "")
	ordered(t, plan("0", ""), "1")
	ordered(t, plan("0 0 0", "", "", ""), "1 2 3")
	ordered(t, plan("2 1 0", "", "", ""), "3 2 1")
	ordered(t, plan("2 0 2 1 0 2", "", "", "2", "", "", "4 5"), "2 5 4 1 3 6")
	ordered(t, plan("10 9 100 9", "", "", "", ""), "2 4 1 3")
	ordered(t, plan("0 1 2", "", "1", "2"), "1 2 3")
	ordered(t, plan("2 1 0", "2", "3", ""), "3 2 1")
	ordered(t, plan("9223372036854775807 0 9223372036854775806", "2 3", "", "2"), "2 3 1")
	// more than are sorted one by one
	var waves []string
	for i := range 40 {
		waves = append(waves, strconv.Itoa(i%3))
	}
	var want []int
	for w := range 3 {
		for id := w + 1; id <= 40; id += 3 {
			want = append(want, id)
		}
	}
	if got := wave.Order(plan(strings.Join(waves, " "), make([]string, 40)...)); !slices.Equal(got, want) {
		t.Errorf("Order = %v; want %v", got, want)
	}
}

// behind asks that Behind tells just want.
func behind(t *testing.T, p api.Plan, id int, want string) {
	t.Helper()
	if got := wave.Behind(p, id); !slices.Equal(got, numbers(want)) {
		t.Errorf("Behind(%s, %d) = %v; want %s", show(p), id, got, want)
	}
}

func TestBehind(t *testing.T) {
	behind(t, api.Plan{}, 0, "")
	behind(t, api.Plan{}, 1, "")
	behind(t, plan("0", ""), 1, "")
	behind(t, plan("0 1", "", "1"), 1, "2")
	behind(t, plan("0 1", "", "1"), 2, "")
	// one behind the other, either way round
	for id, want := range []string{"", "2 3 4", "3 4", "4", "", ""} {
		behind(t, plan("0 1 2 3", "", "1", "2", "3"), id, want)
	}
	for id, want := range []string{"", "", "1", "1 2", "1 2 3", ""} {
		behind(t, plan("3 2 1 0", "2", "3", "4", ""), id, want)
	}
	// in turns, so that neither goes up alone
	for id, want := range []string{"", "3 5", "1 3 4 5", "5", "1 3 5", "", ""} {
		behind(t, plan("2 0 3 1 4", "4", "", "1", "2", "3"), id, want)
	}
	// what needs several, and of two that know nothing of one another
	p := plan("0 0 1 1 2 0 1", "", "", "1 2", "2", "3 4", "", "6")
	for id, want := range []string{"", "3 5", "3 4 5", "5", "5", "", "7", "", ""} {
		behind(t, p, id, want)
	}
	// what is of a later wave, but needs nothing of it
	behind(t, plan("0 0 1 2", "", "", "2", "2"), 1, "")
	// no ID of it
	for _, id := range []int{-1, 0, 8, 9, 1 << 40, -1 << 63, 1<<63 - 1} {
		behind(t, p, id, "")
	}
}

// different answers Plans no two of which are the same.
func different() []api.Plan {
	base := func() api.Plan {
		p := plan("0 1 2", "", "1", "1 2")
		for i := range p.Shards {
			p.Shards[i] = api.Shard{ID: i + 1, Owners: []string{"a", "b"}, Ring: ":x", Paths: []string{"p", "q"}}
		}
		return p
	}
	l := []api.Plan{base(), {}, plan("0", ""), plan("0 0", "", ""), plan("1", ""), plan("0", "1"), plan("0"), plan("0", "", ""), plan("0 0", "")}
	for _, change := range []func(p *api.Plan){
		func(p *api.Plan) { p.Shards = p.Shards[:2] },
		func(p *api.Plan) { p.Shards = p.Shards[1:] },
		func(p *api.Plan) { p.Shards = nil },
		func(p *api.Plan) { p.Shards[0].ID = 0 },
		func(p *api.Plan) { p.Shards[2].ID = 4 },
		func(p *api.Plan) { p.Shards[1].Ring = ":y" },
		func(p *api.Plan) { p.Shards[1].Owners = []string{"a", "c"} },
		func(p *api.Plan) { p.Shards[1].Owners = nil },
		func(p *api.Plan) { p.Shards[2].Paths = []string{"p"} },
		func(p *api.Plan) { p.Shards[0].Paths = []string{"r", "q"} },
		func(p *api.Plan) { p.Waves = p.Waves[:2] },
		func(p *api.Plan) { p.Waves = p.Waves[1:] },
		func(p *api.Plan) { p.Waves = nil },
		func(p *api.Plan) { p.Waves[0] = 7 },
		func(p *api.Plan) { p.Waves[2] = -2 },
		func(p *api.Plan) { p.Needs = p.Needs[:2] },
		func(p *api.Plan) { p.Needs = p.Needs[1:] },
		func(p *api.Plan) { p.Needs = nil },
		func(p *api.Plan) { p.Needs[0] = []int{0} },
		func(p *api.Plan) { p.Needs[1] = nil },
		func(p *api.Plan) { p.Needs[1] = []int{1, 1} },
		func(p *api.Plan) { p.Needs[2] = []int{2, 1} },
		func(p *api.Plan) { p.Needs[2] = []int{1, 3} },
		func(p *api.Plan) { p.Needs = append(p.Needs, nil) },
	} {
		p := base()
		change(&p)
		l = append(l, p)
	}
	return l
}

func TestSame(t *testing.T) {
	for i, a := range different() {
		for j, b := range different() {
			if got := wave.Same(a, b); got != (i == j) {
				t.Errorf("Same(%s, %s) = %t", show(a), show(b), got)
			}
		}
	}
	// a list that is nil, and one that is empty, are the same
	a := api.Plan{Shards: []api.Shard{{ID: 1}}, Waves: []int{0}, Needs: [][]int{nil}}
	b := api.Plan{Shards: []api.Shard{{ID: 1, Owners: []string{}, Paths: []string{}}}, Waves: []int{0}, Needs: [][]int{{}}}
	none := api.Plan{Shards: []api.Shard{}, Waves: []int{}, Needs: [][]int{}}
	if !wave.Same(a, b) || !wave.Same(b, a) || !wave.Same(none, api.Plan{}) || !wave.Same(api.Plan{}, none) {
		t.Error("Same of empty lists")
	}
}
