package shard

import (
	"slices"
	"strings"

	"quilter/api"
	"quilter/owners"
)

// blank stands between the names of owners: no name has one.
const blank = " "

// key is what the files of a heap have in common.
type key struct {
	owners string
	ring   string
}

// heaps is files by what they have in common.
type heaps struct {
	files map[key][]string
	order []key // by their first files
}

// heapsOf answers the heaps of these paths of t; the first one of which owners tells an error tells it.
func heapsOf(t api.Tree, targets []api.Target, paths []string) (heaps, api.Errno) {
	h := heaps{files: map[key][]string{}}
	least := ringsOf(targets, paths...)
	for _, p := range paths {
		names, e := owners.Of(t, p)
		if e != api.OK {
			return heaps{}, e
		}
		h.add(key{owners: strings.Join(names, blank), ring: least.of(p)}, p)
	}
	return h, api.OK
}

// add lays p on the heap of k.
func (h *heaps) add(k key, p string) {
	if _, there := h.files[k]; !there {
		h.order = append(h.order, k)
	}
	h.files[k] = append(h.files[k], p)
}

// cut answers rows of at most cap files of each heap, numbered one behind the other.
func (h *heaps) cut(cap int) []api.Shard {
	var l []api.Shard
	for _, k := range h.order {
		for row := range slices.Chunk(h.files[k], cap) {
			l = append(l, api.Shard{
				ID:     len(l) + 1,
				Owners: strings.Fields(k.owners),
				Ring:   k.ring,
				Paths:  slices.Clone(row),
			})
		}
	}
	return l
}
