package shard

import (
	"quilter/api"
	"quilter/graph"
)

// rings is targets, and of each file that is asked for the least ring of what is built of it: a place in targets; as many as there are, if there is none.
type rings struct {
	targets []api.Target
	least   map[string]int
}

// ringsOf answers the rings of these files, of all in one go: to find the rings takes far longer than to look one up.
func ringsOf(l []api.Target, files ...string) rings {
	r := rings{targets: l, least: map[string]int{}}
	for _, s := range files {
		r.least[s] = len(l)
	}
	for i, ring := range graph.Rings(len(l), Edges(l)...) {
		for _, s := range l[i].Srcs {
			if least, asked := r.least[s]; asked {
				r.least[s] = min(least, ring)
			}
		}
	}
	return r
}

// of answers the name of the ring of s, one of the files that were asked for; nothing, if it has none.
func (r rings) of(s string) string {
	least := r.least[s]
	if least == len(r.targets) {
		return ""
	}
	return r.targets[least].Name
}

// placesOf answers build.Place of each name of l, without a search through all of l for each.
func placesOf(l []api.Target) map[string]int {
	places := map[string]int{}
	for i, t := range l {
		if _, there := places[t.Name]; !there {
			places[t.Name] = i
		}
	}
	return places
}
