package wave

import (
	"cmp"
	"slices"

	"quilter/api"
	"quilter/graph"
	"quilter/shard"
)

// none is the node of a shard that has none; to graph it is no node either.
const none = -1

// stand is shards, and how their nodes stand on one another.
type stand struct {
	shards []api.Shard
	nodes  []int // of each shard
	count  int   // how many nodes there are
	edges  []api.Edge
	depths []int
}

// standOf answers how the shards l stand on one another, by targets.
func standOf(targets []api.Target, l []api.Shard) stand {
	s := stand{
		shards: l,
		nodes:  nodesOf(targets, l),
		count:  len(targets),
		edges:  distinct(shard.Edges(targets)),
	}
	s.depths = graph.Depths(s.count, s.edges...)
	return s
}

// wave answers how deep a node is; 0, if there is none, or graph tells nothing.
func (s stand) wave(node int) int {
	if node == none || len(s.depths) == 0 {
		return 0
	}
	return s.depths[node]
}

// needs answers, of the node of each shard, the IDs that all shards there need: graph is asked once a node, as each time it goes through all edges.
func (s stand) needs() map[int][]int {
	needs := map[int][]int{}
	for _, node := range s.nodes {
		if _, asked := needs[node]; !asked {
			needs[node] = s.reached(node)
		}
	}
	return needs
}

// reached answers the IDs of all shards at other nodes that are reached from node.
func (s stand) reached(node int) []int {
	reach := graph.Reach(s.count, node, s.edges...)
	if len(reach) == 0 {
		return nil
	}
	var ids []int
	for i, other := range s.nodes {
		// Rings of other names are at other nodes, those of one name at one.
		if other != none && other != node && reach[other] {
			ids = append(ids, s.shards[i].ID)
		}
	}
	return ids
}

// nodesOf answers build.Place of the ring of each of l, without a search through all targets for each; none of a ring that has no byte.
func nodesOf(targets []api.Target, l []api.Shard) []int {
	places := map[string]int{}
	for i, t := range slices.Backward(targets) {
		places[t.Name] = i
	}
	delete(places, "")
	var nodes []int
	for _, s := range l {
		node, there := places[s.Ring]
		if !there {
			node = none
		}
		nodes = append(nodes, node)
	}
	return nodes
}

// distinct answers each of edges once: texts may tell one of them thousands of times.
func distinct(edges []api.Edge) []api.Edge {
	slices.SortFunc(edges, func(a, b api.Edge) int {
		return cmp.Or(cmp.Compare(a.From, b.From), cmp.Compare(a.To, b.To))
	})
	return slices.Compact(edges)
}
