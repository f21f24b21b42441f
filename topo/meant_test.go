package topo_test

import (
	"slices"
	"strings"

	"shunt/api"
)

// What follows is the chapter asked another way: ties are pairs in a list, ways are gone node by node.

type pair struct{ a, b int }

// meantTies are all ties of a circuit.
func meantTies(f api.Flat, mode int) []pair {
	fromA, fromC := "rlvehtds", "egt"
	if mode == 2 {
		fromA += "c"
	}
	var l []pair
	for _, d := range f.Devs {
		if strings.IndexByte(fromA, d.Kind) >= 0 {
			l = append(l, pair{d.Nodes[0], d.Nodes[1]})
		}
		if strings.IndexByte(fromC, d.Kind) >= 0 {
			l = append(l, pair{d.Nodes[2], d.Nodes[3]})
		}
	}
	return l
}

// reached are the nodes to which a way of pairs leads, the one at which it begins among them, in the order in which they are
// reached.
func reached(from int, pairs []pair) []int {
	l := []int{from}
	for i := 0; i < len(l); i++ {
		for _, p := range pairs {
			for _, q := range []pair{p, {p.b, p.a}} {
				if q.a == l[i] && !slices.Contains(l, q.b) {
					l = append(l, q.b)
				}
			}
		}
	}
	return l
}

func meantFloats(f api.Flat, mode int) []int {
	tied := reached(0, meantTies(f, mode))
	var l []int
	for node := range f.Nodes {
		if !slices.Contains(tied, node) {
			l = append(l, node)
		}
	}
	return l
}

func meantLoops(f api.Flat, mode int) []int {
	kinds := "v"
	if mode == 1 {
		kinds = "vl"
	}
	var ahead []pair
	var l []int
	for i, d := range f.Devs {
		if strings.IndexByte(kinds, d.Kind) < 0 {
			continue
		}
		if slices.Contains(reached(d.Nodes[0], ahead), d.Nodes[1]) {
			l = append(l, i)
		}
		ahead = append(ahead, pair{d.Nodes[0], d.Nodes[1]})
	}
	return l
}

// meant is what the chapter's words say of a right flat circuit in a right mode.
func meant(f api.Flat, mode int) told {
	return found(meantFloats(f, mode), meantLoops(f, mode))
}
