package topo

// groups are nodes that are joined, or not: each leads to another one of its group, or to itself, if it stands for the group.
type groups []int

// alone are so many nodes, none of them joined to another.
func alone(count int) groups {
	g := make(groups, count)
	for n := range g {
		g[n] = n
	}
	return g
}

// head is the node that stands for n's group.
func (g groups) head(n int) int {
	for g[n] != n {
		n = g[n]
	}
	return n
}

func (g groups) joined(a, b int) bool { return g.head(a) == g.head(b) }

func (g groups) join(a, b int) { g[g.head(b)] = g.head(a) }
