package topo_test

import (
	"testing"

	"shunt/api"
	"shunt/topo"
)

// The chapter's examples, one by one.

func TestExampleOfNodes(t *testing.T) {
	const first = "v1 a 0 5 / r1 a b 1k"
	both(t, laid(first), "", "")
	both(t, laid(first+" / c1 c d 1u"), "c d", "")
	tells(t, laid(first+" / c1 c 0 1u"), api.Op, "c", "")
	tells(t, laid(first+" / c1 c 0 1u"), api.Tran, "", "")
}

func TestExampleOfControls(t *testing.T) {
	both(t, laid("i1 a 0 1"), "a", "")
	both(t, laid("g1 a 0 b 0 1"), "a", "")
}

func TestExampleOfLoops(t *testing.T) {
	f := laid("v1 a 0 1 / v2 a 0 1")
	both(t, f, "", "v2")
	if l, err := topo.Loops(f, api.Op); len(l) != 1 || l[0] != 1 || err != 0 {
		t.Error(l, err)
	}
	f = laid("v1 a a 1")
	both(t, f, "a", "v1")
	if l, err := topo.Loops(f, api.Tran); len(l) != 1 || l[0] != 0 || err != 0 {
		t.Error(l, err)
	}
	f = laid("v1 a 0 1 / l1 a 0 1u")
	tells(t, f, api.Op, "", "l1")
	tells(t, f, api.Tran, "", "")
}

// The errors' numbers stand in the document.
func TestNumbersOfErrors(t *testing.T) {
	if err := topo.Check(laid("i1 a 0 1"), 1); err != 100 {
		t.Error(err)
	}
	if err := topo.Check(laid("v1 a 0 1 / v2 a 0 1"), 2); err != 101 {
		t.Error(err)
	}
	refuses(t, laid("r1 a 0 1"), 3, 110)
	refuses(t, api.Flat{}, 1, 90)
	f := laid(count("v# a 0 1", 1, 47))
	f.Nodes = append(f.Nodes, "b")
	refuses(t, f, 1, 5)
}
