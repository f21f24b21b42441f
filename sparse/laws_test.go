package sparse_test

import (
	"slices"
	"testing"

	"shunt/api"
	"shunt/sparse"
)

// small are all right patterns of so many rows.
func small(count int, do func(p [][]int)) {
	for bits := range 1 << (count * count) {
		p := make([][]int, count)
		for at := range count * count {
			if bits>>at&1 == 1 {
				p[at/count] = append(p[at/count], at%count)
			}
		}
		do(p)
	}
}

// asMeant fails unless each call but Fill answers of p as the chapter's words say, at all places in it and around it.
func asMeant(t *testing.T, p [][]int) {
	t.Helper()
	checks(t, p, api.OK)
	s := placesOf(p)
	if at, there := s.best(); there {
		bestIs(t, p, at.row, at.col)
	} else {
		noBest(t, p)
	}
	rows, cols := s.order()
	orderIs(t, p, rows, cols)
	for row := -1; row <= len(p); row++ {
		for col := -1; col <= len(p); col++ {
			at := place{row, col}
			if !s[at] {
				refusesPlace(t, p, row, col, api.ErrArg)
				continue
			}
			costs(t, p, row, col, s.cost(at))
			left, _ := s.without(at)
			leaves(t, p, row, col, text(left.pattern(len(p))))
		}
	}
	if t.Failed() {
		t.FailNow()
	}
}

// fillAsMeant fails unless Fill answers of an order, whether it fits or not, as the chapter's words say.
func fillAsMeant(t *testing.T, p [][]int, rows, cols []int) (fits bool) {
	t.Helper()
	want, fits := placesOf(p).fill(rows, cols)
	if fits {
		fills(t, p, rows, cols, want)
	} else {
		refusesFill(t, p, rows, cols, api.ErrArg)
	}
	return fits
}

// P13.1: all patterns of up to 3 rows, and many of more.
func TestAllSmallPatterns(t *testing.T) {
	for count := range 4 {
		small(count, func(p [][]int) { asMeant(t, p) })
	}
}

func TestOrdersOfAllPatternsOfFourRows(t *testing.T) {
	small(4, func(p [][]int) {
		rows, cols := placesOf(p).order()
		orderIs(t, p, rows, cols)
		if t.Failed() {
			t.FailNow()
		}
	})
}

func TestPatternsAsMeant(t *testing.T) {
	d := dice(1301)
	for range 600 {
		asMeant(t, d.some(9))
	}
	for range 6 {
		asMeant(t, d.pattern(20, 1+d.below(12)))
	}
	for range 3 {
		p := d.pattern(48, 12+d.below(12))
		rows, cols := placesOf(p).order()
		orderIs(t, p, rows, cols)
		fillAsMeant(t, p, rows, cols)
	}
}

// All orders of up to three places, of all patterns of two rows, with rows and columns beside them.
func TestAllSmallOrders(t *testing.T) {
	var beside []place
	for row := -1; row <= 2; row++ {
		for col := -1; col <= 2; col++ {
			beside = append(beside, place{row, col})
		}
	}
	small(2, func(p [][]int) {
		for _, a := range beside {
			fillAsMeant(t, p, []int{a.row}, []int{a.col})
			for _, b := range beside {
				fillAsMeant(t, p, []int{a.row, b.row}, []int{a.col, b.col})
				for _, c := range beside {
					fillAsMeant(t, p, []int{a.row, b.row, c.row}, []int{a.col, b.col, c.col})
				}
			}
		}
	})
}

// All orders of three places of all patterns of three rows.
func TestOrdersOfAllPatternsOfThreeRows(t *testing.T) {
	small(3, func(p [][]int) {
		for n := range 9 * 9 * 9 {
			a, b, c := n/81, n/9%9, n%9
			fillAsMeant(t, p, []int{a / 3, b / 3, c / 3}, []int{a % 3, b % 3, c % 3})
		}
		if t.Failed() {
			t.FailNow()
		}
	})
}

func TestFillsAsMeant(t *testing.T) {
	d := dice(1302)
	fit, misfit := 0, 0
	for range 3000 {
		p := d.some(8)
		rows, cols := d.order(p)
		if !fillAsMeant(t, p, rows, cols) {
			t.Fatal(p, rows, cols)
		}
		d.bend(rows, cols, len(p))
		if fillAsMeant(t, p, rows, cols) {
			fit++
		} else {
			misfit++
		}
	}
	if fit < 300 || misfit < 300 {
		t.Error(fit, misfit)
	}
}

// An order's fill is the sum of what comes in at each of its places; and what Eliminate leaves is right.
func TestFillPlaceByPlace(t *testing.T) {
	d := dice(1303)
	for range 300 {
		p := d.some(10)
		rows, cols := d.order(p)
		sum, left := 0, p
		for i := range rows {
			came, err := sparse.Fill(left, rows[i:i+1], cols[i:i+1])
			if err != api.OK {
				t.Fatal(p, rows, cols, i, err)
			}
			sum += came
			if left, err = sparse.Eliminate(left, rows[i], cols[i]); err != api.OK || len(left) != len(p) {
				t.Fatal(p, rows, cols, i, left, err)
			}
			checks(t, left, api.OK)
			fills(t, p, rows[:i+1], cols[:i+1], sum)
		}
	}
}

// unlike fails if a number stands twice.
func unlike(t *testing.T, l []int) {
	t.Helper()
	sorted := slices.Sorted(slices.Values(l))
	if len(slices.Compact(sorted)) != len(l) {
		t.Errorf("%v: one stands twice", l)
	}
}

// orderHolds fails unless what Order tells of p fits, is of unlike rows and columns, takes the best place each time, and
// leaves nothing.
func orderHolds(t *testing.T, p [][]int) {
	t.Helper()
	rows, cols, err := sparse.Order(p)
	if err != api.OK || len(rows) != len(cols) {
		t.Fatalf("%s: Order: %v, %v with error %d", pieces(p), rows, cols, err)
	}
	unlike(t, rows)
	unlike(t, cols)
	if _, err := sparse.Fill(p, rows, cols); err != api.OK {
		t.Errorf("%s: Fill of %v, %v: error %d", pieces(p), rows, cols, err)
	}
	left := p
	for i, row := range rows {
		bestIs(t, left, row, cols[i])
		if left, err = sparse.Eliminate(left, row, cols[i]); err != api.OK {
			t.Fatalf("%s: %v, %v doesn't fit at %d: error %d", pieces(p), rows, cols, i, err)
		}
	}
	noBest(t, left)
	if text(left) != text(make([][]int, len(p))) {
		t.Errorf("%s: behind %v, %v this is left: %s", pieces(p), rows, cols, pieces(left))
	}
}

// P13.2: what Order tells fits, stands in unlike rows and columns, and leaves nothing.
func TestOrdersFitAndLeaveNothing(t *testing.T) {
	for count := range 4 {
		small(count, func(p [][]int) { orderHolds(t, p) })
	}
	d := dice(1304)
	for range 500 {
		orderHolds(t, d.some(16))
	}
	for parts := 1; parts < 60; parts++ {
		orderHolds(t, d.pattern(48, parts))
	}
	orderHolds(t, arrow(48))
}

// turnedHolds fails unless p turned over its diagonal leaves each place's cost and the order's fill.
func turnedHolds(t *testing.T, p [][]int, rows, cols []int) {
	t.Helper()
	q := turned(p)
	for row := range p {
		for col := range p {
			one, err := sparse.Cost(p, row, col)
			other, also := sparse.Cost(q, col, row)
			if one != other || err != also {
				t.Fatalf("%s: Cost %d %d: %d with error %d, but %d with error %d turned", pieces(p), row, col, one, err, other, also)
			}
		}
	}
	one, err := sparse.Fill(p, rows, cols)
	other, also := sparse.Fill(q, cols, rows)
	if one != other || err != also {
		t.Fatalf("%s: Fill %v, %v: %d with error %d, but %d with error %d turned", pieces(p), rows, cols, one, err, other, also)
	}
}

// P13.3: patterns turned over their diagonal.
func TestTurnedPatterns(t *testing.T) {
	d := dice(1305)
	for range 1500 {
		p := d.some(9)
		rows, cols := d.order(p)
		turnedHolds(t, p, rows, cols)
		d.bend(rows, cols, len(p))
		turnedHolds(t, p, rows, cols)
	}
	for range 40 {
		p := d.pattern(48, 1+d.below(40))
		rows, cols, err := sparse.Order(p)
		if err != api.OK {
			t.Fatal(err)
		}
		turnedHolds(t, p, rows, cols)
	}
	turnedHolds(t, of("0 1 2 / 0 / -"), []int{1, 0}, []int{0, 2})
	turnedHolds(t, arrow(48), upTo(48), upTo(48))
}

// noFill fails unless the fill of what Order tells of p is 0.
func noFill(t *testing.T, p [][]int) {
	t.Helper()
	rows, cols, err := sparse.Order(p)
	if err != api.OK {
		t.Fatalf("%s: Order: error %d", pieces(p), err)
	}
	fills(t, p, rows, cols, 0)
}

// edges are how many places are in p.
func edges(p [][]int) int { return len(slices.Concat(p...)) }

// joined says whether the places join all rows and all columns to one another.
func joined(p [][]int) bool {
	rows, cols := map[int]bool{0: true}, map[int]bool{}
	for range 2 * len(p) {
		for x := range placesOf(p) {
			if rows[x.row] || cols[x.col] {
				rows[x.row], cols[x.col] = true, true
			}
		}
	}
	return len(rows) == len(p) && len(cols) == len(p)
}

// P13.4: trees have no fill, of whatever form they are.
func TestTreesHaveNoFill(t *testing.T) {
	d := dice(1306)
	for range 600 {
		count := 1 + d.below(48)
		p := d.tree(count, 1+d.below(1+d.below(20)))
		if edges(p) != 2*count-1 {
			t.Fatalf("%s: no tree", pieces(p))
		}
		noFill(t, p)
	}
	for _, reach := range []int{1, 2, 3, 48} {
		p := d.tree(48, reach)
		if edges(p) != 95 || !joined(p) {
			t.Fatalf("%s: no tree", pieces(p))
		}
		noFill(t, p)
	}
}

// Trees of some of the rows and columns, and several trees beside one another: what is left of a tree behind a place.
func TestForestsHaveNoFill(t *testing.T) {
	d := dice(1307)
	for range 300 {
		p := d.tree(1+d.below(48), 1+d.below(9))
		for row := range p {
			p[row] = slices.DeleteFunc(p[row], func(int) bool { return d.one(6) })
		}
		noFill(t, p)
	}
}

// All trees among the patterns of three rows, and some forms that are known by name.
func TestKnownTrees(t *testing.T) {
	met := 0
	small(3, func(p [][]int) {
		if edges(p) == 5 && joined(p) {
			met++
			noFill(t, p)
		}
	})
	if met != 81 {
		t.Errorf("%d trees of 3 rows and 3 columns, not 81", met)
	}
	for count := 1; count <= 48; count++ {
		path := make([][]int, count)
		star := make([][]int, count)
		for row := range path {
			path[row] = []int{row}
			if row+1 < count {
				path[row] = append(path[row], row+1)
			}
			star[row] = []int{count / 2}
		}
		star[count/3] = upTo(count)
		if !joined(path) || !joined(star) || edges(path) != 2*count-1 || edges(star) != 2*count-1 {
			t.Fatalf("%d: no trees", count)
		}
		noFill(t, path)
		noFill(t, turned(path))
		noFill(t, star)
		slices.Reverse(path)
		noFill(t, path)
	}
	// Another order of a tree may bring something in.
	fills(t, of("0 1 / 0 / 0"), []int{0}, []int{0}, 2)
}
