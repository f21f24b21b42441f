package sparse_test

import (
	"fmt"
	"slices"
	"strconv"
	"strings"
	"testing"

	"shunt/api"
	"shunt/flat"
	"shunt/netlist"
	"shunt/sparse"
)

// numbers are those of a text; none of a dash.
func numbers(text string) []int {
	var l []int
	for _, word := range strings.Fields(text) {
		if word == "-" {
			continue
		}
		x, err := strconv.Atoi(word)
		if err != nil {
			panic(text)
		}
		l = append(l, x)
	}
	return l
}

// of is the pattern of a text: its rows parted by strokes, a dash for a row without a column, nothing for no row.
func of(text string) [][]int {
	var p [][]int
	if text == "" {
		return p
	}
	for _, row := range strings.Split(text, "/") {
		p = append(p, numbers(row))
	}
	return p
}

func rowText(cols []int) string {
	if len(cols) == 0 {
		return "-"
	}
	return strings.Trim(fmt.Sprint(cols), "[]")
}

// text is a pattern as a text, as of reads it.
func text(p [][]int) string {
	var rows []string
	for _, cols := range p {
		rows = append(rows, rowText(cols))
	}
	return strings.Join(rows, " / ")
}

// full is the pattern of so many rows in which every place is.
func full(count int) [][]int {
	var p [][]int
	for range count {
		var cols []int
		for col := range count {
			cols = append(cols, col)
		}
		p = append(p, cols)
	}
	return p
}

// upTo are the numbers from 0 on, so many.
func upTo(count int) []int {
	var l []int
	for i := range count {
		l = append(l, i)
	}
	return l
}

// arrow is the pattern of so many rows with the first row, the first column and the diagonal.
func arrow(count int) [][]int {
	p := [][]int{upTo(count)}
	for row := 1; row < count; row++ {
		p = append(p, []int{0, row})
	}
	return p
}

// laid is the flat circuit of a netlist's lines, parted by strokes with blanks around them.
func laid(lines string) api.Flat {
	c, at, err := netlist.Parse(strings.ReplaceAll(lines, " / ", "\n"))
	if err != api.OK {
		panic(fmt.Sprint(lines, at, err))
	}
	f, err := flat.Flatten(c)
	if err != api.OK {
		panic(fmt.Sprint(lines, err))
	}
	return f
}

// short is what is told in a failure, cut where it is too long.
func short(x any) string {
	text := fmt.Sprint(x)
	if len(text) > 900 {
		return text[:900] + ".."
	}
	return text
}

// pieces are a pattern's first rows, of each the first columns: of those that are too long no more is told.
func pieces(p [][]int) string {
	var l [][]int
	for _, cols := range p[:min(60, len(p))] {
		l = append(l, cols[:min(60, len(cols))])
	}
	return short(text(l))
}

// checks fails unless Check answers that.
func checks(t *testing.T, p [][]int, want api.Errno) {
	t.Helper()
	if err := sparse.Check(p); err != want {
		t.Errorf("%s: Check: error %d, not %d", pieces(p), err, want)
	}
}

// costs fails unless Cost answers that.
func costs(t *testing.T, p [][]int, row, col, want int) {
	t.Helper()
	if got, err := sparse.Cost(p, row, col); err != api.OK || got != want {
		t.Errorf("%s: Cost %d %d: %d with error %d, not %d", pieces(p), row, col, got, err, want)
	}
}

// bestIs fails unless Best answers that place.
func bestIs(t *testing.T, p [][]int, row, col int) {
	t.Helper()
	if r, c, there, err := sparse.Best(p); err != api.OK || !there || r != row || c != col {
		t.Errorf("%s: Best: %d %d %t with error %d, not %d %d", pieces(p), r, c, there, err, row, col)
	}
}

// noBest fails unless Best answers that there is no place.
func noBest(t *testing.T, p [][]int) {
	t.Helper()
	if r, c, there, err := sparse.Best(p); err != api.OK || there || r != 0 || c != 0 {
		t.Errorf("%s: Best: %d %d %t with error %d, not that there is none", pieces(p), r, c, there, err)
	}
}

// leaves fails unless Eliminate answers just that pattern.
func leaves(t *testing.T, p [][]int, row, col int, want string) {
	t.Helper()
	if got, err := sparse.Eliminate(p, row, col); err != api.OK || text(got) != want {
		t.Errorf("%s: Eliminate %d %d: %s with error %d, not %s", pieces(p), row, col, pieces(got), err, short(want))
	}
}

// orderIs fails unless Order answers just these rows and columns.
func orderIs(t *testing.T, p [][]int, rows, cols []int) {
	t.Helper()
	if r, c, err := sparse.Order(p); err != api.OK || !slices.Equal(r, rows) || !slices.Equal(c, cols) {
		t.Errorf("%s: Order: %v, %v with error %d, not %v, %v", pieces(p), r, c, err, rows, cols)
	}
}

// fills fails unless Fill answers that.
func fills(t *testing.T, p [][]int, rows, cols []int, want int) {
	t.Helper()
	if got, err := sparse.Fill(p, rows, cols); err != api.OK || got != want {
		t.Errorf("%s: Fill %v, %v: %d with error %d, not %d", pieces(p), rows, cols, got, err, want)
	}
}

// refusesPlace fails unless Cost and Eliminate answer that error, and nothing else.
func refusesPlace(t *testing.T, p [][]int, row, col int, want api.Errno) {
	t.Helper()
	if got, err := sparse.Cost(p, row, col); err != want || got != 0 {
		t.Errorf("%s: Cost %d %d: %d with error %d, not error %d", pieces(p), row, col, got, err, want)
	}
	if got, err := sparse.Eliminate(p, row, col); err != want || len(got) != 0 {
		t.Errorf("%s: Eliminate %d %d: %s with error %d, not error %d", pieces(p), row, col, pieces(got), err, want)
	}
}

// refusesFill fails unless Fill answers that error, and nothing else.
func refusesFill(t *testing.T, p [][]int, rows, cols []int, want api.Errno) {
	t.Helper()
	if got, err := sparse.Fill(p, rows, cols); err != want || got != 0 {
		t.Errorf("%s: Fill %s, %s: %d with error %d, not error %d", pieces(p), short(rows), short(cols), got, err, want)
	}
}

// refusesPattern fails unless each call answers ErrPattern, and nothing else, whatever else is wrong.
func refusesPattern(t *testing.T, p [][]int) {
	t.Helper()
	checks(t, p, api.ErrPattern)
	for _, at := range []place{{0, 0}, {0, 1}, {1, 0}, {-1, 0}, {0, -1}, {len(p), 0}, {48, 48}} {
		refusesPlace(t, p, at.row, at.col, api.ErrPattern)
		refusesFill(t, p, []int{at.row}, []int{at.col}, api.ErrPattern)
		refusesFill(t, p, []int{at.row}, nil, api.ErrPattern)
		refusesFill(t, p, nil, []int{at.col}, api.ErrPattern)
	}
	refusesFill(t, p, nil, nil, api.ErrPattern)
	if r, c, there, err := sparse.Best(p); err != api.ErrPattern || there || r != 0 || c != 0 {
		t.Errorf("%s: Best: %d %d %t with error %d", pieces(p), r, c, there, err)
	}
	if r, c, err := sparse.Order(p); err != api.ErrPattern || len(r) != 0 || len(c) != 0 {
		t.Errorf("%s: Order: %v, %v with error %d", pieces(p), r, c, err)
	}
}

// ofIs fails unless Of answers just that pattern.
func ofIs(t *testing.T, s api.System, want string) {
	t.Helper()
	if got, err := sparse.Of(s); err != api.OK || text(got) != want {
		t.Errorf("%s: Of: %s with error %d, not %s", short(s), pieces(got), err, short(want))
	}
}

// refusesOf fails unless Of answers ErrPattern, and nothing else.
func refusesOf(t *testing.T, s api.System) {
	t.Helper()
	if got, err := sparse.Of(s); err != api.ErrPattern || len(got) != 0 {
		t.Errorf("%s: Of: %s with error %d, not error %d", short(s), pieces(got), err, api.ErrPattern)
	}
}
