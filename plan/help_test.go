package plan_test

import (
	"fmt"
	"slices"
	"strconv"
	"strings"
	"testing"

	"shunt/api"
	"shunt/bareiss"
	"shunt/flat"
	"shunt/limb"
	"shunt/netlist"
	"shunt/plan"
	"shunt/system"
)

const edge = api.MaxGrid

// whole is the whole number of a text: digits, or 2^ and digits, either with a - ahead.
func whole(text string) api.Int {
	digits, below := strings.CutPrefix(text, "-")
	if bits, power := strings.CutPrefix(digits, "2^"); power {
		n, _ := strconv.Atoi(bits)
		limbs := make([]uint32, n/32+1)
		limbs[n/32] = 1 << (n % 32)
		return api.Int{Neg: below, Limbs: limbs}
	}
	a, err := limb.Parse(text)
	if err != api.OK {
		panic(text)
	}
	return a
}

// full is the greatest number of so many limbs.
func full(limbs int) api.Int { return api.Int{Limbs: slices.Repeat([]uint32{1<<32 - 1}, limbs)} }

// cell is that of a text such as 2:-7, the column 2's.
func cell(text string) api.Cell {
	col, val, _ := strings.Cut(text, ":")
	at, _ := strconv.Atoi(col)
	return api.Cell{Col: at, Val: whole(val)}
}

// of is the system of a text: its rows parted by strokes, in each of which the words are numbers of A, H and S with their
// columns, K and Mult, which is 1 without a word, as in a0:1 a2:-1 h0:5 s1:2^40 k7 m1000.
func of(text string) api.System {
	var s api.System
	for _, part := range strings.Split(text, "/") {
		row := api.Row{Mult: limb.Of(1)}
		for _, word := range strings.Fields(part) {
			switch kind, rest := word[0], word[1:]; kind {
			case 'a':
				row.A = append(row.A, cell(rest))
			case 'h':
				row.H = append(row.H, cell(rest))
			case 's':
				row.S = append(row.S, cell(rest))
			case 'k':
				row.K = whole(rest)
			case 'm':
				row.Mult = whole(rest)
			}
		}
		s.Rows = append(s.Rows, row)
	}
	return s
}

// matrix is the system of which A has the numbers of the text, its rows parted by strokes; the row i's H has the column i's 1,
// and its S too.
func matrix(text string) api.System {
	var s api.System
	for i, part := range strings.Split(text, "/") {
		own := []api.Cell{{Col: i, Val: limb.Of(1)}}
		row := api.Row{Mult: limb.Of(1), H: own, S: own}
		for col, word := range strings.Fields(part) {
			if word != "0" {
				row.A = append(row.A, api.Cell{Col: col, Val: whole(word)})
			}
		}
		s.Rows = append(s.Rows, row)
	}
	return s
}

func resting() api.Setting { return api.Setting{Mode: api.Op} }

func timed(method int) api.Setting {
	return api.Setting{Mode: api.Tran, Method: method, Step: api.Num{Mant: 1, Exp: -3}}
}

// laid is the flat circuit of a netlist's lines, parted by strokes with blanks around them.
func laid(lines string) api.Flat {
	c, at, err := netlist.Parse(strings.ReplaceAll(lines, " / ", "\n"))
	if err != api.OK {
		panic(fmt.Sprint(lines, at, err))
	}
	f, err := flat.Flatten(c)
	if err != api.OK {
		panic(fmt.Sprint(lines, err))
	}
	return f
}

// built is the system of a netlist's lines, each bent device in its first segment.
func built(lines string, set api.Setting) api.System {
	f := laid(lines)
	s, err := system.Build(f, set, make([]int, len(system.Bent(f))))
	if err != api.OK {
		panic(fmt.Sprint(lines, err))
	}
	return s
}

// divider is layer 12's example.
func divider() api.System { return built("v1 a 0 5 / r1 a b 1k / r2 b 0 2k", resting()) }

// ladder is a system of 2 steps + 2 rows.
func ladder(steps int, set api.Setting) api.System {
	lines := "v1 a0 0 1"
	for i := range steps {
		lines += fmt.Sprintf(" / r%d a%d a%d 1.5k / c%d a%d 0 0.7u", i, i, i+1, i, i+1)
	}
	return built(lines, set)
}

// noughts are the ask of n noughts, and as many as any source may need.
func noughts(n int) plan.Ask {
	return plan.Ask{Prev: make([]int64, n), Src: make([]int64, api.MaxDevs)}
}

// prev is the ask of these, and noughts for the sources.
func prev(list ...int64) plan.Ask { return plan.Ask{Prev: list, Src: make([]int64, api.MaxDevs)} }

func told(a api.Int) string {
	text, err := limb.Text(a)
	if err != api.OK {
		return fmt.Sprint("(not right: ", len(a.Limbs), " limbs)")
	}
	return text
}

// text is a reply as X, a stroke and D; or as its error, with whatever stands beside it.
func text(r plan.Reply) string {
	var words []string
	for _, x := range r.Solution.X {
		words = append(words, told(x))
	}
	if r.Err != api.OK {
		words = append(words, "error", strconv.Itoa(int(r.Err)))
	}
	if r.Err == api.OK || len(r.Solution.D.Limbs) > 0 || r.Solution.D.Neg {
		words = append(words, "/", told(r.Solution.D))
	}
	return strings.Join(words, " ")
}

func texts(l []plan.Reply) []string {
	var out []string
	for _, r := range l {
		out = append(out, text(r))
	}
	return out
}

// short is what is told in a failure, cut where it is too long.
func short(x any) string {
	text := fmt.Sprint(x)
	if len(text) > 600 {
		return text[:600] + ".."
	}
	return text
}

// made fails unless New answers a plan that has done nothing.
func made(t *testing.T, s api.System, limbs int) *plan.Plan {
	t.Helper()
	p, err := plan.New(s, limbs)
	if err != api.OK || p == nil {
		t.Fatalf("%s: New with %d limbs: %t, error %d", short(s), limbs, p != nil, err)
	}
	counted(t, p, 0, 0, 0)
	return p
}

// refuses fails unless New answers just that error.
func refuses(t *testing.T, s api.System, limbs int, want api.Errno) {
	t.Helper()
	if p, err := plan.New(s, limbs); p != nil || err != want {
		t.Errorf("%s: New with %d limbs: %t, error %d, not error %d", short(s), limbs, p != nil, err, want)
	}
}

func reply(p *plan.Plan, a plan.Ask) plan.Reply {
	x, err := p.Solve(a)
	return plan.Reply{Solution: x, Err: err}
}

// solves fails unless Solve answers just that text.
func solves(t *testing.T, p *plan.Plan, a plan.Ask, want string) {
	t.Helper()
	if got := text(reply(p, a)); got != want {
		t.Errorf("Solve(%s): %s, not %s", short(a), short(got), short(want))
	}
}

// refusesAsk fails unless Solve answers just that error.
func refusesAsk(t *testing.T, p *plan.Plan, a plan.Ask, want api.Errno) {
	t.Helper()
	solves(t, p, a, "error "+strconv.Itoa(int(want)))
}

// together are the replies of Together as texts; it fails if there aren't as many as asks.
func together(t *testing.T, p *plan.Plan, asks []plan.Ask, workers int) []string {
	t.Helper()
	l, err := p.Together(asks, workers)
	if err != api.OK || len(l) != len(asks) {
		t.Fatalf("Together of %d asks, %d workers: %d replies, error %d", len(asks), workers, len(l), err)
	}
	return texts(l)
}

// refusesTogether fails unless Together answers just that error.
func refusesTogether(t *testing.T, p *plan.Plan, asks []plan.Ask, workers int, want api.Errno) {
	t.Helper()
	if l, err := p.Together(asks, workers); len(l) != 0 || err != want {
		t.Errorf("Together of %d asks, %d workers: %d replies, error %d, not error %d", len(asks), workers, len(l), err, want)
	}
}

// counted fails unless Counts tells just these.
func counted(t *testing.T, p *plan.Plan, factors, pivots, solves int64) {
	t.Helper()
	if got := p.Counts(); got != (api.Counts{Factors: factors, Pivots: pivots, Solves: solves}) {
		t.Errorf("Counts: %v, not %d %d %d", got, factors, pivots, solves)
	}
}

// A meaning is what the chapter says of a system and a number of limbs, reckoned by the layers below alone.
type meaning struct {
	system api.System
	factor *bareiss.Factor
	pivots int
	err    api.Errno
}

func meant(s api.System, limbs int) meaning {
	var rows [][]api.Cell
	for _, row := range s.Rows {
		rows = append(rows, row.A)
	}
	f, pivots, err := bareiss.New(rows, limbs)
	return meaning{s, f, pivots, err}
}

// reply is the ask's.
func (m meaning) reply(a plan.Ask) plan.Reply {
	b, err := system.Rhs(m.system, a.Prev, a.Src)
	if err != api.ErrSize && err != api.ErrRange && m.err != api.OK {
		err = m.err
	}
	if err != api.OK {
		return plan.Reply{Err: err}
	}
	x, err := m.factor.Solve(b)
	return plan.Reply{Solution: x, Err: err}
}

func (m meaning) texts(asks []plan.Ask) []string {
	var out []string
	for _, a := range asks {
		out = append(out, text(m.reply(a)))
	}
	return out
}

// counts are the plan's behind these asks.
func (m meaning) counts(asks ...plan.Ask) api.Counts {
	var c api.Counts
	for _, a := range asks {
		if err := m.reply(a).Err; err == api.ErrSize || err == api.ErrRange {
			continue
		}
		c.Factors, c.Pivots = 1, int64(m.pivots)
		if m.err == api.OK {
			c.Solves++
		}
	}
	return c
}
