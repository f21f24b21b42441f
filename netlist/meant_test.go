package netlist_test

import (
	"regexp"
	"slices"
	"strings"

	"shunt/api"
	"shunt/card"
	"shunt/lex"
	"shunt/model"
	"shunt/num"
)

// What follows is the chapter asked another way: of each line apart, from all the others, with nothing kept from line to line.

var (
	aName  = regexp.MustCompile(`^[a-z0-9_]{1,16}$`)
	aPort  = regexp.MustCompile(`^(0[a-z0-9_]{1,15}|[a-z1-9_][a-z0-9_]{0,15})$`)
	ofForm = regexp.MustCompile(`^(\.step \S+|\.method (euler|trap)|\.model.*|\.subckt( \S+){2,9}|\.ends|\.end|[^.].*)$`)
	noSub  = regexp.MustCompile(`^\.(step|method|model|subckt|end)( |$)`)
)

// A meaning asks what the lines of a netlist mean.
type meaning []api.Line

func (m meaning) first(k int) string { return m[k].Words[0] }

func (m meaning) line(k int) string { return strings.Join(m[k].Words, " ") }

func (m meaning) isCard(k int) bool { return !strings.HasPrefix(m.first(k), ".") }

// home is the line of the .subckt in which the line k stands, or -1.
func (m meaning) home(k int) int {
	for k--; k >= 0; k-- {
		switch m.first(k) {
		case ".subckt":
			return k
		case ".ends":
			return -1
		}
	}
	return -1
}

// all are the lines below end of which ask says yes.
func (m meaning) all(end int, ask func(int) bool) []int {
	var l []int
	for k := range end {
		if ask(k) {
			l = append(l, k)
		}
	}
	return l
}

// kin are the lines ahead of k that belong to one list with it.
func (m meaning) kin(k int) []int {
	return m.all(k, func(j int) bool {
		if m.isCard(k) {
			return m.isCard(j) && m.home(j) == m.home(k)
		}
		return m.first(j) == m.first(k)
	})
}

// name is what no other of the list may have, of the lines that have such a thing.
func (m meaning) name(k int) string {
	switch m.first(k) {
	case ".step", ".method":
		return ""
	case ".model", ".subckt":
		return m[k].Words[1]
	}
	return m.first(k)
}

func (m meaning) most(k int) int {
	switch m.first(k) {
	case ".model":
		return 16
	case ".subckt":
		return 8
	case ".step", ".method", ".ends", ".end":
		return 1 << 30
	}
	return 64
}

// own is what the words of the line k are refused for by themselves, where their number is right.
func (m meaning) own(k int) api.Errno {
	w := m[k].Words
	switch m.first(k) {
	case ".step":
		x, err := num.Parse(w[1])
		if order, _ := num.Cmp(x, n(0, 0)); err == 0 && order <= 0 {
			return 1
		}
		return err
	case ".model":
		_, err := card.ReadModel(w)
		return err
	case ".subckt":
		if !aName.MatchString(w[1]) || slices.ContainsFunc(w[2:], func(s string) bool { return !aPort.MatchString(s) }) {
			return 71
		}
		if ports := slices.Sorted(slices.Values(w[2:])); len(slices.Compact(ports)) < len(w)-2 {
			return 8
		}
	case ".method", ".ends", ".end":
	default:
		_, err := card.Read(w)
		return err
	}
	return 0
}

// fault is what the line k is refused for, where none ahead is.
func (m meaning) fault(k int) api.Errno {
	ended := len(m.all(k, func(j int) bool { return m.first(j) == ".end" })) > 0
	inSub := m.home(k) >= 0
	switch {
	case ended, inSub && noSub.MatchString(m.line(k)), !inSub && m.first(k) == ".ends":
		return 80
	case !ofForm.MatchString(m.line(k)):
		return 70
	case m.own(k) != 0:
		return m.own(k)
	case m.first(k) == ".ends":
		return 0
	case slices.ContainsFunc(m.kin(k), func(j int) bool { return m.name(j) == m.name(k) }):
		return 8
	case len(m.kin(k)) >= m.most(k):
		return 7
	}
	return 0
}

// refFault is what the Ref of the card of the line k is refused for, where no line is refused.
func (m meaning) refFault(k int) api.Errno {
	c, _ := card.Read(m[k].Words)
	kind := c.Name[:1]
	named := m.all(len(m), func(j int) bool {
		switch {
		case strings.Contains("ds", kind):
			return strings.HasPrefix(m.line(j)+" ", ".model "+c.Ref+" "+kind+" ")
		case strings.Contains("fh", kind):
			return m.isCard(j) && m.first(j) == c.Ref && m.home(j) == m.home(k)
		}
		return strings.HasPrefix(m.line(j), ".subckt "+c.Ref+" ") && (m.home(k) < 0 || j < m.home(k))
	})
	switch {
	case c.Ref == "":
		return 0
	case len(named) == 0:
		return 81
	case kind == "x" && len(m[named[0]].Words) != len(m[k].Words):
		return 82
	}
	return 0
}

// circuit is what the lines say, where none is refused.
func (m meaning) circuit() api.Circuit {
	c := api.Circuit{Step: n(1, -6), Method: 1}
	for k, line := range m {
		w := line.Words
		switch m.first(k) {
		case ".step":
			c.Step, _ = num.Parse(w[1])
		case ".method":
			c.Method = map[string]int{"euler": 1, "trap": 2}[w[1]]
		case ".model":
			x, _ := card.ReadModel(w)
			c.Models = append(c.Models, x)
		case ".subckt":
			c.Subs = append(c.Subs, api.Sub{Name: w[1], Ports: w[2:], Cards: m.cardsOf(k)})
		}
	}
	c.Cards = m.cardsOf(-1)
	return c
}

func (m meaning) cardsOf(home int) []api.Card {
	var l []api.Card
	for k, line := range m {
		if m.isCard(k) && m.home(k) == home {
			c, _ := card.Read(line.Words)
			l = append(l, c)
		}
	}
	return l
}

// meant is what the chapter's words say of Parse.
func meant(text string) told {
	lines, at, err := lex.Lines(text)
	if err != 0 {
		return told{at: at, err: err}
	}
	m := meaning(lines)
	for k, line := range m {
		if err := m.fault(k); err != 0 {
			return told{at: line.At, err: err}
		}
	}
	if k := m.home(len(m)); k >= 0 {
		return told{at: m[k].At, err: 80}
	}
	for k, line := range m {
		if !m.isCard(k) {
			continue
		}
		if err := m.refFault(k); err != 0 {
			return told{at: line.At, err: err}
		}
	}
	return told{c: m.circuit()}
}

// meantCheck is what the chapter's words say of Check: all that c is refused for, and of that what is named first.
func meantCheck(c api.Circuit) api.Errno {
	faults := meantRefs(c)
	if order, err := num.Cmp(c.Step, n(0, 0)); order <= 0 || err != 0 || c.Method != 1 && c.Method != 2 {
		faults = append(faults, 1)
	}
	names := map[string]int{}
	for _, x := range c.Models {
		names["model "+x.Name]++
		if !model.Valid(x) {
			faults = append(faults, 50)
		}
	}
	lists := map[string][]api.Card{"": c.Cards}
	for i, s := range c.Subs {
		names["sub "+s.Name]++
		lists[strings.Repeat("+", i+1)] = s.Cards
		if !aName.MatchString(s.Name) || len(s.Ports) < 1 || len(s.Ports) > 8 {
			faults = append(faults, 70)
		}
		for _, p := range s.Ports {
			names["port "+strings.Repeat("+", i)+p]++
			if !aPort.MatchString(p) {
				faults = append(faults, 70)
			}
		}
	}
	for list, l := range lists {
		for _, x := range l {
			names["card "+list+x.Name]++
			if _, err := card.Write(x); err != 0 {
				faults = append(faults, 70)
			}
		}
		if len(l) > 64 {
			faults = append(faults, 7)
		}
	}
	if len(c.Models) > 16 || len(c.Subs) > 8 {
		faults = append(faults, 7)
	}
	for _, times := range names {
		if times > 1 {
			faults = append(faults, 8)
		}
	}
	for _, err := range []api.Errno{1, 50, 70, 7, 8, 81, 82} {
		if slices.Contains(faults, err) {
			return err
		}
	}
	return 0
}

// meantRefs are what the Refs of c are refused for, one for each Ref.
func meantRefs(c api.Circuit) []api.Errno {
	var faults []api.Errno
	ask := func(cards []api.Card, subs []api.Sub) {
		for _, x := range cards {
			faults = append(faults, meantRef(c.Models, cards, subs, x))
		}
	}
	ask(c.Cards, c.Subs)
	for i, s := range c.Subs {
		ask(s.Cards, c.Subs[:i])
	}
	return faults
}

func meantRef(models []api.Model, cards []api.Card, subs []api.Sub, x api.Card) api.Errno {
	ports := map[string]int{}
	for _, s := range subs {
		ports["x "+s.Name] = len(s.Ports)
	}
	for _, m := range models {
		ports[string([]byte{m.Kind})+" "+m.Name] = len(x.Nodes)
	}
	for _, y := range cards {
		if strings.HasPrefix(y.Name, "v") {
			ports["f "+y.Name], ports["h "+y.Name] = len(x.Nodes), len(x.Nodes)
		}
	}
	if x.Name == "" || !strings.Contains("dsfhx", x.Name[:1]) {
		return 0
	}
	count, ok := ports[x.Name[:1]+" "+x.Ref]
	switch {
	case !ok:
		return 81
	case count != len(x.Nodes):
		return 82
	}
	return 0
}

// meantText is the text of a right circuit.
func meantText(c api.Circuit) string {
	step, _ := num.Text(c.Step)
	l := []string{".step " + step, ".method " + map[int]string{1: "euler", 2: "trap"}[c.Method]}
	for _, m := range c.Models {
		words, _ := card.WriteModel(m)
		l = append(l, strings.Join(words, " "))
	}
	for _, s := range c.Subs {
		l = append(l, ".subckt "+s.Name+" "+strings.Join(s.Ports, " "))
		l = append(append(l, meantCards(s.Cards)...), ".ends")
	}
	return strings.Join(append(append(l, meantCards(c.Cards)...), ".end", ""), "\n")
}

func meantCards(cards []api.Card) []string {
	var l []string
	for _, x := range cards {
		words, _ := card.Write(x)
		l = append(l, strings.Join(words, " "))
	}
	return l
}
