package card_test

import (
	"regexp"
	"slices"
	"strconv"
	"strings"
	"testing"

	"shunt/api"
	"shunt/card"
	"shunt/model"
	"shunt/num"
	"shunt/wave"
)

const kinds = "rclviegfhtdsx"

func n(mant int64, exp int) api.Num { return api.Num{Mant: mant, Exp: exp} }

func list(l ...api.Num) []api.Num { return l }

// words are those of a line, parted by blanks; ~ stands for a word without bytes.
func words(line string) []string {
	l := strings.Fields(line)
	for i, w := range l {
		if w == "~" {
			l[i] = ""
		}
	}
	return l
}

func sameWave(a, b api.Wave) bool {
	return a.Kind == b.Kind && slices.Equal(a.Vals, b.Vals) && slices.Equal(a.Steps, b.Steps)
}

func sameCard(a, b api.Card) bool {
	return a.Name == b.Name && slices.Equal(a.Nodes, b.Nodes) && a.Ref == b.Ref && a.Value == b.Value && sameWave(a.Wave, b.Wave)
}

func sameModel(a, b api.Model) bool {
	return a.Name == b.Name && a.Kind == b.Kind && slices.Equal(a.G, b.G) && slices.Equal(a.V, b.V)
}

// short is a list of words, cut where it is too long to be told in a failure.
func short(l []string) string {
	s := strconv.Quote(strings.Join(l, " "))
	if len(s) > 400 {
		return s[:400] + ".."
	}
	return s
}

// reads fails unless the line is read as that card.
func reads(t *testing.T, line string, want api.Card) {
	t.Helper()
	if c, err := card.Read(words(line)); !sameCard(c, want) || err != api.OK {
		t.Errorf("Read(%s): %v with error %d, not %v", line, c, err, want)
	}
}

// unread fails unless Read answers that error and nothing else.
func unread(t *testing.T, l []string, want api.Errno) {
	t.Helper()
	if c, err := card.Read(l); !sameCard(c, api.Card{}) || err != want {
		t.Errorf("Read(%s): %v with error %d, not nothing with error %d", short(l), c, err, want)
	}
}

// refuses fails unless Read answers that error of the line, and nothing else.
func refuses(t *testing.T, line string, want api.Errno) {
	t.Helper()
	unread(t, words(line), want)
}

// writes fails unless the card has the words of that line.
func writes(t *testing.T, c api.Card, line string) {
	t.Helper()
	if l, err := card.Write(c); strings.Join(l, " ") != line || !slices.Equal(l, words(line)) || err != api.OK {
		t.Errorf("Write(%v): %q with error %d, not %s", c, l, err, line)
	}
}

// goes fails unless the line is read as the card, and the card written as the line.
func goes(t *testing.T, line string, c api.Card) {
	t.Helper()
	reads(t, line, c)
	writes(t, c, line)
}

// unwritten fails unless Write refuses the card.
func unwritten(t *testing.T, c api.Card) {
	t.Helper()
	if l, err := card.Write(c); len(l) != 0 || err != api.ErrCard {
		t.Errorf("Write(%v): %s with error %d, not nothing with error %d", c, short(l), err, api.ErrCard)
	}
}

// readsModel fails unless the line is read as that model.
func readsModel(t *testing.T, line string, want api.Model) {
	t.Helper()
	if m, err := card.ReadModel(words(line)); !sameModel(m, want) || err != api.OK {
		t.Errorf("ReadModel(%s): %v with error %d, not %v", line, m, err, want)
	}
}

// refusesModel fails unless ReadModel answers that error of the line, and nothing else.
func refusesModel(t *testing.T, line string, want api.Errno) {
	t.Helper()
	if m, err := card.ReadModel(words(line)); !sameModel(m, api.Model{}) || err != want {
		t.Errorf("ReadModel(%s): %v with error %d, not nothing with error %d", line, m, err, want)
	}
}

// goesModel fails unless the line is read as the model, and the model written as the line.
func goesModel(t *testing.T, line string, m api.Model) {
	t.Helper()
	readsModel(t, line, m)
	if l, err := card.WriteModel(m); strings.Join(l, " ") != line || !slices.Equal(l, words(line)) || err != api.OK {
		t.Errorf("WriteModel(%v): %q with error %d, not %s", m, l, err, line)
	}
}

// unwrittenModel fails unless WriteModel refuses the model.
func unwrittenModel(t *testing.T, m api.Model) {
	t.Helper()
	if l, err := card.WriteModel(m); len(l) != 0 || err != api.ErrModel {
		t.Errorf("WriteModel(%v): %s with error %d, not nothing with error %d", m, short(l), err, api.ErrModel)
	}
}

// What follows is the chapter asked another way: its rows word by word, its names and step numbers by regular expressions.

var (
	aName   = regexp.MustCompile(`^[a-z0-9_]{1,16}$`)
	aDevice = regexp.MustCompile(`^[rclviegfhtdsx][a-z0-9_]{0,15}$`)
	aSource = regexp.MustCompile(`^v[a-z0-9_]{0,15}$`)
	aStep   = regexp.MustCompile(`^(0|[1-9][0-9]{0,8}|1000000000)$`)
)

// rows are the forms of a kind's cards. OTHER is a number whose word tells no other form of a wave.
func rows(kind byte) []string {
	var l []string
	switch kind {
	case 'r', 'c', 'l':
		l = append(l, "NAME A B X")
	case 'v', 'i':
		l = append(l, "NAME A B OTHER", "NAME A B dc X", "NAME A B pulse X X S S S S S")
		for k := 1; k <= 16; k++ {
			l = append(l, "NAME A B pwl"+strings.Repeat(" S X", k), "NAME A B table"+strings.Repeat(" X", k))
		}
	case 'e', 'g', 't':
		l = append(l, "NAME A B C D X")
	case 'f', 'h':
		l = append(l, "NAME A B REF X")
	case 'd':
		l = append(l, "NAME A B MODEL")
	case 's':
		l = append(l, "NAME A B C D MODEL")
	case 'x':
		for k := 1; k <= 8; k++ {
			l = append(l, "NAME"+strings.Repeat(" N", k)+" SUB")
		}
	}
	return l
}

func modelRows() []string {
	return []string{".model NAME d X", ".model NAME d X X X", ".model NAME d X X X X X", ".model NAME d X X X X X X X", ".model NAME s X X X"}
}

// fits says whether words are as many as a row's, those that the row has in small letters the same, and OTHER none of them.
func fits(row, words []string) bool {
	if len(row) != len(words) {
		return false
	}
	for i, what := range row {
		if what == strings.ToLower(what) && what != words[i] {
			return false
		}
		if what == "OTHER" && slices.Contains([]string{"pulse", "pwl", "table", "dc"}, words[i]) {
			return false
		}
	}
	return true
}

// find is the row that words fit, or none.
func find(rows []string, l []string) []string {
	for _, r := range rows {
		if row := words(r); fits(row, l) {
			return row
		}
	}
	return nil
}

// nameless says whether a word isn't the name that the row asks for.
func nameless(what, word string) bool {
	switch what {
	case "A", "B", "C", "D", "N", "MODEL", "SUB":
		return !aName.MatchString(word)
	case "REF":
		return !aSource.MatchString(word)
	}
	return false
}

// numbersOf are the numbers and the step numbers of words, or the error of the first that isn't one.
func numbersOf(row, l []string) ([]api.Num, []int, api.Errno) {
	var nums []api.Num
	var steps []int
	for i, what := range row {
		switch what {
		case "X", "OTHER":
			x, err := num.Parse(l[i])
			if err != 0 {
				return nil, nil, err
			}
			nums = append(nums, x)
		case "S":
			if !aStep.MatchString(l[i]) {
				return nil, nil, 3
			}
			k, _ := strconv.Atoi(l[i])
			steps = append(steps, k)
		}
	}
	return nums, steps, 0
}

// meant is what the chapter's words say of Read.
func meant(l []string) (api.Card, api.Errno) {
	if len(l) == 0 || !aDevice.MatchString(l[0]) {
		return api.Card{}, 70
	}
	row := find(rows(l[0][0]), l)
	if row == nil {
		return api.Card{}, 70
	}
	c := api.Card{Name: l[0]}
	for i, what := range row {
		if nameless(what, l[i]) {
			return api.Card{}, 71
		}
		switch what {
		case "A", "B", "C", "D", "N":
			c.Nodes = append(c.Nodes, l[i])
		case "REF", "MODEL", "SUB":
			c.Ref = l[i]
		}
	}
	nums, steps, err := numbersOf(row, l)
	switch {
	case err != 0:
		return api.Card{}, err
	case strings.Contains("vi", l[0][:1]):
		kind := map[string]int{"pulse": 2, "pwl": 3, "table": 4}[row[3]]
		c.Wave = api.Wave{Kind: max(kind, 1), Vals: nums, Steps: steps}
		if !wave.Valid(c.Wave) {
			return api.Card{}, 40
		}
	case len(nums) == 1:
		c.Value = nums[0]
		if strings.Contains("rcl", l[0][:1]) && c.Value.Mant == 0 {
			return api.Card{}, 11
		}
	}
	return c, 0
}

// meantModel is what the chapter's words say of ReadModel.
func meantModel(l []string) (api.Model, api.Errno) {
	row := find(modelRows(), l)
	if row == nil {
		return api.Model{}, 70
	}
	if !aName.MatchString(l[1]) {
		return api.Model{}, 71
	}
	nums, _, err := numbersOf(row, l)
	if err != 0 {
		return api.Model{}, err
	}
	m := api.Model{Name: l[1], Kind: l[2][0], G: nums[:1:1]}
	for i := 1; i < len(nums); i += 2 {
		m.V, m.G = append(m.V, nums[i]), append(m.G, nums[i+1])
	}
	if !model.Valid(m) {
		return api.Model{}, 50
	}
	return m, 0
}

// meantLine is the line of a card that is right, field by field, and whether it is.
func meantLine(c api.Card) (string, bool) {
	if !aDevice.MatchString(c.Name) || slices.ContainsFunc(c.Nodes, func(s string) bool { return !aName.MatchString(s) }) {
		return "", false
	}
	line := c.Name + " " + strings.Join(c.Nodes, " ")
	value, err := num.Text(c.Value)
	valued := err == 0 && c.Ref == "" && sameWave(c.Wave, api.Wave{})
	named := aName.MatchString(c.Ref) && c.Value == api.Num{} && sameWave(c.Wave, api.Wave{})
	switch two, four := len(c.Nodes) == 2, len(c.Nodes) == 4; c.Name[0] {
	case 'r', 'c', 'l':
		return line + " " + value, valued && two && c.Value.Mant != 0
	case 'v', 'i':
		return line + " " + waveLine(c.Wave), two && c.Ref == "" && c.Value == api.Num{} && wave.Valid(c.Wave)
	case 'e', 'g', 't':
		return line + " " + value, valued && four
	case 'f', 'h':
		return line + " " + c.Ref + " " + value, err == 0 && two && aSource.MatchString(c.Ref) && sameWave(c.Wave, api.Wave{})
	case 'd':
		return line + " " + c.Ref, named && two
	case 's':
		return line + " " + c.Ref, named && four
	}
	return line + " " + c.Ref, named && 1 <= len(c.Nodes) && len(c.Nodes) <= 8
}

func waveLine(w api.Wave) string {
	var l []string
	for i, x := range w.Vals {
		s, _ := num.Text(x)
		if w.Kind == api.WavePwl && i < len(w.Steps) {
			l = append(l, strconv.Itoa(w.Steps[i]))
		}
		l = append(l, s)
	}
	if w.Kind == api.WavePulse {
		for _, k := range w.Steps {
			l = append(l, strconv.Itoa(k))
		}
	}
	if w.Kind < 1 || w.Kind > 4 {
		return ""
	}
	return []string{"dc ", "pulse ", "pwl ", "table "}[w.Kind-1] + strings.Join(l, " ")
}
