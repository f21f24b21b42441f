package lex_test

import (
	"regexp"
	"slices"
	"strings"
	"testing"

	"shunt/api"
	"shunt/lex"
)

// told is what Lines answers.
type told struct {
	lines []api.Line
	at    int
	err   api.Errno
}

func tell(text string) told {
	lines, at, err := lex.Lines(text)
	return told{lines, at, err}
}

func sameLines(a, b []api.Line) bool {
	return slices.EqualFunc(a, b, func(x, y api.Line) bool { return x.At == y.At && slices.Equal(x.Words, y.Words) })
}

func (a told) is(b told) bool { return a.at == b.at && a.err == b.err && sameLines(a.lines, b.lines) }

// copied is a with lists of its own.
func (a told) copied() told {
	a.lines = slices.Clone(a.lines)
	for i := range a.lines {
		a.lines[i].Words = slices.Clone(a.lines[i].Words)
	}
	return a
}

// line is a line of the words that stand in a text, parted by blanks.
func line(at int, words string) api.Line { return api.Line{At: at, Words: strings.Fields(words)} }

// short is text, cut where it is too long to be told in a failure.
func short(text string) string {
	if len(text) > 400 {
		return text[:400] + ".."
	}
	return text
}

// says fails unless text has these lines.
func says(t *testing.T, text string, want ...api.Line) {
	t.Helper()
	if got := tell(text); !got.is(told{lines: want}) {
		t.Errorf("%q: %v, not %v", short(text), got, want)
	}
}

// refuses fails unless the line of that number is refused.
func refuses(t *testing.T, text string, at int, err api.Errno) {
	t.Helper()
	if got := tell(text); !got.is(told{nil, at, err}) {
		t.Errorf("%q: %v, not %d, %d", short(text), got, at, err)
	}
}

// many are so many words y with a blank between each two.
func many(count int) string { return strings.TrimSuffix(strings.Repeat("y ", count), " ") }

// dice is a row of numbers that is the same at every run.
type dice uint64

func (d *dice) next() uint64 {
	*d ^= *d << 13
	*d ^= *d >> 7
	*d ^= *d << 17
	return uint64(*d)
}

func (d *dice) below(n int) int { return int(d.next() >> 33 % uint64(n)) }

func (d *dice) of(l ...string) string { return l[d.below(len(l))] }

// text has lines of all kinds, now and then long ones, now and then one that is to be refused.
func (d *dice) text() string {
	var l []string
	for range d.below(9) {
		l = append(l, d.line())
	}
	return strings.Join(l, "\n") + d.of("", "\n")
}

func (d *dice) line() string {
	s := d.of("", "", " ", "\t", "\r \t")
	s += d.of("R1", "r2 ", "Vab", ".Model ", "x9", "+", "+ ", "+", "+ ", "++ ", "+*", "*", "* ", "", ";")
	for range d.length() {
		s += d.of(" ", " ", "\t", "\r", "  ") + d.of("a", "B", "0", "4.7K", "*", "+", "+z", "*Z", "w=[~]")
	}
	s += d.of("", "", "", " ", "\r", "; Load", ";", " ;;* + x")
	if d.below(40) == 0 {
		s += d.of("\x00", "\x7f", "\x80", "\xff", "\v", "\u00e9")
	}
	return s
}

func (d *dice) length() int {
	if d.below(6) == 0 {
		return 20 + d.below(48)
	}
	return d.below(5)
}

// meant is what the chapter's words say of a text, asked of each line apart, by other means than those of the program.
func meant(text string) told {
	if len(text) > 65536 {
		return told{err: 2}
	}
	m := meaning{strings.Split(strings.TrimSuffix(text, "\n"), "\n")}
	for k := range m.lines {
		if err := m.fault(k); err != 0 {
			return told{nil, k + 1, err}
		}
	}
	var l []api.Line
	for k := range m.lines {
		if m.first(k) != 0 && !strings.ContainsRune("*+", m.first(k)) {
			l = append(l, api.Line{At: k + 1, Words: m.whole(k, len(m.lines)-1)})
		}
	}
	return told{lines: l}
}

// A meaning asks what the lines of a text mean.
type meaning struct{ lines []string }

var (
	ahead   = regexp.MustCompile(`^[^;]*`)
	pieces  = regexp.MustCompile(`[^\t\r ]+`)
	allowed = regexp.MustCompile(`^[\t\r\x20-\x7e]*$`)
)

func (m meaning) words(k int) []string {
	return pieces.FindAllString(strings.ToLower(ahead.FindString(m.lines[k])), -1)
}

// first is the first byte of a line's first word, or 0.
func (m meaning) first(k int) rune {
	if w := m.words(k); len(w) > 0 {
		return rune(w[0][0])
	}
	return 0
}

// began is the last line ahead of k that began something, or -1.
func (m meaning) began(k int) int {
	for k--; k >= 0 && (m.first(k) == 0 || m.first(k) == '*' || m.first(k) == '+'); k-- {
	}
	return k
}

// whole is what the line k, which begins something, and those of its lines that go on up to the line end say.
func (m meaning) whole(k, end int) []string {
	l := m.words(k)
	for i := k + 1; i <= end; i++ {
		if m.first(i) == '+' && m.began(i) == k {
			l = append(l, pieces.FindAllString(strings.Replace(strings.Join(m.words(i), " "), "+", "", 1), -1)...)
		}
	}
	return l
}

// fault is what the line k is refused for, where none ahead is.
func (m meaning) fault(k int) api.Errno {
	switch {
	case !allowed.MatchString(m.lines[k]):
		return 60
	case m.first(k) == 0 || m.first(k) == '*':
		return 0
	case m.first(k) != '+':
		return tooMany(m.words(k))
	case m.began(k) < 0:
		return 61
	}
	return tooMany(m.whole(m.began(k), k))
}

func tooMany(words []string) api.Errno {
	if len(words) > 64 {
		return 7
	}
	return 0
}
