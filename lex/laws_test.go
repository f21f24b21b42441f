package lex_test

import (
	"slices"
	"strings"
	"testing"

	"shunt/api"
)

func asMeant(t *testing.T, text string) {
	t.Helper()
	if got, want := tell(text), meant(text); !got.is(want) {
		t.Fatalf("%q: %v, not %v", text, got, want)
	}
}

// each hands on every text of that length of the bytes of an alphabet.
func each(alphabet string, length int, take func(string)) {
	if length == 0 {
		take("")
		return
	}
	each(alphabet, length-1, func(s string) {
		for i := range len(alphabet) {
			take(s + alphabet[i:i+1])
		}
	})
}

func TestShortTextsAreReadAsMeant(t *testing.T) {
	for length := range 7 {
		each("aB*+; \n", length, func(s string) { asMeant(t, s) })
	}
	for length := range 5 {
		each("aZ*+;\t\r \n\x00\xc3", length, func(s string) { asMeant(t, s) })
	}
}

func TestEveryTwoBytesAreReadAsMeant(t *testing.T) {
	for a := range 256 {
		for b := range 256 {
			asMeant(t, string([]byte{byte(a), byte(b)}))
			asMeant(t, string([]byte{'x', '\n', byte(a), byte(b)}))
		}
	}
}

func TestLongerTextsAreReadAsMeant(t *testing.T) {
	var count [256]int
	d := dice(61)
	for range 20000 {
		s := d.text()
		asMeant(t, s)
		count[tell(s).err]++
	}
	for _, err := range []api.Errno{api.OK, api.ErrByte, api.ErrJoin, api.ErrMany} {
		if count[err] < 500 {
			t.Errorf("only %d texts with error %d", count[err], err)
		}
	}
}

func rightWord(w string) bool {
	for i := range len(w) {
		if c := w[i]; c < 33 || c > 126 || c == ';' || c >= 'A' && c <= 'Z' {
			return false
		}
	}
	return len(w) > 0
}

// wordsAlone are the words of lines, without their numbers.
func wordsAlone(lines []api.Line) [][]string {
	var l [][]string
	for _, a := range lines {
		l = append(l, a.Words)
	}
	return l
}

func sameWords(a, b []api.Line) bool {
	return slices.EqualFunc(wordsAlone(a), wordsAlone(b), slices.Equal)
}

func writtenOut(lines []api.Line) string {
	var l []string
	for _, words := range wordsAlone(lines) {
		l = append(l, strings.Join(words, " "))
	}
	return strings.Join(l, "\n")
}

func TestWordsAreRightAndReadAgain(t *testing.T) {
	d := dice(62)
	texts := []string{"", many(64), many(64) + "\n" + many(64), strings.Repeat("R", api.MaxText), strings.Repeat("a\n", api.MaxText/2)}
	for range 20000 {
		texts = append(texts, d.text())
	}
	for _, s := range texts {
		a := tell(s)
		for _, words := range wordsAlone(a.lines) {
			if len(words) == 0 || len(words) > api.MaxWords || !rightAll(words) || strings.ContainsAny(words[0][:1], "*+") {
				t.Fatalf("%q: the words %q", short(s), words)
			}
		}
		out := writtenOut(a.lines)
		b := tell(out)
		if b.err != api.OK || b.at != 0 || !sameWords(a.lines, b.lines) {
			t.Fatalf("%q: %v, written out %v", short(s), a, b)
		}
		for k, l := range b.lines {
			if l.At != k+1 {
				t.Fatalf("%q: the line %d is told at %d", out, k+1, l.At)
			}
		}
		if len(out) < api.MaxText && !tell(out+"\n").is(b) {
			t.Fatalf("%q: a byte 10 at the end makes a difference", short(out))
		}
	}
}

func rightAll(words []string) bool {
	return !slices.ContainsFunc(words, func(w string) bool { return !rightWord(w) })
}

// idle are lines that say nothing.
var idle = []string{"", " ", "\t\r", "*", "* x Y", "*x", "  * + x", "; r", ";", " ;+ x", "*+ x", "* " + many(70), "; " + many(70)}

// puts fails unless the words stay, and the lines' numbers are as far on as lines were put in ahead of them.
func puts(t *testing.T, was, is string, moved func(int) int) {
	t.Helper()
	want := tell(was).copied()
	for k := range want.lines {
		want.lines[k].At = moved(want.lines[k].At)
	}
	want.at = moved(want.at)
	if got := tell(is); !got.is(want) {
		t.Fatalf("%q: %v, and %q: %v", was, tell(was), is, got)
	}
}

func TestIdleLinesMayBePutIn(t *testing.T) {
	d := dice(63)
	for range 3000 {
		s := strings.TrimSuffix(d.text(), "\n")
		lines := strings.Split(s, "\n")
		for k := range len(lines) + 1 {
			with := slices.Insert(slices.Clone(lines), k, d.of(idle...))
			puts(t, s, strings.Join(with, "\n"), func(at int) int {
				if at > k {
					return at + 1
				}
				return at
			})
		}
	}
}

func TestRemarksMayBePutIn(t *testing.T) {
	d := dice(64)
	for range 3000 {
		s := d.text()
		lines := strings.Split(s, "\n")
		for k := range lines {
			with := slices.Clone(lines)
			with[k] += d.of(";", "; x", ";X + * ;", " ;\t"+many(70), "\r;")
			puts(t, s, strings.Join(with, "\n"), func(at int) int { return at })
		}
	}
}

// What says nothing is taken away of texts that are read, all of it at once.
func TestIdleLinesAndRemarksMayBeTakenAway(t *testing.T) {
	d := dice(65)
	for range 20000 {
		s := d.text()
		a := tell(s)
		if a.err != api.OK {
			continue
		}
		var bare []string
		for l := range strings.SplitSeq(s, "\n") {
			l, _, _ = strings.Cut(l, ";")
			if w := strings.Trim(l, "\t\r "); w != "" && w[0] != '*' {
				bare = append(bare, l)
			}
		}
		if b := tell(strings.Join(bare, "\n")); b.err != api.OK || b.at != 0 || !sameWords(a.lines, b.lines) {
			t.Fatalf("%q: %v, and bare %v", s, a, b)
		}
	}
}
