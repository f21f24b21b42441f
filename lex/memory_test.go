package lex_test

import (
	"slices"
	"strings"
	"testing"
	"unsafe"

	"shunt/api"
)

// some are texts of one and of many lines, of lines that go on, and wrong ones.
func some() []string {
	d := dice(66)
	l := []string{
		"", "a", "a b c\nd e f\n+ g", "A\n+ b\n+ c\n+ d\n+ e\nf\n+ g\n+ h", "word another\n+more OfThem\nlast one", many(64), many(64) + "\n" + many(63) + "\n+y",
		strings.Repeat("same words here\n", 20), strings.Repeat("p q r\n+ s t\n", 20), "+ a", "a\nb\x00", many(65),
	}
	for range 300 {
		l = append(l, d.text())
	}
	return l
}

// room is all that a list holds, its spare room too.
func room[T any](l []T) []T { return l[:cap(l)] }

func scribble(words []string) {
	for i := range room(words) {
		room(words)[i] = "scribble"
	}
}

// Each list of words may be written over, and its spare room: the others stay as they are.
func TestNoTwoListsShareMemory(t *testing.T) {
	for _, s := range some() {
		lines := tell(s).lines
		for i := range lines {
			var were [][]string
			for _, l := range lines {
				were = append(were, slices.Clone(room(l.Words)))
			}
			scribble(lines[i].Words)
			for j := range lines {
				if j != i && !slices.Equal(room(lines[j].Words), were[j]) {
					t.Fatalf("%q: the words of %d and of %d share memory", s, lines[i].At, lines[j].At)
				}
			}
		}
	}
}

// The spare room of the answer holds nothing of what the call worked with.
func TestTheAnswersSpareRoomIsEmpty(t *testing.T) {
	for _, s := range some() {
		lines := tell(s).lines
		for _, l := range room(lines)[len(lines):] {
			if l.At != 0 || len(l.Words) != 0 || cap(l.Words) != 0 {
				t.Fatalf("%q: %v in the spare room", s, l)
			}
		}
	}
}

// inside says whether a word lies in the memory of a text.
func inside(word, text string) bool {
	from, at := uintptr(unsafe.Pointer(unsafe.StringData(text))), uintptr(unsafe.Pointer(unsafe.StringData(word)))
	return at >= from && at < from+uintptr(len(text))
}

func TestWordsShareNoMemoryWithTheText(t *testing.T) {
	for _, s := range some() {
		text := strings.Clone(s)
		for _, words := range wordsAlone(tell(text).lines) {
			for _, w := range words {
				if inside(w, text) {
					t.Fatalf("%q: the word %q lies in the text", s, w)
				}
			}
		}
		if text != s {
			t.Fatalf("%q is %q behind the call", s, text)
		}
	}
}

// An answer hangs on nothing but the text: not on answers given before, written over or not, nor on other texts.
func TestNothingIsKept(t *testing.T) {
	texts := some()
	var wants []told
	for _, s := range texts {
		wants = append(wants, tell(s).copied())
	}
	for i, s := range texts {
		got := tell(s)
		tell(texts[(i+7)%len(texts)])
		if !got.is(wants[i]) {
			t.Fatalf("%q: an answer changes with a later call", s)
		}
		for j := range got.lines {
			scribble(got.lines[j].Words)
		}
		for j := range room(got.lines) {
			room(got.lines)[j] = api.Line{At: 77, Words: []string{"scribble"}}
		}
		if again := tell(s); !again.is(wants[i]) {
			t.Fatalf("%q: %v, and %v behind a scribble", s, wants[i], again)
		}
	}
}
