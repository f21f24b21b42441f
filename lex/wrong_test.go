package lex_test

import (
	"strings"
	"testing"

	"shunt/api"
)

// wrongBytes are those that no line may have. The byte 10 is none of them: it parts lines.
func wrongBytes() []string {
	var l []string
	for c := range 256 {
		if c != 9 && c != 10 && c != 13 && (c < 32 || c > 126) {
			l = append(l, string([]byte{byte(c)}))
		}
	}
	return l
}

func TestWrongBytes(t *testing.T) {
	if n := len(wrongBytes()); n != 256-95-3 {
		t.Fatal(n)
	}
	for _, c := range wrongBytes() {
		for _, s := range []string{
			c, c + "a", "a" + c, "a" + c + "b", "a " + c, "a " + c + " b", "a b" + c, // in words
			";" + c, "; a" + c, "a ;" + c + "b", "a;;" + c, "a b ; c d " + c, // behind ;
			" " + c, "\t\r" + c + " ", "*" + c, "* " + c, "* a " + c + " b", "*;" + c, " * a ; b" + c, // in lines that say nothing
		} {
			refuses(t, s, 1, api.ErrByte)
			refuses(t, s+"\n", 1, api.ErrByte)
			refuses(t, s+"\nq", 1, api.ErrByte)
			refuses(t, "p\n"+s+"\nq", 2, api.ErrByte)
			refuses(t, "p\n+ q\n\n"+s, 4, api.ErrByte)
		}
		refuses(t, "p\n+"+c, 2, api.ErrByte)
		refuses(t, "p\n+ q"+c, 2, api.ErrByte)
		refuses(t, "p\n+ ; "+c, 2, api.ErrByte)
	}
}

// Letters of more than one byte are bytes that no line may have, each of them.
func TestLongLetters(t *testing.T) {
	for _, s := range []string{"\u00e9", "\u00a0", "\u2028", "\u212a", "\U0001f600", "\ufeff", "\ufffd"} {
		refuses(t, "a "+s, 1, api.ErrByte)
		refuses(t, "a\n* "+s, 2, api.ErrByte)
		refuses(t, s+"a", 1, api.ErrByte)
	}
}

func TestNothingToGoOnWith(t *testing.T) {
	for _, s := range []string{"+", "+ a", "+a", "++", "+*", " +", "\t+ a", "+;", "+ ; a", "+a\nb", "+\nb\n+c"} {
		refuses(t, s, 1, api.ErrJoin)
		refuses(t, s+"\n", 1, api.ErrJoin)
		refuses(t, "\n"+s, 2, api.ErrJoin)
		refuses(t, "* a\n\n;b\n \r\n"+s, 5, api.ErrJoin)
	}
	refuses(t, "* "+many(70)+"\n+ a", 2, api.ErrJoin)
}

func TestOneWordTooMany(t *testing.T) {
	const most = api.MaxWords
	for _, s := range []string{many(most + 1), many(most+1) + ";", "Y\t" + many(most), many(1000), many(most) + " *", many(most) + " + ; z", " " + many(most) + "\r+y "} {
		refuses(t, s, 1, api.ErrMany)
		refuses(t, s+"\n", 1, api.ErrMany)
		refuses(t, "p\n+ q\n* r\n"+s+"\n+ z\n", 4, api.ErrMany)
	}
	for count := 1; count <= most; count++ {
		refuses(t, many(count)+"\n+ "+many(most+1-count), 2, api.ErrMany)
		refuses(t, "p\n"+many(count)+"\n\n+"+many(most+1-count)+"\nq", 4, api.ErrMany)
	}
	refuses(t, many(most)+"\n+\n+ y", 3, api.ErrMany)
	refuses(t, many(most)+"\n++", 2, api.ErrMany)
	refuses(t, many(most)+"\n+*", 2, api.ErrMany)
	refuses(t, "y"+strings.Repeat("\n+y", most), most+1, api.ErrMany)
	refuses(t, "y"+strings.Repeat("\n*\n+ y", most), 2*most+1, api.ErrMany)
	refuses(t, "y\n+ "+many(1000), 2, api.ErrMany)
}

// Of two lines that are to be refused the first is told, whatever it is refused for.
func TestTheFirstOfTwoLines(t *testing.T) {
	const most = api.MaxWords
	refuses(t, "a\x00\n\x01", 1, api.ErrByte)
	refuses(t, "\x00\n+ a", 1, api.ErrByte)
	refuses(t, "a \x00\n"+many(most+1), 1, api.ErrByte)
	refuses(t, "+ a\n+ b", 1, api.ErrJoin)
	refuses(t, "+ a\n\x00", 1, api.ErrJoin)
	refuses(t, "+ a\n"+many(most+1), 1, api.ErrJoin)
	refuses(t, many(most+1)+"\n"+many(most+1), 1, api.ErrMany)
	refuses(t, many(most+1)+"\n\x00", 1, api.ErrMany)
	refuses(t, many(most)+"\n+y\n+\x00", 2, api.ErrMany)
	refuses(t, many(most)+"\n+\x00\n+y", 2, api.ErrByte)
	refuses(t, "* \xff\n+ a\n"+many(most+1), 1, api.ErrByte)
	refuses(t, "*\n+ a\n; \xff", 2, api.ErrJoin)
}

// Of two errors of one line the one that is named first is told.
func TestTheFirstOfTwoErrors(t *testing.T) {
	const most = api.MaxWords
	refuses(t, "+ \x00", 1, api.ErrByte)
	refuses(t, "+ a ; \x00", 1, api.ErrByte)
	refuses(t, "+\x7f", 1, api.ErrByte)
	refuses(t, many(most+1)+"\x00", 1, api.ErrByte)
	refuses(t, many(most+1)+" ; \x80", 1, api.ErrByte)
	refuses(t, "y\n+ "+many(most)+" ; \x80", 2, api.ErrByte)
	refuses(t, "+ "+many(most+1), 1, api.ErrJoin)
	refuses(t, "\n+"+many(most+1), 2, api.ErrJoin)
	refuses(t, "+ "+many(most+1)+";\x1f", 1, api.ErrByte)
}

// A text that is too long is told ahead of all that its lines are refused for, with no line's number.
func TestTooLongAheadOfAll(t *testing.T) {
	for _, s := range []string{"\x00", "+", "+ a\n", many(65) + "\n", "* \xff", "\n"} {
		refuses(t, s+strings.Repeat(" ", api.MaxText+1-len(s)), 0, api.ErrLong)
		refuses(t, s+strings.Repeat("\n", api.MaxText+1-len(s)), 0, api.ErrLong)
		refuses(t, strings.Repeat("\n", api.MaxText+1-len(s))+s, 0, api.ErrLong)
		refuses(t, strings.Repeat(s, api.MaxText+1), 0, api.ErrLong)
	}
}
