package lex_test

import (
	"strings"
	"testing"

	"shunt/api"
)

func TestLinesThatSayNothing(t *testing.T) {
	for _, s := range []string{
		"", "\n", "\n\n", " ", "\t", "\r", "\r\n", " \t\r \n\t", ";", ";;", "; r1 a b", ";+ a", ";* a", " ;a", "\t;\r", "*", "**", "* a", "*a b", " *", "\t\r* a",
		"*;", "* ; a", "*+", "*+ a", "* + a", "* a\n*b\n;c\n \n", "* " + many(65), "*" + many(2000), "; " + many(65),
	} {
		says(t, s)
		says(t, s+"\nq", line(2+strings.Count(s, "\n"), "q"))
		says(t, "p\n"+s+"\n+ q", line(1, "p q"))
	}
}

func TestTheLastLine(t *testing.T) {
	says(t, "a", line(1, "a"))
	says(t, "a\n", line(1, "a"))
	says(t, "a\n\n", line(1, "a"))
	says(t, "a\nb", line(1, "a"), line(2, "b"))
	says(t, "a\nb\n", line(1, "a"), line(2, "b"))
	says(t, "a\n+b", line(1, "a b"))
	says(t, "a\n+b\n", line(1, "a b"))
	says(t, "\na", line(2, "a"))
	says(t, "\n\n\na\n", line(4, "a"))
	says(t, "a\n;", line(1, "a"))
	says(t, "a\n;\n", line(1, "a"))
	says(t, "a\r\nb\r\n", line(1, "a"), line(2, "b"))
}

func TestBlanks(t *testing.T) {
	for _, b := range []string{"\t", "\r", " ", "  ", "\t\r ", " \t", "\r\r"} {
		says(t, "a"+b+"b", line(1, "a b"))
		says(t, b+"a"+b+b+"b"+b, line(1, "a b"))
		says(t, b+"a;"+b+"b", line(1, "a"))
		says(t, "a"+b+";"+b+"b", line(1, "a"))
		says(t, "a\n"+b+"+"+b+"b"+b, line(1, "a b"))
		says(t, "a\n"+b+"+b"+b+"c", line(1, "a b c"))
		says(t, "a\n"+b+"*"+b+"b"+b, line(1, "a"))
		says(t, b+"\n"+b+"\na", line(3, "a"))
	}
}

func TestRemarks(t *testing.T) {
	says(t, "a;b", line(1, "a"))
	says(t, "a ;b c;d", line(1, "a"))
	says(t, "a b; c ;", line(1, "a b"))
	says(t, ";a\nb", line(2, "b"))
	says(t, "a\n;+ b\n+ c", line(1, "a c"))
	says(t, "a\n+;b\n+ ; c\n+d;e", line(1, "a d"))
	says(t, "a ;\n; b\n+ c ; d", line(1, "a c"))
}

func TestStars(t *testing.T) {
	says(t, "a *", line(1, "a *"))
	says(t, "a *b **c d*", line(1, "a *b **c d*"))
	says(t, "a\n*b\n* c\nd", line(1, "a"), line(4, "d"))
	says(t, "a\n+ *b", line(1, "a *b"))
	says(t, "a\n+*b c", line(1, "a *b c"))
	says(t, "a\n+*", line(1, "a *"))
	says(t, "a\n* b\n+ c", line(1, "a c"))
}

func TestPluses(t *testing.T) {
	says(t, "a +", line(1, "a +"))
	says(t, "a +b ++c d+", line(1, "a +b ++c d+"))
	says(t, "a\n+", line(1, "a"))
	says(t, "a\n+\n+\n+ b\n+", line(1, "a b"))
	says(t, "a\n+b", line(1, "a b"))
	says(t, "a\n+ b", line(1, "a b"))
	says(t, "a\n+b c", line(1, "a b c"))
	says(t, "a\n+ b c\n+d", line(1, "a b c d"))
	says(t, "a\n++", line(1, "a +"))
	says(t, "a\n++b", line(1, "a +b"))
	says(t, "a\n+ +", line(1, "a +"))
	says(t, "a\n+ +b", line(1, "a +b"))
	says(t, "a\n+b +c", line(1, "a b +c"))
	says(t, "a\n\n+ b", line(1, "a b"))
	says(t, "a\nb\n+ c\nd", line(1, "a"), line(2, "b c"), line(4, "d"))
	says(t, "\n* t\na\n+ b\n\n; r\n+ c\nd\n+e\n", line(3, "a b c"), line(8, "d e"))
}

func TestGreatLetters(t *testing.T) {
	says(t, "ABCDEFGHIJKLMNOPQRSTUVWXYZ", line(1, "abcdefghijklmnopqrstuvwxyz"))
	says(t, "abcdefghijklmnopqrstuvwxyz", line(1, "abcdefghijklmnopqrstuvwxyz"))
	says(t, "aBcD 1E3 @[`{ .SubCkt", line(1, "abcd 1e3 @[`{ .subckt"))
	says(t, "A\n+B C\n+ Dd", line(1, "a b c dd"))
}

// Each byte that a word may have stands in one as it is, but for great letters.
func TestEachByteOfAWord(t *testing.T) {
	for c := byte(33); c <= 126; c++ {
		if c == ';' {
			continue
		}
		s := string([]byte{c})
		word := strings.ToLower(s)
		says(t, "x"+s+"y "+s+" "+s+s, line(1, "x"+word+"y "+word+" "+word+word))
		says(t, "x\n+"+s+"\n+ "+s, line(1, "x "+word+" "+word))
		says(t, "* "+s+"\n;"+s)
		if c != '*' && c != '+' {
			says(t, s, line(1, word))
			says(t, "q\n"+s+"z", line(1, "q"), line(2, word+"z"))
		}
	}
}

func TestAsManyWordsAsMayBe(t *testing.T) {
	const most = api.MaxWords
	says(t, many(most), line(1, many(most)))
	says(t, " "+many(most)+" ; "+many(most), line(1, many(most)))
	says(t, many(most)+"\n+\n+ ; y\n* y\n+", line(1, many(most)))
	says(t, many(most)+"\n"+many(most)+"\n"+many(most-1)+"\n+y", line(1, many(most)), line(2, many(most)), line(3, many(most)))
	for count := 1; count < most; count++ {
		says(t, many(count)+"\n+ "+many(most-count), line(1, many(most)))
		says(t, many(count)+"\n+"+many(most-count), line(1, many(most)))
	}
	says(t, "y"+strings.Repeat("\n+y", most-1), line(1, many(most)))
	says(t, "y"+strings.Repeat("\n+ y\n+", most-1), line(1, many(most)))
}

func TestTextsAsLongAsMayBe(t *testing.T) {
	const most = api.MaxText
	for _, s := range []string{"r", "R", "\n", " ", ";", "*", "a\n", "a\n+b\n", "a ;", "\r\n"} {
		full := strings.Repeat(s, most)[:most]
		if got, want := tell(full), meantLong(s); !got.is(want) {
			t.Errorf("%q again and again: %d lines, %d, %d, not %d lines", s, len(got.lines), got.at, got.err, len(want.lines))
		}
		refuses(t, full+"\n", 0, api.ErrLong)
		refuses(t, full+"a", 0, api.ErrLong)
	}
	says(t, strings.Repeat("\n", most-1)+"a", line(most, "a"))
	says(t, "a"+strings.Repeat("\n", most-2)+"b", line(1, "a"), line(most-1, "b"))
	says(t, "a"+strings.Repeat(" ", most-2)+"b", line(1, "a b"))
	refuses(t, strings.Repeat("\n", most-1)+"+", most, api.ErrJoin)
	refuses(t, strings.Repeat("\n", most-1)+"\x00", most, api.ErrByte)
}

// meantLong is what is told of s, put down again and again up to api.MaxText bytes.
func meantLong(s string) told {
	var l []api.Line
	switch s {
	case "r", "R":
		l = append(l, line(1, strings.Repeat("r", api.MaxText)))
	case "a ;":
		l = append(l, line(1, "a"))
	case "a\n":
		for k := range api.MaxText / 2 {
			l = append(l, line(k+1, "a"))
		}
	case "a\n+b\n":
		for k := range api.MaxText / 5 {
			l = append(l, line(2*k+1, "a b"))
		}
		l = append(l, line(2*(api.MaxText/5)+1, "a"))
	}
	return told{lines: l}
}
