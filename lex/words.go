package lex

import "strings"

// What a line does.
const (
	saysNothing = iota
	goesOn
	begins
)

// pieces are the lines of a text.
func pieces(text string) []string {
	l := strings.Split(text, "\n")
	if last := len(l) - 1; l[last] == "" {
		return l[:last]
	}
	return l
}

// rightBytes says whether a line has no byte that it may not have.
func rightBytes(line string) bool {
	for i := range len(line) {
		if c := line[i]; !isBlank(c) && (c < 33 || c > 126) {
			return false
		}
	}
	return true
}

func isBlank(c byte) bool { return c == 9 || c == 13 || c == 32 }

// wordsOf are the words of a line, in small letters.
func wordsOf(line string) []string {
	said, _, _ := strings.Cut(line, ";")
	var words []string
	from := 0
	for i := range len(said) {
		if isBlank(said[i]) {
			words = withWord(words, said[from:i])
			from = i + 1
		}
	}
	return withWord(words, said[from:])
}

// withWord is words with word behind them, if it has a byte.
func withWord(words []string, word string) []string {
	if word == "" {
		return words
	}
	return append(words, small(word))
}

// small is word in small letters. It is built anew even where it has no great ones: an answer shares no memory with the text.
func small(word string) string {
	b := []byte(word)
	for i, c := range b {
		if c >= 'A' && c <= 'Z' {
			b[i] = c + ('a' - 'A')
		}
	}
	return string(b)
}

// kindOf is what a line of these words does.
func kindOf(words []string) int {
	switch {
	case len(words) == 0 || words[0][0] == '*':
		return saysNothing
	case words[0][0] == '+':
		return goesOn
	}
	return begins
}

// withoutPlus is what the words of a line that goes on say.
func withoutPlus(words []string) []string {
	if words[0] == "+" {
		return words[1:]
	}
	words[0] = words[0][1:]
	return words
}
