package ode

import (
	"strings"

	"armillary/api"
)

// token is a token at its place in a text. Keywords and characters are kinds of
// their own, with their text as the kind.
type token struct {
	kind string
	text string
	at   int
}

// The other kinds of tokens.
const (
	nameToken   = "name"
	numberToken = "number"
	endToken    = "end"
)

const (
	blanks     = " \t\r"
	newline    = "\n"
	characters = "+-*/()[],='" + newline
)

// failure is the panic value with which errors leave the parser.
type failure struct {
	offset int
	code   api.Errno
}

// tokenAt returns the first token of a text behind an offset. In an expression, a
// newline is none, but as it would not be allowed either, the error is the same.
func tokenAt(text string, offset int) token {
	rest := strings.TrimLeft(text[offset:], blanks)
	at := len(text) - len(rest)
	switch {
	case rest == "":
		return token{endToken, "", at}
	case isLetter(rest[0]):
		return wordToken(leading(rest, isNameByte), at)
	case isDigit(rest[0]):
		return token{numberToken, leadingNumber(rest), at}
	case strings.Contains(characters, rest[:1]):
		return token{rest[:1], rest[:1], at}
	}
	panic(failure{at, api.ErrToken})
}

// wordToken returns the token of a word.
func wordToken(word string, at int) token {
	if isKeyword(word) {
		return token{word, word, at}
	}
	return token{nameToken, word, at}
}

// leadingNumber returns the number with which a text begins.
func leadingNumber(text string) string {
	n := len(leading(text, isDigit))
	if n+1 < len(text) && text[n] == '.' && isDigit(text[n+1]) {
		n += 1 + len(leading(text[n+1:], isDigit))
	}
	return text[:n]
}

// leading returns the bytes of one kind with which a text begins.
func leading(text string, kind func(byte) bool) string {
	for i := range len(text) {
		if !kind(text[i]) {
			return text[:i]
		}
	}
	return text
}

// validName reports whether a state variable may have this name.
func validName(name string) bool {
	if name == "" || len(name) > api.MaxName || isKeyword(name) {
		return false
	}
	return isLetter(name[0]) && leading(name, isNameByte) == name
}

func isKeyword(word string) bool {
	switch word {
	case "t", "sqr", "sqrt", "all":
		return true
	}
	return false
}

func isLetter(c byte) bool { return 'a' <= c && c <= 'z' }

func isDigit(c byte) bool { return '0' <= c && c <= '9' }

func isNameByte(c byte) bool { return isLetter(c) || isDigit(c) }
