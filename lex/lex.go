// Package lex is layer 1: tokens of sources. See shared/doc/01-lex.md.
package lex

import (
	"iter"
	"strconv"
	"strings"

	"duologue/api"
)

// Kinds of tokens.
const (
	Word   = 1
	Number = 2
	Sign   = 3
)

// Token is a token: its kind, its text, its number, and its first byte.
type Token struct {
	Kind int
	Text string
	N    int64
	At   int
}

const (
	blanks = " \t\n\r"
	signs  = "!?.(){}<>,:;|&+="
)

var keywords = [10]string{"def", "main", "stop", "new", "int", "bool", "end", "rec", "true", "false"}

// Tokens returns the tokens of a text, or its first fault.
func Tokens(s string) ([]Token, api.Fault) {
	if len(s) > api.MaxBytes {
		return nil, api.Fault{Err: api.ErrLimit, At: api.MaxBytes}
	}
	var l []Token
	for t, f := range scan(s) {
		if f.Err != api.OK {
			return nil, f
		}
		l = append(l, t)
	}
	return l, api.Fault{}
}

// Keyword reports whether a text is a keyword.
func Keyword(s string) bool {
	for _, k := range keywords {
		if k == s {
			return true
		}
	}
	return false
}

// Name reports whether a text is a single word and no keyword.
func Name(s string) bool {
	return s != "" && wordLen(s) == len(s) && !Keyword(s)
}

// Join returns the texts of tokens with a space between any two.
func Join(l []Token) string {
	texts := make([]string, len(l))
	for i, t := range l {
		texts[i] = t.Text
	}
	return strings.Join(texts, " ")
}

// scan yields the tokens of a text from the left; a fault is yielded last, with a zero token.
func scan(s string) iter.Seq2[Token, api.Fault] {
	return func(yield func(Token, api.Fault) bool) {
		at := skip(s, 0)
		for at < len(s) {
			t, err := tokenAt(s, at)
			if err != api.OK {
				yield(Token{}, api.Fault{Err: err, At: at})
				return
			}
			if !yield(t, api.Fault{}) {
				return
			}
			at = skip(s, at+len(t.Text))
		}
	}
}

// skip returns the index of the first byte from at on that is in no blank and no comment.
func skip(s string, at int) int {
	for at < len(s) {
		switch {
		case strings.IndexByte(blanks, s[at]) >= 0:
			at++
		case s[at] == '#':
			at += commentLen(s[at:])
		default:
			return at
		}
	}
	return at
}

// commentLen returns the length of the comment at the beginning of a text.
func commentLen(s string) int {
	// The line feed is left to the blanks: a comment ends in front of it.
	if n := strings.IndexByte(s, '\n'); n >= 0 {
		return n
	}
	return len(s)
}

// tokenAt returns the token that begins at a byte of a text, or the error there.
func tokenAt(s string, at int) (Token, api.Errno) {
	rest := s[at:]
	if n := wordLen(rest); n > 0 {
		return Token{Kind: Word, Text: rest[:n], At: at}, api.OK
	}
	if n := numberLen(rest); n > 0 {
		return number(rest[:n], at)
	}
	if strings.IndexByte(signs, rest[0]) >= 0 {
		return Token{Kind: Sign, Text: rest[:1], At: at}, api.OK
	}
	return Token{}, api.ErrSyntax
}

// number returns the token of the text of a number, or ErrLimit if it is no int64.
func number(text string, at int) (Token, api.Errno) {
	n, err := strconv.ParseInt(text, 10, 64)
	if err != nil {
		// The text has the form of a number, so only its size can be wrong.
		return Token{}, api.ErrLimit
	}
	return Token{Kind: Number, Text: text, N: n, At: at}, api.OK
}

// wordLen returns the length of the word at the beginning of a text, or 0 if there is none.
func wordLen(s string) int {
	if s == "" || !letter(s[0]) {
		return 0
	}
	n := 1
	for n < len(s) && (letter(s[n]) || digit(s[n])) {
		n++
	}
	return n
}

// numberLen returns the length of the number at the beginning of a text, or 0 if there is none.
func numberLen(s string) int {
	if strings.HasPrefix(s, "0") {
		return 1
	}
	n := 0
	if strings.HasPrefix(s, "-") {
		n = 1
	}
	if n == len(s) || s[n] == '0' || !digit(s[n]) {
		return 0
	}
	for n < len(s) && digit(s[n]) {
		n++
	}
	return n
}

// letter reports whether a byte can begin a word.
func letter(b byte) bool {
	return 'A' <= b && b <= 'Z' || 'a' <= b && b <= 'z' || b == '_'
}

func digit(b byte) bool {
	return '0' <= b && b <= '9'
}
