package formula

import "strings"

// Kinds of tokens.
const (
	atEnd = iota
	noToken
	number
	text
	word
	failName
	sign
)

// token is a part of a formula; its text is as it stands there.
type token struct {
	kind int
	text string
	at   int
}

const noBreak = "\u00a0"

// skipped is where the first token from at on begins.
func skipped(s string, at int) int {
	for at < len(s) {
		switch {
		case strings.IndexByte(" \t\n\r", s[at]) >= 0:
			at++
		case strings.HasPrefix(s[at:], noBreak):
			at += len(noBreak)
		default:
			return at
		}
	}
	return at
}

// scan is the token that begins behind the blanks from at on.
func (r *Reader) scan(s string, at int) token {
	at = skipped(s, at)
	rest := s[at:]
	if rest == "" {
		return token{atEnd, "", at}
	}
	if n := r.numberSize(rest); n > 0 {
		return token{number, rest[:n], at}
	}
	if n := textSize(rest); n > 0 {
		return token{text, rest[:n], at}
	}
	if n := wordSize(rest); n > 0 {
		return token{word, rest[:n], at}
	}
	if n := failNumber(rest); n > 0 {
		return token{failName, Fail(n), at}
	}
	if n := r.signSize(rest); n > 0 {
		return token{sign, rest[:n], at}
	}
	return token{noToken, "", at}
}

// digitsSize is how many digits a string begins with.
func digitsSize(s string) int {
	n := 0
	for n < len(s) && isDigit(s[n]) {
		n++
	}
	return n
}

// numberSize is how many bytes a NUMBER at the beginning has, or 0.
func (r *Reader) numberSize(s string) int {
	n := digitsSize(s)
	if r.point != "" && strings.HasPrefix(s[n:], r.point) {
		places := digitsSize(s[n+len(r.point):])
		if n == 0 && places == 0 {
			return 0
		}
		n += len(r.point) + places
	}
	if n == 0 || n == len(s) || s[n] != 'e' && s[n] != 'E' {
		return n
	}
	e := n + 1
	if e < len(s) && (s[e] == '+' || s[e] == '-') {
		e++
	}
	if exp := digitsSize(s[e:]); exp > 0 {
		return e + exp
	}
	return n
}

// textSize is how many bytes a TEXT at the beginning has, or 0.
func textSize(s string) int {
	if s[0] != '"' {
		return 0
	}
	for n := 1; n < len(s); n++ {
		if s[n] != '"' {
			continue
		}
		if n+1 == len(s) || s[n+1] != '"' {
			return n + 1
		}
		n++
	}
	return 0
}

// wordSize is how many bytes a WORD at the beginning has, or 0.
func wordSize(s string) int {
	n := 0
	for n < len(s) {
		c := s[n]
		first := c == '$' || 'A' <= c && c <= 'Z' || 'a' <= c && c <= 'z'
		if !first && (n == 0 || c != '.' && c != '_' && !isDigit(c)) {
			break
		}
		n++
	}
	return n
}

// failNumber is the number of the error whose name is at the beginning, or 0.
func failNumber(s string) int {
	for n := 1; Fail(n) != ""; n++ {
		if strings.HasPrefix(s, Fail(n)) {
			return n
		}
	}
	return 0
}

// signSize is how many bytes any other token at the beginning has, or 0.
func (r *Reader) signSize(s string) int {
	for _, two := range [3]string{"<>", "<=", ">="} {
		if strings.HasPrefix(s, two) {
			return len(two)
		}
	}
	if strings.IndexByte("<>=&+-*/^%():", s[0]) >= 0 {
		return 1
	}
	if strings.HasPrefix(s, r.list) {
		return len(r.list)
	}
	return 0
}
