package shell

import (
	"strings"

	"wavelet/api"
)

const (
	blanks = " \t"
	digits = "0123456789abcdef"
)

// Words splits a line into its words.
func Words(line string) ([]string, api.Errno) {
	var l []string
	rest := strings.TrimLeft(line, blanks)
	for rest != "" && rest[0] != '#' {
		take := plain
		if rest[0] == '"' {
			take = quoted
		}
		word, behind, ok := take(rest)
		if !ok {
			return nil, api.ErrWord
		}
		l = append(l, word)
		rest = strings.TrimLeft(behind, blanks)
	}
	return l, api.OK
}

// plain takes a word without quotes from the beginning of a text.
func plain(s string) (word, rest string, ok bool) {
	end := strings.IndexAny(s, blanks)
	if end < 0 {
		end = len(s)
	}
	if strings.Contains(s[:end], `"`) {
		return "", "", false
	}
	return s[:end], s[end:], true
}

// quoted takes a quoted word from the beginning of a text.
func quoted(s string) (word, rest string, ok bool) {
	var b []byte
	for i := 1; i < len(s); i++ {
		switch s[i] {
		case '"':
			rest = s[i+1:]
			ok = rest == "" || strings.Contains(blanks, rest[:1])
			return string(b), rest, ok
		case '\\':
			x, size := escaped(s[i:])
			if size == 0 {
				return "", "", false
			}
			b = append(b, x)
			i += size - 1
		default:
			b = append(b, s[i])
		}
	}
	return "", "", false
}

// escaped returns the byte of an escape sequence and how many bytes the sequence has, 0 if it is none.
func escaped(s string) (x byte, size int) {
	if len(s) < 2 {
		return 0, 0
	}
	switch s[1] {
	case '\\', '"':
		return s[1], 2
	case 'n':
		return '\n', 2
	case 't':
		return '\t', 2
	case 'x':
		return hexadecimal(s[2:])
	}
	return 0, 0
}

// hexadecimal is escaped for a byte whose two digits s begins with.
func hexadecimal(s string) (x byte, size int) {
	if len(s) < 2 {
		return 0, 0
	}
	high, low := strings.IndexByte(digits, s[0]), strings.IndexByte(digits, s[1])
	if high < 0 || low < 0 {
		return 0, 0
	}
	return byte(high<<4 | low), 4
}

// Quote returns bytes as a quoted word.
func Quote(b []byte) string {
	out := []byte{'"'}
	for _, x := range b {
		switch {
		case x == '\\' || x == '"':
			out = append(out, '\\', x)
		case x == '\n':
			out = append(out, `\n`...)
		case x == '\t':
			out = append(out, `\t`...)
		case x < 32 || x > 126:
			out = append(out, '\\', 'x', digits[x>>4], digits[x&15])
		default:
			out = append(out, x)
		}
	}
	return string(append(out, '"'))
}
