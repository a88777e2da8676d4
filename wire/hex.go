package wire

import "ferry/api"

// Hex: the bytes in base 16.
func Hex(b []byte) string {
	text := make([]byte, 0, 2*len(b))
	for _, c := range b {
		text = append(text, digit(c>>4), digit(c&15))
	}
	return string(text)
}

// Unhex: the bytes of such a text.
func Unhex(s string) ([]byte, error) {
	// A wrong digit is told ahead of an odd number of them, wherever it stands.
	for i := range len(s) {
		if value(s[i]) < 0 {
			return nil, placed(api.ErrText, i)
		}
	}
	if len(s)%2 == 1 {
		return nil, placed(api.ErrShort, len(s))
	}
	b := make([]byte, len(s)/2)
	for i := range b {
		b[i] = byte(value(s[2*i])<<4 | value(s[2*i+1]))
	}
	return b, nil
}

// digit is the digit of a number below 16.
func digit(n byte) byte {
	if n < 10 {
		return '0' + n
	}
	return 'a' + n - 10
}

// value is what a digit stands for; -1 if it is none.
func value(c byte) int {
	switch {
	case c >= '0' && c <= '9':
		return int(c - '0')
	case c >= 'a' && c <= 'f':
		return int(c-'a') + 10
	}
	return -1
}
