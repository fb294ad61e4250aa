package symbol

import "inquest/api"

const (
	mostNumber = 1 << 48
	digitBits  = 7
	more       = 1 << digitBits // is added to each digit behind which there is another one
	mostDigits = 48/digitBits + 1
)

// Number writes a number in base 128, the lowest digit first.
func Number(n int) (string, api.Errno) {
	if n < 0 || n > mostNumber {
		return "", api.ErrRange
	}
	return string(appendNumber(nil, n)), api.OK
}

// ReadNumber reads a number at the beginning of a string, and returns how many bytes it has.
func ReadNumber(s string) (n, long int, e api.Errno) {
	// A number with more digits is too great, if it is one at all.
	for i := range min(len(s), mostDigits) {
		digit := int(s[i])
		n += (digit % more) << (digitBits * i)
		if digit >= more {
			continue
		}
		if n > mostNumber || digit == 0 && i > 0 {
			break
		}
		return n, i + 1, api.OK
	}
	return 0, 0, api.ErrSyntax
}

func appendNumber(b []byte, n int) []byte {
	for ; n >= more; n /= more {
		b = append(b, byte(n%more+more))
	}
	return append(b, byte(n))
}

// appendSigned writes numbers from 0 on as the even ones, those below 0 as the odd ones.
func appendSigned(b []byte, d int) []byte {
	if d < 0 {
		return appendNumber(b, -2*d-1)
	}
	return appendNumber(b, 2*d)
}

// signedOf returns of which number appendSigned writes this one.
func signedOf(n int) int {
	if n%2 == 1 {
		return -(n + 1) / 2
	}
	return n / 2
}

func appendWord(b []byte, s string) []byte {
	return append(appendNumber(b, len(s)), s...)
}
