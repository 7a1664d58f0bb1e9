// Package fix is layer 1: see shared/doc/01-fix.md.
package fix

import (
	"strconv"
	"strings"

	"tiller/api"
)

// How many digits a text may have ahead of its point and behind it.
const (
	wholeDigits = 6
	partDigits  = 16
)

// partScale is 10^16 / 65536, that is 5^16: 16 digits behind a point, by it, are parts of 65536. So no product of digits and 65536 is needed, which 64 bits wouldn't hold.
const partScale = 152587890625

// Sat: the nearest number that may be answered.
func Sat(x int64) api.Num {
	most := int64(api.Most)
	return api.Num(min(max(x, -most), most))
}

// Add: the sum.
func Add(a, b api.Num) api.Num {
	return Sat(int64(a) + int64(b))
}

// Sub: the difference.
func Sub(a, b api.Num) api.Num {
	return Sat(int64(a) - int64(b))
}

// Round: x / d, to the nearest whole number, halves away from nought; d is above 0.
func Round(x, d int64) int64 {
	if d < 1 {
		return 0 // it isn't asked, but no call panics
	}
	q, r := x/d, x%d
	// What is left is held against what is wanting, not doubled: doubling could overflow.
	if r > 0 && r >= d-r {
		return q + 1
	}
	if r < 0 && -r >= d+r {
		return q - 1
	}
	return q
}

// Mul: the product.
func Mul(a, b api.Num) api.Num {
	return Sat(Round(int64(a)*int64(b), int64(api.One)))
}

// Div: the quotient.
func Div(a, b api.Num) (api.Num, api.Errno) {
	if b == 0 {
		return 0, api.ErrZero
	}
	x, d := int64(a)*int64(api.One), int64(b)
	if d < 0 { // Round asks for a divisor above 0
		x, d = -x, -d
	}
	return Sat(Round(x, d)), api.OK
}

// Of: a whole number as a fixed one.
func Of(n int) api.Num {
	one := int64(api.One)
	return Sat(one * min(max(int64(n), -one), one))
}

// Floor: the greatest whole number that isn't above it.
func Floor(x api.Num) int {
	return int(x >> 16) // a shift goes down below 0, too; a division would go towards 0
}

// Text: in decimal, exactly.
func Text(x api.Num) string {
	size, sign := int64(x), ""
	if size < 0 {
		size, sign = -size, "-"
	}
	one := int64(api.One)
	return sign + strconv.FormatInt(size/one, 10) + partText(size%one)
}

// partText: so many parts of 65536, as a point and digits; of none nothing.
func partText(part int64) string {
	if part == 0 {
		return ""
	}
	text := []byte{'.'}
	for part != 0 { // it ends: each digit takes a factor 2 out of 65536
		part *= 10
		text = append(text, '0'+byte(part/int64(api.One)))
		part %= int64(api.One)
	}
	return string(text)
}

// Parse: the number that is nearest to a decimal one, halves away from nought.
func Parse(s string) (api.Num, api.Errno) {
	text, below := strings.CutPrefix(s, "-")
	whole, part, point := strings.Cut(text, ".")
	if !digits(whole, wholeDigits) || point && !digits(part, partDigits) {
		return 0, api.ErrText
	}
	padded := part + strings.Repeat("0", partDigits-len(part))
	// The whole part is a whole number of parts, so that rounding what is behind the point alone rounds it all.
	size := value(whole)*int64(api.One) + Round(value(padded), partScale)
	if size > int64(api.Most) {
		return 0, api.ErrBig
	}
	if below {
		size = -size
	}
	return api.Num(size), api.OK
}

// digits: is a text 1 to so many digits?
func digits(s string, most int) bool {
	if len(s) < 1 || len(s) > most {
		return false
	}
	for i := range len(s) {
		if s[i] < '0' || s[i] > '9' {
			return false
		}
	}
	return true
}

// value: what digits say; there are few enough of them for 63 bits.
func value(s string) int64 {
	sum := int64(0)
	for i := range len(s) {
		sum = sum*10 + int64(s[i]-'0')
	}
	return sum
}
