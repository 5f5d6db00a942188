// Package num is layer 1; see shared/doc/01-num.md.
package num

import (
	"math"
	"math/bits"
	"strconv"
	"strings"

	"slotcode/api"
)

// widths are the numbers of bits that numbers may have.
var widths = [4]int{8, 16, 32, 64}

// lowerDigits are the only digits of texts of bytes; numerals also have A to F.
const lowerDigits = "0123456789abcdef"

// magnitude is a number that is not negative.
type magnitude struct {
	value uint64
	over  bool // the number needs more than 64 bits, and value is meaningless
}

// Parse returns the value of a numeral for a number of bits.
func Parse(s string, bits int) (int64, api.Errno) {
	digits, negative := strings.CutPrefix(s, "-")
	m, ok := unsigned(digits)
	if !ok {
		return 0, api.ErrNumber
	}
	if !isWidth(bits) || m.over || m.value > greatest(negative, bits) {
		return 0, api.ErrRange
	}
	if negative {
		return Extend(-m.value, bits), api.OK
	}
	return Extend(m.value, bits), api.OK
}

// Format returns the decimal numeral of a number.
func Format(x int64) string { return strconv.FormatInt(x, 10) }

// Hex returns the text of bytes.
func Hex(b []byte) string {
	text := make([]byte, 0, 2*len(b))
	for _, x := range b {
		text = append(text, lowerDigits[x>>4], lowerDigits[x&15])
	}
	return string(text)
}

// Unhex returns the bytes of a text.
func Unhex(s string) ([]byte, api.Errno) {
	if len(s)%2 != 0 {
		return nil, api.ErrNumber
	}
	b := make([]byte, len(s)/2)
	for i := range b {
		high := strings.IndexByte(lowerDigits, s[2*i])
		low := strings.IndexByte(lowerDigits, s[2*i+1])
		if high < 0 || low < 0 {
			return nil, api.ErrNumber
		}
		b[i] = byte(high<<4 | low)
	}
	return b, api.OK
}

// Extend extends the sign of a number of bits.
func Extend(x uint64, bits int) int64 {
	if !isWidth(bits) {
		return 0
	}
	unused := 64 - bits
	return int64(x<<unused) >> unused
}

// Fits reports whether a number is one of a number of bits.
func Fits(x int64, bits int) bool {
	return isWidth(bits) && Extend(uint64(x), bits) == x
}

func isWidth(bits int) bool {
	for _, w := range widths {
		if w == bits {
			return true
		}
	}
	return false
}

// greatest returns the greatest magnitude that a numeral may have for a width.
func greatest(negative bool, bits int) uint64 {
	if negative {
		return 1 << (bits - 1)
	}
	return math.MaxUint64 >> (64 - bits)
}

// unsigned reads a numeral without its sign. It reads all of it even if the
// number is too large, because a wrong digit matters more than the size.
func unsigned(s string) (magnitude, bool) {
	add := adder(10)
	if digits, ok := strings.CutPrefix(s, "0x"); ok {
		s, add = digits, adder(16)
	}
	m, ok := magnitude{}, s != ""
	for _, r := range s {
		if m, ok = add(m, r); !ok {
			break
		}
	}
	return m, ok
}

// adder returns a function that puts a digit of the base behind a number, and
// reports whether it is a digit.
func adder(base uint64) func(magnitude, rune) (magnitude, bool) {
	return func(m magnitude, r rune) (magnitude, bool) {
		d := digit(r)
		if d >= base {
			return magnitude{}, false
		}
		high, low := bits.Mul64(m.value, base)
		sum, carry := bits.Add64(low, d, 0)
		return magnitude{sum, m.over || high != 0 || carry != 0}, true
	}
}

// digit returns the value of a digit, or a number that is too large for any
// base. It names the characters, since the digits of other scripts are none.
func digit(r rune) uint64 {
	switch {
	case '0' <= r && r <= '9':
		return uint64(r - '0')
	case 'a' <= r && r <= 'f':
		return uint64(r-'a') + 10
	case 'A' <= r && r <= 'F':
		return uint64(r-'A') + 10
	}
	return math.MaxUint64
}
