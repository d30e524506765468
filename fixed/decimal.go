package fixed

import "armillary/api"

// places is the number of fractional digits that every number needs at most.
const places = 16

// unitDigits is a unit in the last of these places: 10^16 / 65536, which is 5^16.
const unitDigits = 152587890625

// numeral is the text of a decimal number in its parts.
type numeral struct {
	negative bool
	whole    string
	fraction string
}

// Format returns the exact decimal representation of a number.
func Format(x int64) string {
	var text []byte
	size := uint64(x)
	if x < 0 {
		text = append(text, '-')
		size = -size
	}
	text = appendDigits(text, size/api.One, 1)
	fraction, width := size%api.One*unitDigits, places
	if fraction == 0 {
		return string(text)
	}
	for fraction%10 == 0 {
		fraction, width = fraction/10, width-1
	}
	return string(appendDigits(append(text, '.'), fraction, width))
}

// Parse returns the value of a decimal number in units, rounded down and up;
// if it is none, the offset of the byte where it fails.
func Parse(s string) (int64, int64, int, api.Errno) {
	n, offset, err := split(s)
	if err != api.OK {
		return 0, 0, offset, err
	}
	low, high := n.size()
	lo, hi := int64(low), int64(high)
	if !Valid(hi) {
		return 0, 0, 0, api.ErrBig
	}
	if n.negative {
		return -hi, -lo, 0, api.OK
	}
	return lo, hi, 0, api.OK
}

// appendDigits appends the digits of n, after zeros that fill them up to a width.
func appendDigits(text []byte, n uint64, width int) []byte {
	if n >= 10 || width > 1 {
		text = appendDigits(text, n/10, width-1)
	}
	return append(text, byte('0'+n%10))
}

// split divides the text of a number into its parts; if it is none, it returns
// the offset of the first byte that cannot continue one.
func split(s string) (numeral, int, api.Errno) {
	var n numeral
	at := 0
	if s != "" && s[0] == '-' {
		n.negative = true
		at++
	}
	n.whole = leadingDigits(s[at:])
	at += len(n.whole)
	if n.whole == "" {
		return numeral{}, at, api.ErrDigit
	}
	if at < len(s) && s[at] == '.' {
		n.fraction = leadingDigits(s[at+1:])
		at += 1 + len(n.fraction)
		if n.fraction == "" {
			return numeral{}, at, api.ErrDigit
		}
	}
	if at < len(s) {
		return numeral{}, at, api.ErrDigit
	}
	return n, 0, api.OK
}

// leadingDigits returns the digits with which a text begins.
func leadingDigits(s string) string {
	for i := range len(s) {
		if s[i] < '0' || s[i] > '9' {
			return s[:i]
		}
	}
	return s
}

// size returns the magnitude of a number in units, rounded down and up. In place
// of one that is too large it may return another that is too large, so that
// texts of any length cannot overflow.
func (n numeral) size() (uint64, uint64) {
	whole := uint64(0)
	for i := range len(n.whole) {
		whole = min(10*whole+uint64(n.whole[i]-'0'), api.Max)
	}
	low, high := bounds(n.fractionDigits(), 10*unitDigits)
	return whole*api.One + low, whole*api.One + high
}

// fractionDigits returns the fraction as an integer with one digit more than
// there are places. As every unit ends within the places, all that matters
// behind them is whether there is anything: the last digit is 1 then, else 0.
func (n numeral) fractionDigits() uint64 {
	digits := uint64(0)
	for i := range places {
		digits *= 10
		if i < len(n.fraction) {
			digits += uint64(n.fraction[i] - '0')
		}
	}
	digits *= 10
	for i := places; i < len(n.fraction); i++ {
		if n.fraction[i] != '0' {
			return digits + 1
		}
	}
	return digits
}
