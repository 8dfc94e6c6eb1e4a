// Package ascii is layer 1, bytes of texts: see shared/doc/01-ascii.md.
package ascii

// span is a row of bytes, both its ends among them.
type span struct{ low, high byte }

// Lower leaves every byte above 127 as it is, so that it hangs on no encoding.
func Lower(s string) string {
	great := among(span{'A', 'Z'})
	small := make([]byte, len(s))
	for i := range len(s) {
		small[i] = s[i]
		if great(s[i]) {
			small[i] += 'a' - 'A'
		}
	}
	return string(small)
}

// Same tells whether two texts differ by great and small letters alone.
func Same(a, b string) bool { return Lower(a) == Lower(b) }

// Token tells whether s may be a cookie's name.
func Token(s string) bool {
	return s != "" && all(s, among(
		span{'A', 'Z'}, span{'a', 'z'}, span{'0', '9'},
		span{33, 33}, span{35, 39}, span{42, 43}, span{45, 46}, span{94, 96}, span{124, 124}, span{126, 126},
	))
}

// Octets tells whether s may be a cookie's value.
func Octets(s string) bool {
	return all(s, among(span{33, 33}, span{35, 43}, span{45, 58}, span{60, 91}, span{93, 126}))
}

// Plain tells whether s may be a path: byte 59 would end it in a header.
func Plain(s string) bool {
	return all(s, among(span{33, 58}, span{60, 126}))
}

// Trim is s without the blanks at both its ends.
func Trim(s string) string {
	blank := among(span{9, 9}, span{32, 32})
	begin, end := 0, 0
	for i := range len(s) {
		if blank(s[i]) {
			continue
		}
		// end is 0 until a byte is kept, so this one is the first of them.
		if end == 0 {
			begin = i
		}
		end = i + 1
	}
	return s[begin:end]
}

// Cut parts s at the first byte sep.
func Cut(s string, sep byte) (string, string, bool) {
	at := first(s, func(c byte) bool { return c == sep })
	if at == len(s) {
		return s, "", false
	}
	return s[:at], s[at+1:], true
}

// among gives a closure that tells whether a byte lies in one of the spans.
func among(spans ...span) func(c byte) bool {
	return func(c byte) bool {
		for i := range len(spans) {
			if spans[i].low <= c && c <= spans[i].high {
				return true
			}
		}
		return false
	}
}

// all tells whether every byte of s may be.
func all(s string, may func(c byte) bool) bool {
	return first(s, func(c byte) bool { return !may(c) }) == len(s)
}

// first is the place of the first byte that is asked for, or len(s): no byte stands there.
func first(s string, asked func(c byte) bool) int {
	for i := range len(s) {
		if asked(s[i]) {
			return i
		}
	}
	return len(s)
}
