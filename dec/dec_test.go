package dec

import (
	"math"
	"math/big"
	"math/rand"
	"regexp"
	"strconv"
	"strings"
	"testing"
)

// numbers are ordinary ones, the edges of ints, those about each power of ten and of two, and some from all over.
func numbers() []int {
	l := []int{0, 1, -1, 5, 7, 9, 10, 11, 42, 99, 100, 120, -120, 1970, 253402300799, math.MaxInt, math.MaxInt - 1, math.MinInt, math.MinInt + 1}
	for p, i := 1, 0; i < 19; p, i = p*10, i+1 {
		l = append(l, p-1, p, p+1, -p-1, -p, 1-p)
	}
	for i := range 63 {
		p := 1 << i
		l = append(l, p-1, p, p+1, -p-1, -p, 1-p)
	}
	r := rand.New(rand.NewSource(2))
	for range 2000 {
		n := int(r.Uint64()) >> r.Intn(64)
		l = append(l, n)
	}
	return l
}

// texts are such as come near a number, in its form or not, and texts of any bytes.
func texts() []string {
	l := []string{
		"", "-", "--", "+", "+5", "+0", "-+5", "--5", "-0", "-00", "-05", "00", "000", "007", "01", "5-", "5+", "-5-", "1-2",
		" 5", "5 ", "\t5", "5\n", "- 5", "1 2", "1.0", "1e3", "0x1", "1_000", "1,000", "½", "²", "٣", "５", "a", "٠٠٧",
		"/", ":", "5/", "5:", "/5", ":5", "\x00", "\x005", "5\x00", "\xb2", "5\xff", "\xff5", "\xc0\xb5", "\xed\xa0\x80", "\xef\xbf\xbd",
		"9223372036854775808", "-9223372036854775809", "09223372036854775807", "-09223372036854775808", "+9223372036854775807",
		"18446744073709551615", "18446744073709551616", "18446744073709551617", "-18446744073709551616", "-18446744073709551617",
		"27670116110564327423", "36893488147419103232", "36893488147419103237", "100000000000000000000", "-100000000000000000000",
		strings.Repeat("0", 17), strings.Repeat("0", 18), strings.Repeat("0", 19), strings.Repeat("9", 18), strings.Repeat("9", 19),
		strings.Repeat("0", 20) + "5", strings.Repeat("0", 2000), strings.Repeat("1", 2000), "-" + strings.Repeat("1", 2000),
	}
	for c := range 256 {
		b := string([]byte{byte(c)})
		l = append(l, b, "1"+b, b+"1", "1"+b+"2", "-"+b, "0"+b)
	}
	r := rand.New(rand.NewSource(3))
	const some = "0123456789-+ \x00\xff"
	for range 5000 {
		b := make([]byte, r.Intn(24))
		for i := range b {
			b[i] = some[r.Intn(len(some))]
			if r.Intn(40) == 0 {
				b[i] = byte(r.Intn(256))
			}
		}
		l = append(l, string(b))
	}
	return l
}

// printed tells by another way whether Print writes s, and of which number.
func printed(s string) (int, bool) {
	if !regexp.MustCompile(`\A(0|-?[1-9][0-9]*)\z`).MatchString(s) {
		return 0, false
	}
	b, ok := new(big.Int).SetString(s, 10)
	if !ok || !b.IsInt64() {
		return 0, false
	}
	return int(b.Int64()), true
}

// fixed tells by another way what Unfixed reads.
func fixed(s string) (int, bool) {
	if !regexp.MustCompile(`\A[0-9]{1,18}\z`).MatchString(s) {
		return 0, false
	}
	n, err := strconv.ParseInt(s, 10, 64)
	return int(n), err == nil
}

func TestPrintWrittenOut(t *testing.T) {
	for _, x := range []struct {
		n int
		s string
	}{
		{0, "0"}, {1, "1"}, {9, "9"}, {10, "10"}, {120, "120"}, {-1, "-1"}, {-9, "-9"}, {-10, "-10"}, {-120, "-120"},
		{1000000, "1000000"}, {253402300799, "253402300799"},
		{9223372036854775807, "9223372036854775807"}, {-9223372036854775808, "-9223372036854775808"},
	} {
		if got := Print(x.n); got != x.s {
			t.Errorf("P2.1: Print(%d): %q", x.n, got)
		}
		if got, is := Read(x.s); got != x.n || !is {
			t.Errorf("P2.1: Read(%q): %d %v", x.s, got, is)
		}
	}
}

func TestPrint(t *testing.T) {
	for _, n := range numbers() {
		if got := Print(n); got != strconv.Itoa(n) {
			t.Errorf("P2.1: Print(%d): %q", n, got)
		}
	}
}

func TestReadRefuses(t *testing.T) {
	for _, s := range []string{
		"", "-", "+5", "007", "-0", "-07", "00", "+0", " 5", "5 ", "--5", "5-", "1e3", "0x1", "1_000", "5\x00", "\xff", "٣", "５",
		"9223372036854775808", "-9223372036854775809", "18446744073709551616", "18446744073709551621", "-18446744073709551621",
		"100000000000000000000", strings.Repeat("1", 2000),
	} {
		if got, is := Read(s); got != 0 || is {
			t.Errorf("P2.1: Read(%q): %d %v", s, got, is)
		}
	}
}

func TestReadOfAnyText(t *testing.T) {
	for _, s := range texts() {
		want, may := printed(s)
		if got, is := Read(s); got != want || is != may {
			t.Errorf("P2.1: Read(%q): %d %v, not %d %v", s, got, is, want, may)
		}
	}
}

func TestFixedWrittenOut(t *testing.T) {
	for _, x := range []struct {
		n, wide int
		s       string
	}{
		{7, 3, "007"}, {0, 1, "0"}, {0, 3, "000"}, {7, 1, "7"}, {9, 1, "9"}, {10, 1, ""}, {10, 2, "10"}, {99, 2, "99"}, {100, 2, ""},
		{999, 3, "999"}, {1000, 3, ""}, {1970, 4, "1970"}, {5, 18, "000000000000000005"}, {0, 18, "000000000000000000"},
		{999999999999999999, 18, "999999999999999999"}, {1000000000000000000, 18, ""}, {99999999999999999, 17, "99999999999999999"},
		{100000000000000000, 17, ""}, {5, 19, ""}, {1000000000000000000, 19, ""}, {9223372036854775807, 18, ""}, {9223372036854775807, 19, ""},
		{5, 0, ""}, {0, 0, ""}, {5, -1, ""}, {5, 20, ""}, {5, 21, ""}, {5, math.MaxInt, ""}, {5, math.MinInt, ""},
		{-1, 1, ""}, {-1, 2, ""}, {-1, 3, ""}, {-7, 18, ""}, {math.MinInt, 18, ""}, {math.MinInt, 1, ""},
	} {
		if got := Fixed(x.n, x.wide); got != x.s {
			t.Errorf("P2.2: Fixed(%d, %d): %q", x.n, x.wide, got)
		}
	}
}

func TestFixed(t *testing.T) {
	for _, n := range numbers() {
		for wide := -3; wide <= 25; wide++ {
			want := strconv.Itoa(n)
			if n < 0 || wide < 1 || wide > 18 || len(want) > wide {
				want = ""
			} else {
				want = strings.Repeat("0", wide-len(want)) + want
			}
			if got := Fixed(n, wide); got != want {
				t.Errorf("P2.2: Fixed(%d, %d): %q, not %q", n, wide, got, want)
			}
		}
	}
}

func TestUnfixedWrittenOut(t *testing.T) {
	for s, n := range map[string]int{
		"0": 0, "7": 7, "9": 9, "007": 7, "000": 0, "10": 10, "0010": 10, "120": 120,
		"000000000000000000": 0, "000000000000000005": 5, "999999999999999999": 999999999999999999, "100000000000000000": 100000000000000000,
	} {
		if got, is := Unfixed(s); got != n || !is {
			t.Errorf("P2.2: Unfixed(%q): %d %v", s, got, is)
		}
	}
	for _, s := range []string{
		"", "-7", "-0", "+7", "7 ", " 7", "7-", "1e3", "0x1", "1_0", "/", ":", "\xb2", "7\x00", "٣", "５", "0000000000000000005",
		"0000000000000000000", "9999999999999999999", "1000000000000000000", "00000000000000000000000000000000000000005", "-",
	} {
		if got, is := Unfixed(s); got != 0 || is {
			t.Errorf("P2.2: Unfixed(%q): %d %v", s, got, is)
		}
	}
}

func TestUnfixedOfAnyText(t *testing.T) {
	for _, s := range texts() {
		want, may := fixed(s)
		if got, is := Unfixed(s); got != want || is != may {
			t.Errorf("P2.2: Unfixed(%q): %d %v, not %d %v", s, got, is, want, may)
		}
	}
}

func TestWrittenIsReadAsItWas(t *testing.T) {
	for _, n := range numbers() {
		if got, is := Read(Print(n)); got != n || !is {
			t.Errorf("P2.3: Read(Print(%d)): %d %v", n, got, is)
		}
		for wide := range 20 {
			s := Fixed(n, wide)
			if s == "" {
				continue
			}
			if got, is := Unfixed(s); got != n || !is {
				t.Errorf("P2.3: Unfixed(Fixed(%d, %d)): %d %v", n, wide, got, is)
			}
		}
	}
}

func TestReadIsWrittenAgain(t *testing.T) {
	var read, unfixed int
	for _, s := range texts() {
		if n, is := Read(s); is {
			read++
			if got := Print(n); got != s {
				t.Errorf("P2.3: Print(Read(%q)): %q", s, got)
			}
		}
		if n, is := Unfixed(s); is {
			unfixed++
			if got := Fixed(n, len(s)); got != s {
				t.Errorf("P2.3: Fixed(Unfixed(%q)): %q", s, got)
			}
		}
	}
	if read < 20 || unfixed < 20 {
		t.Errorf("P2.3: too few texts are read for this test: %d %d", read, unfixed)
	}
}

func TestDigitsBehindDigits(t *testing.T) {
	tens := []int{1, 10, 100, 1000, 10000, 100000, 1000000, 10000000, 100000000, 1000000000}
	some := []int{0, 1, 5, 9, 10, 42, 99, 100, 120, 999, 1000, 123456, 999999, 1000000, 99999999, 123456789, 999999999}
	for _, a := range some {
		for _, b := range some {
			for wide := 1; wide <= 9; wide++ {
				ahead, behind := Fixed(a, 9), Fixed(b, wide)
				if behind == "" {
					continue
				}
				want := a*tens[wide] + b
				if got, is := Unfixed(ahead + behind); got != want || !is {
					t.Errorf("P2.3: Unfixed of %s and %s: %d %v, not %d", ahead, behind, got, is, want)
				}
				if a == 0 {
					continue
				}
				if got, is := Read(Print(a) + behind); got != want || !is {
					t.Errorf("P2.3: Read of %d and %s: %d %v, not %d", a, behind, got, is, want)
				}
				if got, is := Read(Print(-a) + behind); got != -want || !is {
					t.Errorf("P2.3: Read of %d and %s: %d %v, not %d", -a, behind, got, is, -want)
				}
			}
		}
	}
}

func FuzzRead(f *testing.F) {
	for _, s := range []string{"", "0", "-0", "007", "+5", "-120", "9223372036854775808", "-9223372036854775808", "\xb2"} {
		f.Add(s)
	}
	f.Fuzz(func(t *testing.T, s string) {
		want, may := printed(s)
		if got, is := Read(s); got != want || is != may {
			t.Errorf("P2.1: Read(%q): %d %v, not %d %v", s, got, is, want, may)
		}
		want, may = fixed(s)
		if got, is := Unfixed(s); got != want || is != may {
			t.Errorf("P2.2: Unfixed(%q): %d %v, not %d %v", s, got, is, want, may)
		}
	})
}
