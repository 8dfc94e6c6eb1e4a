package host

import (
	"fmt"
	"math/rand"
	"regexp"
	"slices"
	"strings"
	"testing"

	"cracknel/api"
	"cracknel/sample"
)

var (
	hostForm = regexp.MustCompile(`^[A-Za-z0-9]([A-Za-z0-9-]{0,61}[A-Za-z0-9])?(\.[A-Za-z0-9]([A-Za-z0-9-]{0,61}[A-Za-z0-9])?)*$`)
	ipForm   = regexp.MustCompile(`^((25[0-5]|2[0-4][0-9]|1[0-9][0-9]|[1-9][0-9]|[0-9])(\.|$)){4}$`)
)

// canonOf is Canon by the chapter's words, put as a form of the library.
func canonOf(s string) (string, bool) {
	if len(s) > 64 || !hostForm.MatchString(s) {
		return "", false
	}
	return strings.Map(func(r rune) rune {
		if 'A' <= r && r <= 'Z' {
			return r + 32
		}
		return r
	}, s), true
}

// ipOf is Ip by the chapter's words, put as a form of the library.
func ipOf(s string) bool {
	return ipForm.MatchString(s) && !strings.HasSuffix(s, ".")
}

// parentsOf is Parents by the chapter's words, from dot to dot.
func parentsOf(s string) []string {
	row := []string{s}
	if ipOf(s) {
		return row
	}
	for i, c := range []byte(s) {
		if c == 46 {
			row = append(row, s[i+1:])
		}
	}
	return row
}

// matchOf is Match by the chapter's words, byte by byte from the end.
func matchOf(host, domain string) bool {
	if host == domain {
		return true
	}
	h, d := len(host), len(domain)
	if ipOf(host) || h <= d {
		return false
	}
	for i := range d {
		if host[h-1-i] != domain[d-1-i] {
			return false
		}
	}
	return host[h-1-d] == 46
}

// checkCanon holds Canon against the words of the chapter, and against itself.
func checkCanon(t *testing.T, s string) {
	t.Helper()
	got, is := Canon(s)
	if want, wantIs := canonOf(s); got != want || is != wantIs {
		t.Errorf("P11.1: Canon(%q): %q %v, not %q %v", s, got, is, want, wantIs)
	}
	if again, still := Canon(got); is && (again != got || !still) {
		t.Errorf("P11.1: Canon(%q), given again: %q %v", s, again, still)
	}
}

// checkIp holds Ip against the words of the chapter; each address is a host, and no other than itself.
func checkIp(t *testing.T, s string) {
	t.Helper()
	if Ip(s) != ipOf(s) {
		t.Errorf("P11.1: Ip(%q): %v", s, Ip(s))
	}
	if got, is := Canon(s); Ip(s) && (got != s || !is) {
		t.Errorf("P11.1: Canon of the address %q: %q %v", s, got, is)
	}
}

func checkParents(t *testing.T, s string) {
	t.Helper()
	got := Parents(s)
	if want := parentsOf(s); !slices.Equal(got, want) {
		t.Errorf("P11.2: Parents(%q): %q, not %q", s, got, want)
	}
	for _, parent := range got {
		if !Match(s, parent) {
			t.Errorf("P11.3: %q does not match its parent %q", s, parent)
		}
	}
}

func checkMatch(t *testing.T, host, domain string) {
	t.Helper()
	got := Match(host, domain)
	if got != matchOf(host, domain) {
		t.Errorf("P11.2: Match(%q, %q): %v", host, domain, got)
	}
	if got != slices.Contains(Parents(host), domain) {
		t.Errorf("P11.3: Match(%q, %q): %v, but the parents are %q", host, domain, got, Parents(host))
	}
	if got && Match(domain, host) && host != domain {
		t.Errorf("P11.3: %q and %q match one another", host, domain)
	}
}

// bad are texts that are neither hosts nor addresses.
var bad = []string{"", ".", "..", "...", ".a", "a.", "a..b", "-", "--", "-a", "a-", "a.-", "-.a", "a.-b", "a-.b", "a_b", "a b", " a", "a ", "a\n", "a\x00", "\x00", "\xff", "\xc3\xa4", "a:80", "[1]", "http://a", "*.a", "a/b", "1.2.3.4.", ".1.2.3.4", "1..3.4"}

func TestCanonExamples(t *testing.T) {
	for s, want := range map[string]string{"A.Example": "a.example", "a": "a", "Z": "z", "0": "0", "9.9": "9.9", "1.2.3.4": "1.2.3.4", "999.999.999.999.999": "999.999.999.999.999", "x-1.b": "x-1.b", "a--b": "a--b", "XN--A-B.C": "xn--a-b.c", "AZaz09": "azaz09", "1-1": "1-1"} {
		if got, is := Canon(s); got != want || !is {
			t.Errorf("P11.1: Canon(%q): %q %v, not %q", s, got, is, want)
		}
		checkCanon(t, s)
	}
	for _, s := range bad {
		if got, is := Canon(s); got != "" || is {
			t.Errorf("P11.1: Canon(%q): %q %v", s, got, is)
		}
		checkCanon(t, s)
		checkIp(t, s)
	}
}

func TestCanonBytes(t *testing.T) {
	for c := range 256 {
		b := string([]byte{byte(c)})
		letter := c >= 'a' && c <= 'z' || c >= 'A' && c <= 'Z' || c >= '0' && c <= '9'
		for form, want := range map[string]bool{
			"@": letter, "@b": letter, "a@": letter, "a@b": letter || c == '-' || c == '.',
			"a.@": letter, "a.@.b": letter, "a.@b": letter, "a.b@": letter, "a.b@c.d": letter || c == '-' || c == '.', "a@.b": letter, "@.b": letter,
		} {
			s := strings.ReplaceAll(form, "@", b)
			if _, is := Canon(s); is != want {
				t.Errorf("P11.1: Canon(%q): %v", s, is)
			}
			checkCanon(t, s)
			checkIp(t, s)
		}
	}
}

func TestCanonPairs(t *testing.T) {
	for c := range 256 {
		for d := range 256 {
			s := string([]byte{byte(c), byte(d)})
			checkCanon(t, s)
			checkCanon(t, "a"+s+"b")
		}
	}
}

func TestCanonLengths(t *testing.T) {
	if api.MaxHost != 64 {
		t.Fatalf("P11.1: MaxHost is %d", api.MaxHost)
	}
	for long := range 70 {
		part := strings.Repeat("a", long)
		if _, is := Canon(part); is != (long >= 1 && long <= 63) {
			t.Errorf("P11.1: a part of %d bytes: %v", long, is)
		}
		for _, s := range []string{part, part + ".b", "b." + part, "b." + part + ".c", "b" + part + "-c", part + "-", "-" + part, part + ".", "." + part, part + "..", strings.Repeat("-", long), "a" + strings.Repeat("-", long) + "b", strings.ToUpper(part)} {
			checkCanon(t, s)
		}
		twos := strings.TrimSuffix(strings.Repeat("B.", long), ".")
		checkCanon(t, twos)
		checkCanon(t, twos+"b")
	}
}

// TestCanonBounds has a great part within the host's bound, and texts of right parts about the bound.
func TestCanonBounds(t *testing.T) {
	for s, want := range map[string]bool{
		strings.Repeat("a", 61) + ".b": true, strings.Repeat("a", 62) + ".b": true, strings.Repeat("a", 63) + ".b": false, "b." + strings.Repeat("a", 62): true,
		"b." + strings.Repeat("a", 63): false, "b." + strings.Repeat("a", 60) + ".c": true, "b." + strings.Repeat("a", 61) + ".c": false, strings.Repeat("a", 63): true, strings.Repeat("a", 64): false,
		strings.Repeat("a", 31) + "." + strings.Repeat("b", 31): true, strings.Repeat("a", 31) + "." + strings.Repeat("b", 32): true, strings.Repeat("a", 32) + "." + strings.Repeat("b", 32): false,
		strings.Repeat("a.", 31) + "b": true, strings.Repeat("a.", 31) + "bc": true, strings.Repeat("a.", 32) + "b": false, strings.Repeat("a.", 32): false, strings.Repeat(".", 64): false,
	} {
		if _, is := Canon(s); is != want {
			t.Errorf("P11.1: Canon of %d bytes %q: %v", len(s), s, is)
		}
		checkCanon(t, s)
	}
	for _, long := range []int{1000, 100000} {
		for _, piece := range []string{"a", "a.", ".", "-", "1.2.3.4."} {
			s := strings.Repeat(piece, long)
			if got, is := Canon(s); got != "" || is || Ip(s) {
				t.Errorf("P11.1: %d times %q: %v %v", long, piece, is, Ip(s))
			}
		}
	}
}

// TestCanonSizes turns each letter of a host great, and every choice of a short one's.
func TestCanonSizes(t *testing.T) {
	const small = "abcdefghijklm.nopqrstuvwxyz.0-9.x"
	for i := range len(small) {
		s := small[:i] + strings.ToUpper(small[i:i+1]) + small[i+1:]
		if got, is := Canon(s); got != small || !is {
			t.Errorf("P11.1: Canon(%q): %q %v", s, got, is)
		}
	}
	for choice := range 1 << 8 {
		s := []byte("ab-c.de9")
		for i := range s {
			if choice>>i&1 == 1 && s[i] >= 'a' {
				s[i] -= 32
			}
		}
		if got, is := Canon(string(s)); got != "ab-c.de9" || !is {
			t.Errorf("P11.1: Canon(%q): %q %v", s, got, is)
		}
	}
}

func TestIpNumbers(t *testing.T) {
	for place := range 4 {
		with := func(part string) string {
			parts := []string{"1", "2", "3", "4"}
			parts[place] = part
			return strings.Join(parts, ".")
		}
		for n := range 1100 {
			if s := with(fmt.Sprint(n)); Ip(s) != (n <= 255) {
				t.Errorf("P11.1: Ip(%q): %v", s, Ip(s))
			}
			checkIp(t, with(fmt.Sprint(n)))
		}
		for _, part := range []string{"", "00", "01", "007", "000", "0255", "256", "260", "300", "999", "1000", "-1", "-0", "+1", "1+", "--1", "a", "f", "0x1", "1e1", "1a", "a1", " 1", "1 ", "\t1", "1\n", " ", "_1", "1_0", "0b1", "0o1", ".", "1.", ".1", "1.1", "-", "\x00", "\xff", "\xd9\xa1", "18446744073709551617", "18446744073709551616", "4294967297", "-18446744073709551615", "9223372036854775808", "1" + strings.Repeat("0", 100)} {
			if s := with(part); Ip(s) {
				t.Errorf("P11.1: Ip(%q)", s)
			}
			checkIp(t, with(part))
		}
		for c := range 256 {
			b := string([]byte{byte(c)})
			for _, part := range []string{b, b + "1", "1" + b, "1" + b + "1"} {
				checkIp(t, with(part))
				checkCanon(t, with(part))
			}
		}
	}
}

func TestIpParts(t *testing.T) {
	for s, want := range map[string]bool{
		"0.0.0.0": true, "255.255.255.255": true, "1.2.3.4": true, "127.0.0.1": true, "10.20.30.40": true, "1.2.3": false, "1.2": false, "1": false, "16909060": false, "": false,
		"1.2.3.4.5": false, "1.2.3.4.5.6.7.8": false, "1.2.3.4.": false, ".1.2.3.4": false, "1.2.3.": false, ".2.3.4": false, "1..3.4": false, "1.2..4": false, "...": false, "....": false,
		"1.2.3.4.a": false, "a.1.2.3.4": false, "1.2.3.4.1.2.3.4": false, "x1.2.3.4": false, "1.2.3.4x": false, "a.b.c.d": false, "1,2,3,4": false, "1.2.3.4\n": false, "\n1.2.3.4": false, "[1.2.3.4]": false, "::1": false,
	} {
		if Ip(s) != want {
			t.Errorf("P11.1: Ip(%q): %v", s, Ip(s))
		}
		checkIp(t, s)
	}
	for many := range 12 {
		for _, part := range []string{"0", "1", "255", "256"} {
			s := strings.TrimSuffix(strings.Repeat(part+".", many), ".")
			if Ip(s) != (many == 4 && part != "256") {
				t.Errorf("P11.1: Ip(%q): %v", s, Ip(s))
			}
		}
	}
}

func TestMatchExamples(t *testing.T) {
	for _, x := range []struct {
		host, domain string
		want         bool
	}{
		{"a.b.c", "a.b.c", true}, {"a.b.c", "b.c", true}, {"a.b.c", "c", true}, {"ab.c", "b.c", false}, {"1.2.3.4", "3.4", false},
		{"b.c", "a.b.c", false}, {"c", "b.c", false}, {"a.b.c", "a.b", false}, {"a.b.c", "a", false}, {"a.b.c", "b", false}, {"a.b.c", "", false}, {"a.b.c", ".c", false}, {"a.b.c", ".b.c", false}, {"a.b.c", "c.", false}, {"a.b.c", "b.c.", false},
		{"a..c", ".c", true}, {"a..c", "c", true}, {"a..c", "..c", false}, {".c", "c", true}, {".c", ".c", true}, {"..c", ".c", true}, {"a.b.", "b.", true}, {"a.b.", "", true}, {"a.b.", "b", false}, {"a.b.", ".", false}, {".", "", true}, {".", ".", true}, {"..", ".", true}, {"..", "", true},
		{"", "", true}, {"", "a", false}, {"", ".", false}, {"a", "", false}, {"a.", "", true}, {"a.", "a", false}, {"a", "a.", false},
		{"a.b.c", "B.c", false}, {"A.b.c", "b.c", true}, {"a.B.c", "B.c", true}, {"A", "a", false}, {"a", "A", false}, {"A.B", "A.B", true},
		{"a b.c d", "c d", true}, {"a\x00.\x00", "\x00", true}, {"\xff.\xfe", "\xfe", true}, {"a_b._", "_", true}, {"-.-", "-", true},
		{"1.2.3.4", "1.2.3.4", true}, {"1.2.3.4", "2.3.4", false}, {"1.2.3.4", "4", false}, {"1.2.3.4", "", false}, {"x.1.2.3.4", "1.2.3.4", true}, {"x.1.2.3.4", "3.4", true}, {"0.1.2.3.4", "1.2.3.4", true}, {"0.1.2.3.4", "4", true}, {"1.2.3", "2.3", true},
		{"1.2.3.256", "3.256", true}, {"01.2.3.4", "3.4", true}, {"1.2.3.4.", "", true}, {"1.2.3.4.", "4.", true}, {".1.2.3.4", "1.2.3.4", true}, {".1.2.3.4", "4", true}, {"1.2.3.a", "a", true}, {"1.2.3.4", "1.2.3.5", false}, {"255.255.255.255", "255", false}, {"0.0.0.0", "0.0", false},
	} {
		if got := Match(x.host, x.domain); got != x.want {
			t.Errorf("P11.2: Match(%q, %q): %v", x.host, x.domain, got)
		}
		checkMatch(t, x.host, x.domain)
	}
}

// TestMatchSelf gives every text of a few kinds with itself, and with all ends and beginnings of it.
func TestMatchSelf(t *testing.T) {
	rows := append(slices.Clone(bad), "a", "a.b", "ab.cd.ef", "A.bC.d", "1.2.3.4", "x.1.2.3.4", "1.2.3.4.x", "255.255.255.255", "\x80.\xff", strings.Repeat("a.", 200), strings.Repeat("ab.", 100)+"c")
	for _, s := range rows {
		if !Match(s, s) {
			t.Errorf("P11.2: Match(%q, itself)", s)
		}
		for i := range len(s) {
			end := s[i+1:]
			if want := s[i] == 46 && !ipOf(s); Match(s, end) != want {
				t.Errorf("P11.2: Match(%q, %q): %v", s, end, !want)
			}
			checkMatch(t, s, end)
			checkMatch(t, s, s[:i])
			checkMatch(t, end, s)
		}
		for _, more := range []string{".", "a", "a.", ".a", "1.", " "} {
			checkMatch(t, more+s, s)
			checkMatch(t, s+more, s)
			checkMatch(t, s, more+s)
			checkMatch(t, s, s+more)
		}
	}
}

// TestMatchBytes puts every byte where a dot would be: no other parts a host.
func TestMatchBytes(t *testing.T) {
	for c := range 256 {
		b := string([]byte{byte(c)})
		for _, x := range [][2]string{{"a" + b + "b.c", "b.c"}, {"a.b" + b + "c", "c"}, {b + "b", "b"}, {"1.2.3" + b + "4", "4"}, {"a" + b, ""}} {
			if got := Match(x[0], x[1]); got != (c == 46 && x[0] != "1.2.3.4") {
				t.Errorf("P11.2: Match(%q, %q): %v", x[0], x[1], got)
			}
			checkMatch(t, x[0], x[1])
		}
		for d := range 256 {
			if e := string([]byte{byte(d)}); Match(b, e) != (b == e) || Match("x."+b, e) != (b == e || c == 46 && e == "") {
				t.Errorf("P11.2: Match(%q, %q)", b, e)
			}
		}
	}
}

func TestParentsExamples(t *testing.T) {
	for _, x := range []struct {
		s    string
		want []string
	}{
		{"a.b.c", []string{"a.b.c", "b.c", "c"}}, {"a", []string{"a"}}, {"a.b", []string{"a.b", "b"}}, {"ab.cde.f.gh", []string{"ab.cde.f.gh", "cde.f.gh", "f.gh", "gh"}},
		{"", []string{""}}, {".", []string{".", ""}}, {"..", []string{"..", ".", ""}}, {"a.", []string{"a.", ""}}, {".a", []string{".a", "a"}}, {".a.", []string{".a.", "a.", ""}}, {"a..b", []string{"a..b", ".b", "b"}}, {"a...b", []string{"a...b", "..b", ".b", "b"}},
		{"a.a.a", []string{"a.a.a", "a.a", "a"}}, {"A.b.C", []string{"A.b.C", "b.C", "C"}}, {"\xff.\x00 ._", []string{"\xff.\x00 ._", "\x00 ._", "_"}},
		{"1.2.3.4", []string{"1.2.3.4"}}, {"0.0.0.0", []string{"0.0.0.0"}}, {"255.255.255.255", []string{"255.255.255.255"}},
		{"1.2.3", []string{"1.2.3", "2.3", "3"}}, {"0.1.2.3.4", []string{"0.1.2.3.4", "1.2.3.4", "2.3.4", "3.4", "4"}}, {"x.1.2.3.4", []string{"x.1.2.3.4", "1.2.3.4", "2.3.4", "3.4", "4"}}, {"1.2.3.256", []string{"1.2.3.256", "2.3.256", "3.256", "256"}},
		{"1.2.3.04", []string{"1.2.3.04", "2.3.04", "3.04", "04"}}, {"1.2.3.4.", []string{"1.2.3.4.", "2.3.4.", "3.4.", "4.", ""}}, {".1.2.3.4", []string{".1.2.3.4", "1.2.3.4", "2.3.4", "3.4", "4"}}, {"1.2.3.-4", []string{"1.2.3.-4", "2.3.-4", "3.-4", "-4"}}, {"1.2.3.a", []string{"1.2.3.a", "2.3.a", "3.a", "a"}}, {"1.2..4", []string{"1.2..4", "2..4", ".4", "4"}},
	} {
		if got := Parents(x.s); !slices.Equal(got, x.want) {
			t.Errorf("P11.2: Parents(%q): %q", x.s, got)
		}
		checkParents(t, x.s)
	}
	for _, s := range bad {
		checkParents(t, s)
	}
}

// TestParentsOwn writes into what Parents told: the next one is told the same.
func TestParentsOwn(t *testing.T) {
	for _, s := range []string{"a.b.c", "1.2.3.4", ""} {
		row := Parents(s)
		for i := range row {
			row[i] = "x"
		}
		_ = append(row[:0:len(row)], "y")
		checkParents(t, s)
	}
}

func TestParentsLong(t *testing.T) {
	many := strings.Repeat("a.", 20000)
	row := Parents(many)
	if len(row) != 20001 || row[0] != many || row[20000] != "" || row[19999] != "a." {
		t.Errorf("P11.2: Parents of 20000 dots: %d", len(row))
	}
	if !Match(many, "a.a.") || Match(many, "a") || !Match(many, many[2:]) || Match(many, many[1:]) != (many[0] == 46) {
		t.Error("P11.2: Match of 20000 dots")
	}
}

// TestFollows takes all short texts by threes: what the first one matches through the second one.
func TestFollows(t *testing.T) {
	rows := append(sample.Texts(5, "a", "."), "1.2.3.4", "x.1.2.3.4", "2.3.4", "3.4", "4", "A.a", "a.A", "1.2.3.4.a", "a-.a", "-", "-.a")
	for _, first := range rows {
		checkParents(t, first)
		for _, second := range rows {
			checkMatch(t, first, second)
			if !Match(first, second) {
				continue
			}
			for _, third := range rows {
				if Match(second, third) && !Match(first, third) {
					t.Errorf("P11.3: %q matches %q, it matches %q", first, second, third)
				}
			}
		}
	}
}

// TestFollowsHosts puts a part and a dot ahead of a host: it lies within, and so does all that lies within it.
func TestFollowsHosts(t *testing.T) {
	for _, s := range []string{"a", "a.b", "1.2.3.4", "2.3.4", "3.4", "x-y.z", strings.Repeat("a", 63), strings.Repeat("a", 30) + "." + strings.Repeat("b", 30), strings.Repeat("a.", 30) + "b"} {
		within := []string{s}
		for _, part := range []string{"c", "1", "d-e", strings.Repeat("f", 63)} {
			inner := part + "." + within[0]
			if Ip(inner) {
				continue
			}
			within = append([]string{inner}, within...)
			if _, is := Canon(inner); is != (len(inner) <= 64) {
				t.Errorf("P11.1: Canon(%q): %v", inner, is)
			}
			for i, host := range within {
				for j, domain := range within {
					if Match(host, domain) != (i <= j) {
						t.Errorf("P11.3: Match(%q, %q): %v", host, domain, i > j)
					}
				}
			}
		}
	}
	if Match("1.2.3.4", "2.3.4") || Match("c.1.2.3.4", "c.1") || !Match("c.1.2.3.4", "2.3.4") {
		t.Error("P11.3: an address and its ends")
	}
}

func TestShort(t *testing.T) {
	for _, s := range sample.Texts(6, "a", "B", "-", ".", "7") {
		checkCanon(t, s)
		checkIp(t, s)
		checkParents(t, s)
	}
	for _, s := range sample.Texts(7, "0", "1", "25", ".") {
		checkCanon(t, s)
		checkIp(t, s)
		checkParents(t, s)
	}
}

// TestAny holds many texts that are nearly hosts and addresses against all others.
func TestAny(t *testing.T) {
	r := rand.New(rand.NewSource(11))
	for range 300 {
		var rows []string
		for range 12 {
			rows = append(rows, sample.Some(r.Intn, 9, "a", "bc", "X", "-", ".", ".", "9", "_", "\x80"), sample.Some(r.Intn, 9, "1", "2", "25", "0", ".", "."), sample.Some(r.Intn, 5, "1.", "255.", "0.", "3", "256", "a."), sample.Some(r.Intn, 12, strings.Repeat("a", 20), "b", ".", "-"))
		}
		for _, s := range rows {
			checkCanon(t, s)
			checkIp(t, s)
			checkParents(t, s)
			rows = append(rows, sample.Some(r.Intn, 3, "a", ".", "1")+"."+s, s[r.Intn(len(s)+1):])
		}
		for _, host := range rows {
			for _, domain := range rows {
				checkMatch(t, host, domain)
			}
		}
	}
}

func FuzzHost(f *testing.F) {
	for _, s := range bad {
		f.Add(s, "a.b")
	}
	f.Add("A.Example", "example")
	f.Add("1.2.3.4", "3.4")
	f.Add("x.1.2.3.4", "1.2.3.4")
	f.Fuzz(func(t *testing.T, host, domain string) {
		for _, s := range []string{host, domain, host + "." + domain, domain + "." + host} {
			checkCanon(t, s)
			checkIp(t, s)
			checkParents(t, s)
			checkMatch(t, s, host)
			checkMatch(t, s, domain)
			checkMatch(t, host, s)
		}
	})
}
