package ascii

import (
	"strings"
	"testing"
)

// The bytes are written out here, not as ranges, so that a slip at an edge of a range shows.
const (
	greatLetters = "ABCDEFGHIJKLMNOPQRSTUVWXYZ"
	smallLetters = "abcdefghijklmnopqrstuvwxyz"
	tokenBytes   = greatLetters + smallLetters + "0123456789" + "!#$%&'*+-.^_`|~"
	plainBytes   = tokenBytes + `"(),/:<=>?@[\]{}`
)

func octetBytes() string {
	return strings.NewReplacer(`"`, "", ",", "", `\`, "").Replace(plainBytes)
}

// corpus has ordinary texts, edges, and texts of any bytes.
func corpus() []string {
	l := []string{
		"", " ", "\t", " \t ", "a", "A", "Ab-Z", "SameSite", "a=b=c", "=", "==", "a=", "=a",
		" a b\t", "\t\ta", "a  ", "\na ", "\r", "a;b", "a,b", `a"b`, `a\b`, "/a@b", "(a)",
		"\x00", "\x7f", "\x80", "\xff", "\xc3\x84", "\xc3\x84A", "\xed\xa0\x80", "\xff=\xfe=\xfd",
		"@[`{", "\x1f !", "~\x7f", ":;<", "+,-", "!\"#", "[\\]",
		strings.Repeat("aZ", 500), strings.Repeat(" ", 500), strings.Repeat("\xe9", 500),
	}
	for c := range 256 {
		l = append(l, string([]byte{byte(c)}), string([]byte{'a', byte(c), 'B'}))
	}
	return l
}

func TestBytesWrittenOut(t *testing.T) {
	if len(tokenBytes) != 77 || len(plainBytes) != 93 || len(octetBytes()) != 90 {
		t.Errorf("the bytes of this test: %d %d %d", len(tokenBytes), len(plainBytes), len(octetBytes()))
	}
}

func TestLowerOfEachByte(t *testing.T) {
	for c := range 256 {
		s := string([]byte{byte(c)})
		want := s
		if i := strings.Index(greatLetters, s); i >= 0 {
			want = smallLetters[i : i+1]
		}
		if got := Lower(s); got != want {
			t.Errorf("P1.1: Lower(%q): %q, not %q", s, got, want)
		}
		if got := Lower("X" + s + "Y"); got != "x"+want+"y" {
			t.Errorf("P1.1: Lower(%q) between letters: %q", s, got)
		}
	}
}

func TestLowerOfTexts(t *testing.T) {
	for _, x := range [][2]string{
		{"", ""}, {"Ab-Z", "ab-z"}, {greatLetters, smallLetters}, {smallLetters, smallLetters},
		{"@[`{", "@[`{"}, {"\xc3\x84A", "\xc3\x84a"}, {"\xff\x00Q", "\xff\x00q"},
	} {
		if got := Lower(x[0]); got != x[1] {
			t.Errorf("P1.1: Lower(%q): %q, not %q", x[0], got, x[1])
		}
	}
}

func TestSame(t *testing.T) {
	for _, x := range []struct {
		a, b string
		want bool
	}{
		{"", "", true}, {"SameSite", "sAMEsITE", true}, {greatLetters, smallLetters, true},
		{"a", "aa", false}, {"aa", "a", false}, {"", "a", false}, {"a", "", false},
		{"@", "`", false}, {"[", "{", false}, {"a", "b", false}, {"ab", "ac", false},
		{"\xc3\x84", "\xc3\xa4", false}, {"\xc3\x84x", "\xc3\x84X", true},
		{"0", "P", false}, {"!", "A", false},
	} {
		if got := Same(x.a, x.b); got != x.want {
			t.Errorf("P1.1: Same(%q, %q): %v", x.a, x.b, got)
		}
	}
}

func TestSameIsByLower(t *testing.T) {
	for c := range 256 {
		for d := range 256 {
			a, b := string([]byte{byte(c)}), string([]byte{byte(d)})
			if Same(a, b) != (Lower(a) == Lower(b)) {
				t.Errorf("P1.1: Same(%q, %q)", a, b)
			}
		}
	}
}

// classes are the three calls of P1.2, each with the bytes that it allows.
func classes() []struct {
	name, bytes string
	is          func(s string) bool
	empty       bool
} {
	return []struct {
		name, bytes string
		is          func(s string) bool
		empty       bool
	}{
		{"Token", tokenBytes, Token, false},
		{"Octets", octetBytes(), Octets, true},
		{"Plain", plainBytes, Plain, true},
	}
}

func TestClassesOfEachByte(t *testing.T) {
	for _, k := range classes() {
		if k.is("") != k.empty {
			t.Errorf("P1.2: %s of nothing: %v", k.name, k.is(""))
		}
		if !k.is(k.bytes) {
			t.Errorf("P1.2: %s of all its bytes", k.name)
		}
		for c := range 256 {
			s := string([]byte{byte(c)})
			want := strings.Contains(k.bytes, s)
			// One wrong byte counts wherever it stands.
			for _, u := range []string{s, s + "ab", "a" + s + "b", "ab" + s} {
				if got := k.is(u); got != want {
					t.Errorf("P1.2: %s(%q): %v", k.name, u, got)
				}
			}
		}
	}
}

func TestClassesOfTexts(t *testing.T) {
	for s, want := range map[string][3]bool{
		"a-1_~!": {true, true, true}, "a=b": {false, true, true}, "/a@b": {false, true, true},
		"a,b": {false, false, true}, `a"b`: {false, false, true}, `a\b`: {false, false, true},
		"a;b": {}, "a b": {}, "\t": {}, "a\x7f": {}, "\xc3\xa4": {}, "a\x00": {}, "\xff": {},
	} {
		if got := [3]bool{Token(s), Octets(s), Plain(s)}; got != want {
			t.Errorf("P1.2: %q: %v", s, got)
		}
	}
}

func TestTrim(t *testing.T) {
	for s, want := range map[string]string{
		"": "", " ": "", "\t": "", " \t \t": "", "a": "a", " a": "a", "a ": "a", "\ta": "a", "a\t": "a",
		" a b\t": "a b", "\t a\t b \t": "a\t b", "\na ": "\na", " a\r\n": "a\r\n", "\v a": "\v a",
		" \x00 ": "\x00", "\t\xff\xa0 ": "\xff\xa0", " \xc2\xa0 ": "\xc2\xa0", "ab": "ab",
	} {
		if got := Trim(s); got != want {
			t.Errorf("P1.3: Trim(%q): %q, not %q", s, got, want)
		}
	}
}

func TestTrimOfEachByte(t *testing.T) {
	for c := range 256 {
		s := string([]byte{byte(c)})
		want := s
		if c == 9 || c == 32 {
			want = ""
		}
		if got := Trim(" " + s + "\t"); got != want {
			t.Errorf("P1.3: Trim of %q between blanks: %q", s, got)
		}
		if got := Trim("\tx" + s + "y "); got != "x"+s+"y" {
			t.Errorf("P1.3: Trim of %q between letters: %q", s, got)
		}
	}
}

func TestCut(t *testing.T) {
	for _, x := range []struct {
		s      string
		sep    byte
		before string
		behind string
		is     bool
	}{
		{"a=b=c", '=', "a", "b=c", true}, {"=", '=', "", "", true}, {"a=", '=', "a", "", true},
		{"=a", '=', "", "a", true}, {"==", '=', "", "=", true}, {"ab", '=', "ab", "", false},
		{"", '=', "", "", false}, {" = ", '=', " ", " ", true},
		{"a\x00b", 0, "a", "b", true}, {"a\xffb\xffc", 255, "a", "b\xffc", true},
		{"\xc3\x84x", 0x84, "\xc3", "x", true}, {"a", 0, "a", "", false}, {"A", 'a', "A", "", false},
	} {
		before, behind, is := Cut(x.s, x.sep)
		if before != x.before || behind != x.behind || is != x.is {
			t.Errorf("P1.3: Cut(%q, %d): %q %q %v", x.s, x.sep, before, behind, is)
		}
	}
}

func TestCutAtEachByte(t *testing.T) {
	for _, s := range corpus() {
		for c := range 256 {
			sep := byte(c)
			before, behind, is := Cut(s, sep)
			if strings.IndexByte(before, sep) >= 0 {
				t.Errorf("P1.3: Cut(%q, %d): not at the first one: %q", s, c, before)
			}
			if is != (strings.IndexByte(s, sep) >= 0) {
				t.Errorf("P1.3: Cut(%q, %d): %v", s, c, is)
			}
			whole := before
			if is {
				whole += string([]byte{sep}) + behind
			}
			if whole != s || !is && behind != "" {
				t.Errorf("P1.3: Cut(%q, %d): %q %q", s, c, before, behind)
			}
		}
	}
}

func TestOneBehindTheOther(t *testing.T) {
	l := corpus()
	for _, a := range l {
		for _, b := range l {
			if Octets(a+b) != (Octets(a) && Octets(b)) {
				t.Errorf("P1.4: Octets of %q and %q", a, b)
			}
			if Plain(a+b) != (Plain(a) && Plain(b)) {
				t.Errorf("P1.4: Plain of %q and %q", a, b)
			}
			if Token(a) && Token(b) && !Token(a+b) {
				t.Errorf("P1.4: Token of %q and %q", a, b)
			}
			if Lower(a+b) != Lower(a)+Lower(b) {
				t.Errorf("P1.4: Lower of %q and %q", a, b)
			}
		}
	}
}

func TestToldOfWhatWasTold(t *testing.T) {
	for _, s := range corpus() {
		if Lower(Lower(s)) != Lower(s) || !Same(s, Lower(s)) {
			t.Errorf("P1.1: Lower of Lower of %q", s)
		}
		if Trim(Trim(s)) != Trim(s) || Trim(" "+s+"\t") != Trim(s) {
			t.Errorf("P1.3: Trim of Trim of %q", s)
		}
	}
}
