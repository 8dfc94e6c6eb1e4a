package lines

import (
	"fmt"
	"math/rand"
	"regexp"
	"slices"
	"strings"
	"testing"
)

// asItIs are the bytes that Percent leaves, written out, so that a slip at an edge of a range shows.
const asItIs = "ABCDEFGHIJKLMNOPQRSTUVWXYZ" + "abcdefghijklmnopqrstuvwxyz" + "0123456789" + "-._~"

// one is the text of the byte c.
func one(c int) string { return string([]byte{byte(c)}) }

// end is what ends a line, of whichever kind.
var end = regexp.MustCompile("\r?\n")

// linesOf takes the lines by the chapter's words: it looks for one end behind the other.
func linesOf(s string) []string {
	var l []string
	for s != "" {
		at := end.FindStringIndex(s)
		if at == nil {
			return append(l, s)
		}
		l, s = append(l, s[:at[0]]), s[at[1]:]
	}
	return l
}

// escapeOf is what the byte c becomes.
func escapeOf(c int) string {
	switch c {
	case 92:
		return `\\`
	case 9:
		return `\t`
	case 10:
		return `\n`
	case 13:
		return `\r`
	}
	return one(c)
}

// percentOf is what the byte c becomes.
func percentOf(c int) string {
	if strings.Contains(asItIs, one(c)) {
		return one(c)
	}
	return fmt.Sprintf("%%%02X", c)
}

// allTexts goes through the texts of at most so many bytes, all of them out of these.
func allTexts(bytes string, most int) func(yield func(s string) bool) {
	return func(yield func(s string) bool) {
		row := []string{""}
		for at := 0; at < len(row) && yield(row[at]); at++ {
			for i := range len(bytes) {
				if len(row[at]) < most {
					row = append(row, row[at]+bytes[i:i+1])
				}
			}
		}
	}
}

// anyTexts goes through texts of any bytes, in which those of account are often.
func anyTexts(seed int64, times int) func(yield func(s string) bool) {
	return func(yield func(s string) bool) {
		rnd := rand.New(rand.NewSource(seed))
		const often = "\t\n\n\r\r\\\\tnrab%%%2205afAF/ -._~"
		for range times {
			row := make([]byte, rnd.Intn(24))
			for i := range row {
				row[i] = often[rnd.Intn(len(often))]
				if rnd.Intn(4) == 0 {
					row[i] = byte(rnd.Intn(256))
				}
			}
			if !yield(string(row)) {
				return
			}
		}
	}
}

func TestSplitWrittenOut(t *testing.T) {
	for _, x := range []struct {
		s    string
		want []string
	}{
		{"", nil}, {"a", []string{"a"}}, {"a b", []string{"a b"}}, {"a\r\n\nb", []string{"a", "", "b"}},
		{"\n", []string{""}}, {"\r\n", []string{""}}, {"a\n", []string{"a"}}, {"a\r\n", []string{"a"}},
		{"\n\n", []string{"", ""}}, {"\r\n\r\n", []string{"", ""}}, {"\n\r\n\n", []string{"", "", ""}}, {"a\n\n\nb", []string{"a", "", "", "b"}},
		{"\na", []string{"", "a"}}, {"a\nb", []string{"a", "b"}}, {"a\r\nb\r\n", []string{"a", "b"}}, {"a\nb\r\nc", []string{"a", "b", "c"}},
		{"\r", []string{"\r"}}, {"a\r", []string{"a\r"}}, {"a\n\r", []string{"a", "\r"}}, {"a\nb\r", []string{"a", "b\r"}}, {"a\r\n\r", []string{"a", "\r"}}, {"\r\r", []string{"\r\r"}},
		{"\ra", []string{"\ra"}}, {"a\rb", []string{"a\rb"}}, {"a\rb\n", []string{"a\rb"}}, {"\ra\n\rb\n", []string{"\ra", "\rb"}}, {"a\r b\r\nc", []string{"a\r b", "c"}},
		{"\r\r\n", []string{"\r"}}, {"a\r\r\n", []string{"a\r"}}, {"a\r\r\r\nb", []string{"a\r\r", "b"}}, {"\n\r\r\n", []string{"", "\r"}}, {"\r\n\r\r\n", []string{"", "\r"}},
		{"\n\r", []string{"", "\r"}}, {"\n\ra", []string{"", "\ra"}}, {"a\v\f\x00\x1c\x85b", []string{"a\v\f\x00\x1c\x85b"}}, {"\u2028a\u0085", []string{"\u2028a\u0085"}},
		{" \t\n \r\n", []string{" \t", " "}}, {"\xff\n\xfe\r\n\xed\xa0\x80", []string{"\xff", "\xfe", "\xed\xa0\x80"}}, {`a\nb`, []string{`a\nb`}},
	} {
		if got := Split(x.s); !slices.Equal(got, x.want) {
			t.Errorf("P6.1: Split(%q) = %q, want %q", x.s, got, x.want)
		}
	}
}

func TestSplitAll(t *testing.T) {
	for s := range allTexts("\n\r\ta", 7) {
		checkSplit(t, s)
	}
	for s := range anyTexts(1, 50000) {
		checkSplit(t, s)
	}
	for c := range 256 {
		for _, s := range []string{one(c), one(c) + "\n", one(c) + "\r\n", "\n" + one(c), "\r" + one(c), "a" + one(c) + "b", "\r\n" + one(c) + "\r"} {
			checkSplit(t, s)
		}
	}
}

func checkSplit(t *testing.T, s string) {
	if got, want := Split(s), linesOf(s); !slices.Equal(got, want) {
		t.Errorf("P6.1: Split(%q) = %q, want %q", s, got, want)
	}
}

func TestJoinWrittenOut(t *testing.T) {
	for _, x := range []struct {
		l    []string
		want string
		is   bool
	}{
		{nil, "", true}, {[]string{}, "", true}, {[]string{""}, "\n", true}, {[]string{"", ""}, "\n\n", true}, {[]string{"a"}, "a\n", true}, {[]string{"a", "b"}, "a\nb\n", true},
		{[]string{"", "a", "b"}, "\na\nb\n", true}, {[]string{"a", "", "b"}, "a\n\nb\n", true}, {[]string{"a", "b", ""}, "a\nb\n\n", true},
		{[]string{"\ra"}, "\ra\n", true}, {[]string{"a\rb", "\r\rc"}, "a\rb\n\r\rc\n", true}, {[]string{"\t", "a\tb"}, "\t\na\tb\n", true}, {[]string{"\xff\x00", `\n`}, "\xff\x00\n\\n\n", true},
		{[]string{"\n"}, "", false}, {[]string{"\r"}, "", false}, {[]string{"a\n"}, "", false}, {[]string{"a\r"}, "", false}, {[]string{"a\r\r"}, "", false}, {[]string{"\ra\r"}, "", false},
		{[]string{"\na"}, "", false}, {[]string{"a\nb"}, "", false}, {[]string{"a\r\n"}, "", false}, {[]string{"a\r\nb"}, "", false}, {[]string{"a\n\r"}, "", false},
		{[]string{"a\nb", "c", "d"}, "", false}, {[]string{"a", "b\nc", "d"}, "", false}, {[]string{"a", "b", "c\nd"}, "", false},
		{[]string{"a\r", "b", "c"}, "", false}, {[]string{"a", "b\r", "c"}, "", false}, {[]string{"a", "b", "c\r"}, "", false}, {[]string{"a", "", "\r"}, "", false},
	} {
		if got, is := Join(x.l...); got != x.want || is != x.is {
			t.Errorf("P6.1: Join(%q) = %q, %v, want %q, %v", x.l, got, is, x.want, x.is)
		}
	}
}

// Every byte at each place of a line, and that line at each place of a list.
func TestJoinEachByte(t *testing.T) {
	for c := range 256 {
		b := one(c)
		for _, line := range []string{b, b + "a", "a" + b + "b", "a" + b} {
			bad := c == 10 || c == 13 && strings.HasSuffix(line, b)
			for _, l := range [][]string{{line}, {line, "x", "y"}, {"x", line, "y"}, {"x", "y", line}} {
				want := strings.Join(l, "\n") + "\n"
				if bad {
					want = ""
				}
				if got, is := Join(l...); got != want || is == bad {
					t.Errorf("P6.1: Join(%q) = %q, %v", l, got, is)
				}
			}
		}
	}
}

func TestTabsWrittenOut(t *testing.T) {
	for _, x := range []struct {
		s    string
		want []string
	}{
		{"", []string{""}}, {"a", []string{"a"}}, {"a b", []string{"a b"}}, {"a\tb", []string{"a", "b"}}, {"\t", []string{"", ""}}, {"\t\t", []string{"", "", ""}},
		{"\ta", []string{"", "a"}}, {"a\t", []string{"a", ""}}, {"a\t\tb", []string{"a", "", "b"}}, {"\ta\tb\t", []string{"", "a", "b", ""}}, {"a\tb\tc\td\te\tf\tg", []string{"a", "b", "c", "d", "e", "f", "g"}},
		{"a\nb\tc\r", []string{"a\nb", "c\r"}}, {"\n\t\r\n", []string{"\n", "\r\n"}}, {"\x00\t\xff", []string{"\x00", "\xff"}}, {`a\tb`, []string{`a\tb`}}, {" \t ", []string{" ", " "}}, {"\v\f", []string{"\v\f"}},
	} {
		if got := Tabs(x.s); !slices.Equal(got, x.want) {
			t.Errorf("P6.2: Tabs(%q) = %q, want %q", x.s, got, x.want)
		}
	}
}

func TestTabsAll(t *testing.T) {
	for s := range allTexts("\t\n\ra", 6) {
		checkTabs(t, s)
	}
	for s := range anyTexts(2, 50000) {
		checkTabs(t, s)
	}
	for c := range 256 {
		for _, s := range []string{one(c), one(c) + one(c), "a" + one(c) + "b", one(c) + "\t", "\t" + one(c)} {
			checkTabs(t, s)
		}
	}
}

func checkTabs(t *testing.T, s string) {
	got := Tabs(s)
	if !slices.Equal(got, strings.Split(s, "\t")) {
		t.Errorf("P6.2: Tabs(%q) = %q", s, got)
	}
	again, is := Tabbed(got...)
	if want := !strings.ContainsAny(s, "\n\r"); is != want || is && again != s || !is && again != "" {
		t.Errorf("P6.2: Tabbed(%q) = %q, %v", got, again, is)
	}
}

func TestTabbedWrittenOut(t *testing.T) {
	for _, x := range []struct {
		l    []string
		want string
		is   bool
	}{
		{nil, "", false}, {[]string{}, "", false}, {[]string{""}, "", true}, {[]string{"a"}, "a", true}, {[]string{"a", "b"}, "a\tb", true}, {[]string{"", ""}, "\t", true},
		{[]string{"", "a", "b"}, "\ta\tb", true}, {[]string{"a", "", "b"}, "a\t\tb", true}, {[]string{"a", "b", ""}, "a\tb\t", true}, {[]string{"", "", ""}, "\t\t", true},
		{[]string{"a b", " "}, "a b\t ", true}, {[]string{"\x00", "\xff", `\t`}, "\x00\t\xff\t\\t", true}, {[]string{"\v", "\f"}, "\v\t\f", true},
		{[]string{"\t"}, "", false}, {[]string{"\n"}, "", false}, {[]string{"\r"}, "", false}, {[]string{"a\r\n"}, "", false}, {[]string{"", "\r"}, "", false}, {[]string{"\t", ""}, "", false},
	} {
		if got, is := Tabbed(x.l...); got != x.want || is != x.is {
			t.Errorf("P6.2: Tabbed(%q) = %q, %v, want %q, %v", x.l, got, is, x.want, x.is)
		}
	}
}

func TestTabbedEachByte(t *testing.T) {
	for c := range 256 {
		b, bad := one(c), c == 9 || c == 10 || c == 13
		for _, field := range []string{b, b + "a", "a" + b + "b", "a" + b, "\xc3" + b + "\xa4 and some more"} {
			for _, l := range [][]string{{field}, {field, "x", "y"}, {"x", field, "y"}, {"x", "y", field}} {
				want := strings.Join(l, "\t")
				if bad {
					want = ""
				}
				if got, is := Tabbed(l...); got != want || is == bad {
					t.Errorf("P6.2: Tabbed(%q) = %q, %v", l, got, is)
				}
			}
		}
	}
}

func TestEscapeWrittenOut(t *testing.T) {
	for _, x := range [][2]string{
		{"", ""}, {"a", "a"}, {"a\tb", `a\tb`}, {"\t", `\t`}, {"\n", `\n`}, {"\r", `\r`}, {`\`, `\\`}, {"\r\n", `\r\n`}, {`\t`, `\\t`}, {"\\\t", `\\\t`}, {"\t\\", `\t\\`}, {`\\`, `\\\\`},
		{`\n` + "\n\r", `\\n\n\r`}, {"tnr", "tnr"}, {"\x00\xff\v\b\f", "\x00\xff\v\b\f"}, {`"'/%`, `"'/%`}, {"\xc3\xa4\t\xc3", "\xc3\xa4\\t\xc3"},
	} {
		if got := Escape(x[0]); got != x[1] {
			t.Errorf("P6.3: Escape(%q) = %q, want %q", x[0], got, x[1])
		}
		if got, is := Unescape(x[1]); got != x[0] || !is {
			t.Errorf("P6.3: Unescape(%q) = %q, %v, want %q", x[1], got, is, x[0])
		}
	}
	for _, s := range []string{
		`\`, `a\`, `\\\`, `\t\`, `\x`, `\T`, `\N`, `\R`, `\0`, `\ `, `\"`, `\/`, `\b`, `\f`, `\v`, `\u0009`, `\x09`, `\011`, "\\\n", "\\\t", "\\\r", "\t", "\n", "\r", "a\tb", `\\` + "\n", `\n` + "\n", "\\\xff", `\tx\`, `a\\\q`, `\\\ `,
	} {
		if got, is := Unescape(s); got != "" || is {
			t.Errorf("P6.3: Unescape(%q) = %q, %v", s, got, is)
		}
	}
}

func TestEscapeEachByte(t *testing.T) {
	signs := map[int]string{'\\': `\`, 't': "\t", 'n': "\n", 'r': "\r"}
	for c := range 256 {
		checkWritten(t, "P6.3", Escape, Unescape, escapeOf, one(c))
		checkWritten(t, "P6.3", Escape, Unescape, escapeOf, "a"+one(c)+`\`)
		// A byte that stands as it is.
		for _, s := range []string{one(c), "a" + one(c), one(c) + "b", `\\` + one(c), one(c) + "\xff"} {
			want := !slices.Contains([]int{9, 10, 13, 92}, c)
			if got, is := Unescape(s); is != want || !is && got != "" {
				t.Errorf("P6.3: Unescape(%q) = %q, %v", s, got, is)
			}
		}
		// A backslash before it.
		sign, want := signs[c]
		for _, x := range [][2]string{{"", ""}, {"a", ""}, {"", "b"}, {"t", "n"}} {
			whole := x[0] + sign + x[1]
			if !want {
				whole = ""
			}
			if got, is := Unescape(x[0] + `\` + one(c) + x[1]); got != whole || is != want {
				t.Errorf("P6.3: Unescape of a backslash and %q, between %q = %q, %v", one(c), x, got, is)
			}
		}
	}
}

func TestPercentWrittenOut(t *testing.T) {
	for _, x := range [][2]string{
		{"", ""}, {"a b/", "a%20b%2F"}, {"%", "%25"}, {"%%", "%25%25"}, {"%41", "%2541"}, {asItIs, asItIs}, {"\x00", "%00"}, {"\xff", "%FF"}, {"\x0f\xf0", "%0F%F0"}, {"\t\n\r", "%09%0A%0D"}, {"\x7f\x80", "%7F%80"},
		{"@[`{", "%40%5B%60%7B"}, {"/:", "%2F%3A"}, {",^}!", "%2C%5E%7D%21"}, {"a=b; c", "a%3Db%3B%20c"}, {"+*'()", "%2B%2A%27%28%29"}, {"\xc3\xa4", "%C3%A4"}, {"\xab\xcd\xef", "%AB%CD%EF"}, {`\`, "%5C"},
	} {
		if got := Percent(x[0]); got != x[1] {
			t.Errorf("P6.4: Percent(%q) = %q, want %q", x[0], got, x[1])
		}
		if got, is := Unpercent(x[1]); got != x[0] || !is {
			t.Errorf("P6.4: Unpercent(%q) = %q, %v, want %q", x[1], got, is, x[0])
		}
	}
	for _, s := range []string{
		"%", "a%", "%2", "%F", "a%2", "%20%", "%20%2", "%2f", "%fF", "%Ff", "%ff", "%c3", "%41", "%7E", "%2D", "%2E", "%5F", "%30", "%61", "%%", "%%25", "%2%20", "% 20", "%+2", "%-1", "%2G", "%G2", "%GG", "%0x", "%:0", "%/0", "%0@", "%0:",
		" ", "/", "a b", "+", "\x00", "\xff", "\xc3\xa4", "a/b", "%20 ", " %20", "%u0020", "%20\n", "\n", "=", ":", "@", "[", "`", "{", "%\xff\xff", "%2\xff",
	} {
		if got, is := Unpercent(s); got != "" || is {
			t.Errorf("P6.4: Unpercent(%q) = %q, %v", s, got, is)
		}
	}
}

func TestPercentEachByte(t *testing.T) {
	if len(asItIs) != 66 {
		t.Errorf("the bytes of this test: %d", len(asItIs))
	}
	for c := range 256 {
		checkWritten(t, "P6.4", Percent, Unpercent, percentOf, one(c))
		checkWritten(t, "P6.4", Percent, Unpercent, percentOf, "a"+one(c)+"%")
		want := strings.Contains(asItIs, one(c))
		for _, s := range []string{one(c), "a" + one(c), one(c) + "b", "%20" + one(c), one(c) + "%2F"} {
			if got, is := Unpercent(s); is != want || !is && got != "" {
				t.Errorf("P6.4: Unpercent(%q) = %q, %v", s, got, is)
			}
		}
		for _, s := range []string{"%" + one(c), "a%" + one(c), "%20%" + one(c)} {
			if got, is := Unpercent(s); got != "" || is {
				t.Errorf("P6.4: Unpercent(%q) = %q, %v", s, got, is)
			}
		}
	}
}

// A percent sign, and any two bytes behind it.
func TestUnpercentEachPair(t *testing.T) {
	forms := map[string]int{}
	for c := range 256 {
		forms[percentOf(c)] = c
	}
	for a := range 256 {
		for b := range 256 {
			s := "%" + one(a) + one(b)
			c, want := forms[s]
			whole := ""
			if want {
				whole = "x" + one(c) + "0"
			}
			if got, is := Unpercent("x" + s + "0"); got != whole || is != want {
				t.Errorf("P6.4: Unpercent(%q, between bytes) = %q, %v", s, got, is)
			}
		}
	}
}

// checkWritten holds a text as it is written against what each of its bytes becomes, and reads it again.
func checkWritten(t *testing.T, promise string, write func(s string) string, read func(s string) (string, bool), of func(c int) string, s string) {
	want := ""
	for i := range len(s) {
		want += of(int(s[i]))
	}
	got := write(s)
	if got != want {
		t.Errorf("%s: %q is written as %q, want %q", promise, s, got, want)
	}
	if again, is := read(got); again != s || !is {
		t.Errorf("P6.5: %q is written as %q, and read as %q, %v", s, got, again, is)
	}
}

// originals gives, for each text of at most so many of these bytes that is one as it is written, what it was.
func originals(bytes string, most int, of func(c int) string) map[string]string {
	m := map[string]string{}
	var grow func(form, was string)
	grow = func(form, was string) {
		m[form] = was
		for c := range 256 {
			next := of(c)
			if strings.Trim(next, bytes) == "" && len(form)+len(next) <= most {
				grow(form+next, was+one(c))
			}
		}
	}
	grow("", "")
	return m
}

// Of all short texts just those are read that some text is written as.
func TestReadJustWhatIsWritten(t *testing.T) {
	for _, x := range []struct {
		promise, bytes string
		most           int
		read           func(s string) (string, bool)
		of             func(c int) string
	}{
		{"P6.3", "\\tnr\t\n\ra", 5, Unescape, escapeOf},
		{"P6.3", "\\nx", 9, Unescape, escapeOf},
		{"P6.4", "%25Ff/", 6, Unpercent, percentOf},
		{"P6.4", "%41AaG ", 6, Unpercent, percentOf},
	} {
		m := originals(x.bytes, x.most, x.of)
		for s := range allTexts(x.bytes, x.most) {
			want, may := m[s]
			if got, is := x.read(s); got != want || is != may {
				t.Errorf("%s: %q is read as %q, %v, want %q, %v", x.promise, s, got, is, want, may)
			}
		}
	}
}

func TestWrittenIsReadAsItWas(t *testing.T) {
	for s := range anyTexts(3, 100000) {
		checkWritten(t, "P6.3", Escape, Unescape, escapeOf, s)
		checkWritten(t, "P6.4", Percent, Unpercent, percentOf, s)
		checkRead(t, s)
	}
}

// checkRead looks whether what is read of s is written as s.
func checkRead(t *testing.T, s string) {
	if got, is := Unescape(s); is && Escape(got) != s || !is && got != "" {
		t.Errorf("P6.3: Unescape(%q) = %q, %v", s, got, is)
	}
	if got, is := Unpercent(s); is && Percent(got) != s || !is && got != "" {
		t.Errorf("P6.4: Unpercent(%q) = %q, %v", s, got, is)
	}
}

// What is escaped may be a field, and a line; what is percented may be a word of either.
func TestEscapedMayBeAField(t *testing.T) {
	for s := range anyTexts(4, 20000) {
		for _, form := range []string{Escape(s), Percent(s)} {
			if got, is := Tabbed(form); got != form || !is {
				t.Errorf("P6.3: Tabbed(%q) = %q, %v", form, got, is)
			}
			if got, is := Join(form); got != form+"\n" || !is {
				t.Errorf("P6.3: Join(%q) = %q, %v", form, got, is)
			}
		}
	}
}

func TestJoinedAndTabbedAreHadBack(t *testing.T) {
	var parts []string
	for s := range allTexts("\t\n\ra", 2) {
		parts = append(parts, s)
	}
	parts = append(parts, "\x00", "\xff", "a\r\rb", `\n`, "\xc3\xa4", " ")
	checkLists(t)
	for _, a := range parts {
		checkLists(t, a)
		for _, b := range parts {
			checkLists(t, a, b)
			for _, c := range parts {
				checkLists(t, a, b, c)
			}
		}
	}
	var l []string
	for s := range anyTexts(5, 20000) {
		if l = append(l, s); len(l) > 4 {
			l = l[2:]
		}
		checkLists(t, l...)
	}
}

// checkLists joins and tabs a list, and has it back.
func checkLists(t *testing.T, l ...string) {
	line := func(s string) bool { return strings.Contains(s, "\n") || strings.HasSuffix(s, "\r") }
	s, is := Join(l...)
	if is == slices.ContainsFunc(l, line) || is && !slices.Equal(Split(s), l) || !is && s != "" {
		t.Errorf("P6.5: Join(%q) = %q, %v, and its lines are %q", l, s, is, Split(s))
	}
	if is && !slices.Equal(Split(strings.ReplaceAll(s, "\n", "\r\n")), l) {
		t.Errorf("P6.1: the lines of Join(%q), with bytes 13, are %q", l, Split(strings.ReplaceAll(s, "\n", "\r\n")))
	}
	field := func(s string) bool { return strings.ContainsAny(s, "\t\n\r") }
	s, is = Tabbed(l...)
	if is != (len(l) > 0 && !slices.ContainsFunc(l, field)) || is && !slices.Equal(Tabs(s), l) || !is && s != "" {
		t.Errorf("P6.5: Tabbed(%q) = %q, %v, and its fields are %q", l, s, is, Tabs(s))
	}
}

func TestByte10Between(t *testing.T) {
	var texts []string
	for s := range allTexts("\n\ra", 4) {
		texts = append(texts, s)
	}
	for _, a := range texts {
		for _, b := range texts {
			checkBetween(t, a, b)
		}
	}
	was := ""
	for s := range anyTexts(6, 50000) {
		checkBetween(t, was, s)
		was = s
	}
}

// checkBetween holds the lines of two texts with a byte 10 between against those of the first one with it, and of the second one.
func checkBetween(t *testing.T, a, b string) {
	if got, want := Split(a+"\n"+b), slices.Concat(Split(a+"\n"), Split(b)); !slices.Equal(got, want) {
		t.Errorf("P6.5: Split(%q, 10, %q) = %q, want %q", a, b, got, want)
	}
}

// Long texts: what took its time by the square of their length would not end here.
func TestLongTexts(t *testing.T) {
	const long = 1 << 21
	for s, want := range map[string]int{strings.Repeat("\n", long): long, strings.Repeat("\r\n", long): long, strings.Repeat("\r", long): 1, strings.Repeat("ab\r\n", long): long} {
		l := Split(s)
		if len(l) != want {
			t.Errorf("P6.1: Split of a long text: %d lines, want %d", len(l), want)
		}
		if again, is := Join(l...); is != (want == long) || is && again != strings.ReplaceAll(s, "\r\n", "\n") {
			t.Errorf("P6.1: Join of %d lines: %v", want, is)
		}
	}
	if l := Tabs(strings.Repeat("\t", long)); len(l) != long+1 {
		t.Errorf("P6.2: Tabs of a long text: %d", len(l))
	} else if s, is := Tabbed(l...); s != strings.Repeat("\t", long) || !is {
		t.Errorf("P6.2: Tabbed of many fields: %d, %v", len(s), is)
	}
	s := strings.Repeat("a\t\\\xff%", long)
	if got, is := Unescape(Escape(s)); got != s || !is {
		t.Errorf("P6.5: a long text escaped: %d, %v", len(got), is)
	}
	if got, is := Unpercent(Percent(s)); got != s || !is {
		t.Errorf("P6.5: a long text percented: %d, %v", len(got), is)
	}
}

// What is written into lists, handed in or told, changes no text and no later answer; and a call leaves its list as it was.
func TestListsAreTheCallers(t *testing.T) {
	for _, call := range []func(l ...string) (string, bool){Join, Tabbed} {
		for _, l := range [][]string{{"a", "", "b"}, {"a", "\n", "b"}, {"x"}} {
			was := slices.Clone(l)
			first, is := call(l...)
			if !slices.Equal(l, was) {
				t.Errorf("R5: a list was %q, and is %q", was, l)
			}
			clear(l)
			if again, still := call(was...); again != first || still != is {
				t.Errorf("R6: %q, once %q", again, first)
			}
		}
	}
	for _, call := range []func(s string) []string{Split, Tabs} {
		l := call("a\n\tb\n")
		was := slices.Clone(l)
		clear(l)
		_ = append(l[:1], "x")
		if again := call("a\n\tb\n"); !slices.Equal(again, was) {
			t.Errorf("R6: %q, once what was told was written into", again)
		}
	}
}

// Whoever goes through pieces may stop at any of them, and go through them again.
func TestPiecesLeftEarly(t *testing.T) {
	all := pieces("a\tb\tc", '\t')
	for at, want := range []string{"a", "b", "c"} {
		got, n := "", 0
		for piece := range all {
			got = piece
			if n++; n > at {
				break
			}
		}
		if got != want {
			t.Errorf("P6.2: the piece at %d is %q, want %q", at, got, want)
		}
	}
}

func FuzzLines(f *testing.F) {
	f.Add("a\r\n\nb", "\r")
	f.Add(`a\tb\`, "a%20b%2f")
	f.Fuzz(func(t *testing.T, a, b string) {
		checkSplit(t, a)
		checkTabs(t, a)
		checkWritten(t, "P6.3", Escape, Unescape, escapeOf, a)
		checkWritten(t, "P6.4", Percent, Unpercent, percentOf, a)
		checkRead(t, a)
		checkLists(t, a, b)
		checkBetween(t, a, b)
	})
}
