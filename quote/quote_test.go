package quote

import (
	stdjson "encoding/json"
	"fmt"
	"math/rand"
	"regexp"
	"strconv"
	"strings"
	"testing"
	"unicode/utf16"
	"unicode/utf8"

	"cracknel/api"
	"cracknel/utf"
)

// one is the text of the byte c.
func one(c int) string { return string([]byte{byte(c)}) }

// edges are letters at which something changes: those that are escaped and their neighbours, the first and last ones of one to four bytes, those about the gap, and some more.
func edges() []int {
	return []int{0, 1, 7, 8, 9, 10, 11, 12, 13, 14, 15, 16, 30, 31, 32, 33, 34, 35, 47, 48, 91, 92, 93, 97, 117, 126, 127, 128, 129, 228, 255, 256, 2046, 2047, 2048, 2049, 8232, 8364, 55294, 55295, 57344, 57345, 65279, 65532, 65533, 65534, 65535, 65536, 65537, 128512, 1114110, 1114111}
}

// severed are bytes that are no letter: lone ones, letters cut short, longer than need be, of the gap, and beyond the last one.
func severed() []string {
	return []string{
		"\x80", "\xbf", "\xc3", "\xe2", "\xf0", "\xff", "\xfe", "\xc0", "\xc1", "\xf5", "\xf8",
		"\xe2\x82", "\xf0\x9f", "\xf0\x9f\x98", "\xc3a", "\xe2\x82a", "\xf0\x9f\x98a", "\xe2a\x82", "\xc3\xc3\xa4",
		"\xc0\x80", "\xc0\xa2", "\xc1\x9c", "\xc1\xbf", "\xe0\x80\x80", "\xe0\x9f\xbf", "\xf0\x80\x80\x80", "\xf0\x8f\xbf\xbf",
		"\xed\xa0\x80", "\xed\xaf\xbf", "\xed\xb0\x80", "\xed\xbf\xbf", "\xed\xa0\xbd\xed\xb8\x80",
		"\xf4\x90\x80\x80", "\xf7\xbf\xbf\xbf", "\xf8\x88\x80\x80\x80",
	}
}

// pieceOf is the piece of the letter r, by the chapter's words.
func pieceOf(r int) string {
	switch r {
	case 34, 92:
		return one(92) + one(r)
	case 8:
		return `\b`
	case 9:
		return `\t`
	case 10:
		return `\n`
	case 12:
		return `\f`
	case 13:
		return `\r`
	}
	if r < 32 {
		return fmt.Sprintf(`\u%04x`, r)
	}
	return string(rune(r))
}

// written is what s is written as, by the chapter's words.
func written(s string) (string, bool) {
	if !utf8.ValidString(s) {
		return "", false
	}
	want := `"`
	for _, r := range s {
		want += pieceOf(int(r))
	}
	return want + `"`, true
}

var (
	bySign   = regexp.MustCompile(`^\\["\\/btnfr]`)
	byNumber = regexp.MustCompile(`^\\u([0-9a-fA-F]{4})`)
	byTwo    = regexp.MustCompile(`^\\u([dD][89abAB][0-9a-fA-F]{2})\\u([dD][c-fC-F][0-9a-fA-F]{2})`)
)

// hex is the number of hexadecimal digits.
func hex(s string) rune {
	n, _ := strconv.ParseUint(s, 16, 32)
	return rune(n)
}

// escapeOf takes the escape with which s begins, by the chapter's words.
func escapeOf(s string) (string, int, bool) {
	if m := byTwo.FindStringSubmatch(s); m != nil {
		return string(utf16.DecodeRune(hex(m[1]), hex(m[2]))), 12, true
	}
	if m := byNumber.FindStringSubmatch(s); m != nil {
		r := hex(m[1])
		return string(r), 6, !utf16.IsSurrogate(r)
	}
	if m := bySign.FindString(s); m != "" {
		return map[string]string{`"`: "\"", `\`: "\\", `/`: "/", "b": "\b", "t": "\t", "n": "\n", "f": "\f", "r": "\r"}[m[1:]], 2, true
	}
	return "", 0, false
}

// readOf reads s by the chapter's words, piece by piece.
func readOf(s string) (string, int, api.Errno) {
	if s == "" || s[0] != 34 {
		return "", 0, api.ErrQuoteNone
	}
	text, rest := "", s[1:]
	for {
		if rest == "" {
			return "", 0, api.ErrQuoteShort
		}
		if rest[0] == 34 {
			return text, len(s) - len(rest) + 1, api.OK
		}
		if rest[0] < 32 {
			return "", 0, api.ErrQuoteByte
		}
		if rest[0] == 92 {
			letter, long, is := escapeOf(rest)
			if !is {
				return "", 0, api.ErrQuoteEscape
			}
			text, rest = text+letter, rest[long:]
			continue
		}
		r, long := utf8.DecodeRuneInString(rest)
		if r == utf8.RuneError && long == 1 {
			return "", 0, api.ErrQuoteUtf
		}
		text, rest = text+rest[:long], rest[long:]
	}
}

// checkRead holds Read of s against the chapter's words.
func checkRead(t *testing.T, s string) {
	t.Helper()
	text, n, e := readOf(s)
	if got, long, err := Read(s); got != text || long != n || err != e {
		t.Errorf("P7.2: Read(%q) = %q, %d, %d, want %q, %d, %d", s, got, long, err, text, n, e)
	}
}

// checkIs looks whether Read of s tells that text, and all bytes of s but those behind.
func checkIs(t *testing.T, s, text, behind string) {
	t.Helper()
	if got, long, err := Read(s + behind); got != text || long != len(s) || err != api.OK {
		t.Errorf("P7.2: Read(%q, with %q behind) = %q, %d, %d, want %q, %d", s, behind, got, long, err, text, len(s))
	}
}

// checkFails looks whether Read of s tells the error e, and nothing else.
func checkFails(t *testing.T, s string, e api.Errno) {
	t.Helper()
	if got, long, err := Read(s); got != "" || long != 0 || err != e {
		t.Errorf("P7.2: Read(%q) = %q, %d, %d, want error %d", s, got, long, err, e)
	}
}

// behinds are texts that may stand behind a closing quote.
func behinds() []string {
	return []string{"", `"`, `""`, "x", "\\", `\u0041`, "\n", "\x00", "\xff", "\xa4", ", \"b\"", " ", `\"`}
}

// allTexts goes through the texts of at most so many parts, all of them out of these.
func allTexts(parts []string, most int) func(yield func(s string) bool) {
	return func(yield func(s string) bool) {
		var grow func(s string, many int) bool
		grow = func(s string, many int) bool {
			if !yield(s) {
				return false
			}
			for _, part := range parts {
				if many < most && !grow(s+part, many+1) {
					return false
				}
			}
			return true
		}
		grow("", 0)
	}
}

// anyTexts goes through texts of parts of account, and of any bytes.
func anyTexts(seed int64, times int) func(yield func(s string) bool) {
	return func(yield func(s string) bool) {
		rnd := rand.New(rand.NewSource(seed))
		often := []string{`"`, `\`, `\\`, `\"`, `\/`, `\b`, `\n`, `\u`, `\u00`, `\ud83d`, `\ude00`, `\uD83D\uDE00`, `\u00e4`, `\uFFFD`, "0", "9", "a", "F", "g", "u", "\n", "\x00", "\x1f", "\x7f", "\xc3\xa4", "\xe2\x82\xac", "\xf0\x9f\x98\x80", "\xc3", "\xed\xa0\x80"}
		for range times {
			var s strings.Builder
			for range rnd.Intn(10) {
				if rnd.Intn(8) == 0 {
					s.WriteByte(byte(rnd.Intn(256)))
				} else {
					s.WriteString(often[rnd.Intn(len(often))])
				}
			}
			if !yield(s.String()) {
				return
			}
		}
	}
}

// anyValid goes through texts of any letters, in which those at the edges are often.
func anyValid(seed int64, times int) func(yield func(s string) bool) {
	return func(yield func(s string) bool) {
		rnd := rand.New(rand.NewSource(seed))
		for range times {
			row := make([]rune, rnd.Intn(12))
			for i := range row {
				row[i] = rune(edges()[rnd.Intn(len(edges()))])
				if rnd.Intn(3) == 0 {
					row[i] = rune(rnd.Intn(1114112))
				}
			}
			// As text, a number of the gap is 65533.
			if !yield(string(row)) {
				return
			}
		}
	}
}

func TestWriteWrittenOut(t *testing.T) {
	for _, x := range [][2]string{
		{"", `""`}, {"a\n", `"a\n"`}, {"a", `"a"`}, {"a b", `"a b"`}, {"a/b", `"a/b"`}, {`"`, `"\""`}, {`\`, `"\\"`}, {`\n`, `"\\n"`}, {`\"`, `"\\\""`}, {`""`, `"\"\""`}, {`\\`, `"\\\\"`},
		{"\b\t\n\f\r", `"\b\t\n\f\r"`}, {"\x00", `"\u0000"`}, {"\x01\x07", `"\u0001\u0007"`}, {"\v", `"\u000b"`}, {"\x0e\x0f", `"\u000e\u000f"`}, {"\x10\x1a\x1f", `"\u0010\u001a\u001f"`}, {"\x1b[", `"\u001b["`},
		{" !", `" !"`}, {"\x7f", "\"\x7f\""}, {"<>&'", `"<>&'"`}, {"btnfru", `"btnfru"`}, {`\u0041`, `"\\u0041"`},
		{"\xc2\x80", "\"\xc2\x80\""}, {"\xc3\xa4", "\"\xc3\xa4\""}, {"\xe2\x82\xac", "\"\xe2\x82\xac\""}, {"\xe2\x80\xa8\xe2\x80\xa9", "\"\xe2\x80\xa8\xe2\x80\xa9\""}, {"\xef\xbf\xbd", "\"\xef\xbf\xbd\""}, {"\xf0\x9f\x98\x80", "\"\xf0\x9f\x98\x80\""}, {"\xf4\x8f\xbf\xbf", "\"\xf4\x8f\xbf\xbf\""},
		{"\xc3\xa4\"\xe2\x82\xac\\\xf0\x9f\x98\x80\x02", "\"\xc3\xa4\\\"\xe2\x82\xac\\\\\xf0\x9f\x98\x80\\u0002\""},
	} {
		if got, is := Write(x[0]); got != x[1] || !is {
			t.Errorf("P7.1: Write(%q) = %q, %v, want %q", x[0], got, is, x[1])
		}
		checkIs(t, x[1], x[0], "")
	}
}

// Every letter that there is, alone and between others.
func TestWriteEachLetter(t *testing.T) {
	for r := range 1114112 {
		letter, is := utf.Put(r)
		if !is {
			continue
		}
		want := pieceOf(r)
		if got, is := Write(letter); got != `"`+want+`"` || !is {
			t.Errorf("P7.1: Write(%q) = %q, %v, want the piece %q", letter, got, is, want)
		}
		if got, n, e := Read(`"` + want + `"x`); got != letter || n != len(want)+2 || e != api.OK {
			t.Errorf("P7.3: Read(%q in quotes) = %q, %d, %d", want, got, n, e)
		}
	}
	for _, r := range edges() {
		for _, x := range [][2]string{{"", "a"}, {"a", ""}, {"\"", "\n"}, {"\xc3\xa4", "\xf0\x9f\x98\x80"}} {
			s := x[0] + string(rune(r)) + x[1]
			want, _ := written(s)
			if got, is := Write(s); got != want || !is {
				t.Errorf("P7.1: Write(%q) = %q, %v, want %q", s, got, is, want)
			}
		}
	}
}

// Texts that are not valid, wherever the bytes stand that are no letter.
func TestWriteNotValid(t *testing.T) {
	for _, bad := range severed() {
		for _, x := range [][2]string{{"", ""}, {"", "b"}, {"a", "b"}, {"a", ""}, {"\"\n", "\\"}, {"\xc3\xa4", "\xf0\x9f\x98\x80"}, {"", `"`}, {strings.Repeat("long ", 20), "\xef\xbf\xbd"}} {
			if got, is := Write(x[0] + bad + x[1]); got != "" || is {
				t.Errorf("P7.1: Write(%q) = %q, %v", x[0]+bad+x[1], got, is)
			}
		}
	}
	for c := 128; c < 256; c++ {
		for _, s := range []string{one(c), one(c) + "a", "a" + one(c)} {
			if got, is := Write(s); got != "" || is {
				t.Errorf("P7.1: Write(%q) = %q, %v", s, got, is)
			}
		}
	}
}

func TestWriteAnyText(t *testing.T) {
	for s := range anyTexts(1, 50000) {
		want, may := written(s)
		if got, is := Write(s); got != want || is != may {
			t.Errorf("P7.1: Write(%q) = %q, %v, want %q, %v", s, got, is, want, may)
		}
	}
}

func TestReadWrittenOut(t *testing.T) {
	for _, x := range []struct {
		s, text string
	}{
		{`""`, ""}, {`"a"`, "a"}, {`"a/b"`, "a/b"}, {`"\""`, `"`}, {`"\\"`, `\`}, {`"\/"`, "/"}, {`"/"`, "/"}, {`"\b\t\n\f\r"`, "\b\t\n\f\r"}, {`"\\n"`, `\n`}, {`"\\\n"`, "\\\n"}, {`"\\\\"`, `\\`}, {`"\\\""`, `\"`},
		{`"\u00e4"`, "\xc3\xa4"}, {`"\u00E4"`, "\xc3\xa4"}, {`"\u0041"`, "A"}, {`"\u0022"`, `"`}, {`"\u005c"`, `\`}, {`"\u005Cn"`, `\n`}, {`"\u000a"`, "\n"}, {`"\u00410"`, "A0"}, {`"\u0041\u0042"`, "AB"}, {`"x\u0041y"`, "xAy"},
		{`"\ud83d\ude00"`, "\xf0\x9f\x98\x80"}, {`"\uD83D\uDE00"`, "\xf0\x9f\x98\x80"}, {`"\uD83d\udE00"`, "\xf0\x9f\x98\x80"}, {`"a\ud83d\ude00\ud83d\ude00b"`, "a\xf0\x9f\x98\x80\xf0\x9f\x98\x80b"}, {`"\ud83d\ude000"`, "\xf0\x9f\x98\x800"},
		{"\"\x7f\"", "\x7f"}, {"\" \"", " "}, {"\"\xc3\xa4\"", "\xc3\xa4"}, {"\"\xe2\x82\xac\"", "\xe2\x82\xac"}, {"\"\xf0\x9f\x98\x80\"", "\xf0\x9f\x98\x80"}, {"\"\xef\xbf\xbd\"", "\xef\xbf\xbd"}, {"\"\xc2\x85\xe2\x80\xa8\"", "\xc2\x85\xe2\x80\xa8"},
	} {
		for _, behind := range behinds() {
			checkIs(t, x.s, x.text, behind)
		}
	}
}

func TestReadErrorsWrittenOut(t *testing.T) {
	for _, x := range []struct {
		e api.Errno
		l []string
	}{
		{api.ErrQuoteNone, []string{"", "a", `a"`, ` "a"`, "\n\"\"", `\"`, `'a'`, "\x00", "\xff", "\xc3\xa4", "\xe2\x80\x9ca\xe2\x80\x9d", "\xef\xbb\xbf\"\""}},
		{api.ErrQuoteShort, []string{`"`, `"a`, `"ab`, `"\n`, `"\"`, `"\\\"`, `"\u0041`, `"\ud83d\ude00`, "\"\xc3\xa4", "\"\xf0\x9f\x98\x80", "\"\x7f"}},
		{api.ErrQuoteByte, []string{"\"\n\"", "\"a\n\"", "\"\t", "\"\r\n\"", "\"\x00\"", "\"\x1f\"", "\"\\n\n\"", "\"\xc3\xa4\x01"}},
		{api.ErrQuoteEscape, []string{`"\`, `"a\`, `"\\\`, `"\x"`, `"\a"`, `"\v"`, `"\0"`, `"\'"`, `"\ "`, `"\B"`, `"\N"`, `"\U0041"`, "\"\\\n\"", "\"\\\xc3\xa4\"", "\"\\\xff\""}},
		{api.ErrQuoteEscape, []string{`"\u`, `"\u"`, `"\u0`, `"\u0"`, `"\u00`, `"\u00"`, `"\u004`, `"\u004"`, `"\u004g"`, `"\u00g1"`, `"\u0g41"`, `"\ug041"`, `"\u+041"`, `"\u-041"`, `"\u 041"`, `"\u004 "`, `"\u0x41"`, `"\u0_41"`, `"\u{41}"`, "\"\\u004\xc3\xa4\"", `"\u004\u0041"`}},
		{api.ErrQuoteEscape, []string{`"\ud800`, `"\ud800"`, `"\udbff"`, `"\uD800"`, `"\ud83dx"`, `"\ud83dude00"`, `"\ud83d\n"`, `"\ud83d\\"`, `"\ud83d\"`, `"\ud83d\""`, `"\ud83d\`, `"\ud83d\u`, `"\ud83d\u"`, `"\ud83d\ude0`, `"\ud83d\ude0"`, `"\ud83d\ude0g"`, `"\ud83d\xde00"`, `"\ud83d/ude00"`, `"\ud83d \ude00"`, `"\ud83d\Ude00"`}},
		{api.ErrQuoteEscape, []string{`"\ud83d\u0041"`, `"\ud83d\ud83d"`, `"\ud83d\ud83d\ude00"`, `"\ud83d\udbff"`, `"\ud83d\ue000"`, `"\ud83d\uffff"`, `"\udc00"`, `"\udfff"`, `"\ude00\ud83d"`, `"\udc00\udc00"`, `"\ud83d\ude00\ude00"`, "\"\\ud83d\n\"", "\"\\ud83d\xff\"", "\"\\ud83d\xf0\x9f\x98\x80\""}},
		{api.ErrQuoteUtf, []string{"\"\xff\"", "\"\x80", "\"\xc3", "\"\xc3\"", "\"a\xe2\x82\"", "\"\xed\xa0\x80\"", "\"\xc0\xa2\"", "\"\\n\xff\"", "\"\xf4\x90\x80\x80\""}},
	} {
		for _, s := range x.l {
			checkFails(t, s, x.e)
			checkRead(t, s)
		}
	}
}

// The error that is told is that of the leftmost piece that has one.
func TestReadWhichError(t *testing.T) {
	faults := []struct {
		s string
		e api.Errno
	}{{"\n", api.ErrQuoteByte}, {"\x00", api.ErrQuoteByte}, {`\x`, api.ErrQuoteEscape}, {`\ud800 `, api.ErrQuoteEscape}, {`\udc00`, api.ErrQuoteEscape}, {"\xff", api.ErrQuoteUtf}, {"\xed\xa0\x80", api.ErrQuoteUtf}}
	for _, a := range faults {
		for _, b := range faults {
			for _, ahead := range []string{"", "a", `\"`, `\ud83d\ude00`, "\xc3\xa4"} {
				for _, behind := range []string{"", `"`, "b\"", "b"} {
					checkFails(t, `"`+ahead+a.s+b.s+behind, a.e)
					checkFails(t, `"`+ahead+a.s+"x"+b.s+behind, a.e)
					checkFails(t, ahead+"x"+a.s+b.s+behind, api.ErrQuoteNone)
				}
				// Behind the closing quote nothing is looked at.
				checkRead(t, `"`+ahead+`"`+a.s+b.s)
			}
		}
	}
}

// Every byte at the head of a text, as a piece, behind a backslash, and as each digit.
func TestReadEachByte(t *testing.T) {
	for c := range 256 {
		b := one(c)
		if c != 34 {
			checkFails(t, b, api.ErrQuoteNone)
			checkFails(t, b+`""`, api.ErrQuoteNone)
		}
		checkPlain(t, c)
		checkEscaped(t, c)
		for at := range 4 {
			n := "00e4"[:at] + b + "00e4"[at+1:]
			want := api.ErrQuoteEscape
			if strings.Contains("0123456789abcdefABCDEF", b) {
				want = api.OK
			}
			if _, _, e := Read(`"\u` + n + `"`); e != want {
				t.Errorf("P7.2: the digits %q: %d, want %d", n, e, want)
			}
			checkRead(t, `"\u`+n+`"`)
			checkRead(t, `"\ud83d\u`+n+`"`)
		}
		for _, s := range []string{`\ud83d` + b + `ude00`, `\ud83d\` + b + `de00`, `\ud83d` + b, `\ud83d\` + b, `\ud83` + b + `\ude00`, `\ud` + b + `3d\ude00`, `\ud83d\ud` + b + "00", `\u` + b + `83d\ude00`, `\u004` + b} {
			checkRead(t, `"`+s)
			checkRead(t, `"`+s+`"`)
			checkRead(t, `"`+s+`00"`)
		}
	}
}

// checkPlain reads the byte c as it stands.
func checkPlain(t *testing.T, c int) {
	t.Helper()
	switch b := one(c); {
	case c == 34:
		checkIs(t, `"`+b, "", `"`)
	case c == 92:
		checkFails(t, `"`+b, api.ErrQuoteEscape)
	case c < 32:
		checkFails(t, `"`+b, api.ErrQuoteByte)
		checkFails(t, `"`+b+`"`, api.ErrQuoteByte)
		checkFails(t, `"a`+b+`b"`, api.ErrQuoteByte)
	case c > 127:
		checkFails(t, `"`+b, api.ErrQuoteUtf)
		checkFails(t, `"`+b+`"`, api.ErrQuoteUtf)
		checkFails(t, `"a`+b+`b"`, api.ErrQuoteUtf)
	default:
		checkFails(t, `"`+b, api.ErrQuoteShort)
		checkIs(t, `"`+b+`"`, b, "x")
		checkIs(t, `"a`+b+`b"`, "a"+b+"b", `"`)
	}
}

// checkEscaped reads the byte c behind a backslash.
func checkEscaped(t *testing.T, c int) {
	t.Helper()
	letters := map[int]string{34: "\"", 92: "\\", 47: "/", 'b': "\x08", 't': "\x09", 'n': "\x0a", 'f': "\x0c", 'r': "\x0d"}
	form := `\` + one(c)
	letter, is := letters[c]
	if !is {
		checkFails(t, `"`+form, api.ErrQuoteEscape)
		checkFails(t, `"`+form+`"`, api.ErrQuoteEscape)
		checkFails(t, `"a`+form+`b"`, api.ErrQuoteEscape)
		return
	}
	checkFails(t, `"`+form, api.ErrQuoteShort)
	checkIs(t, `"`+form+`"`, letter, "x")
	checkIs(t, `"a`+form+`b"`, "a"+letter+"b", `"`)
}

// Every number of four digits, small ones, great ones and both.
func TestReadEachNumber(t *testing.T) {
	for n := range 65536 {
		small := fmt.Sprintf("%04x", n)
		both := strings.ToUpper(small[:2]) + small[2:]
		letter, is := utf.Put(n)
		for _, form := range []string{small, strings.ToUpper(small), both, small[:1] + strings.ToUpper(small[1:3]) + small[3:]} {
			form = `\u` + form
			if !is {
				checkFails(t, `"`+form+`"`, api.ErrQuoteEscape)
				checkFails(t, `"`+form, api.ErrQuoteEscape)
				continue
			}
			checkIs(t, `"`+form+`"`, letter, "0")
			checkIs(t, `"a`+form+`0"`, "a"+letter+"0", "")
			checkFails(t, `"`+form, api.ErrQuoteShort)
		}
	}
}

// Numbers at the edges, one behind the other: just a first and a second one make a letter.
func TestReadTwoNumbers(t *testing.T) {
	numbers := []int{0, 65, 127, 128, 2047, 2048, 55295, 55296, 55297, 56318, 56319, 56320, 56321, 57342, 57343, 57344, 65533, 65535}
	for _, a := range numbers {
		for _, b := range numbers {
			s := fmt.Sprintf(`"\u%04x\u%04X"`, a, b)
			first, isFirst := utf.Put(a)
			second, isSecond := utf.Put(b)
			switch {
			case 55296 <= a && a <= 56319 && 56320 <= b && b <= 57343:
				letter, _ := utf.Put(65536 + 1024*(a-55296) + b - 56320)
				checkIs(t, s, letter, `\u0041`)
			case isFirst && isSecond:
				checkIs(t, s, first+second, `\u0041`)
			default:
				checkFails(t, s, api.ErrQuoteEscape)
			}
			checkRead(t, s[:len(s)-1])
		}
	}
	for s, want := range map[string]string{`"\ud800\udc00"`: "\xf0\x90\x80\x80", `"\udbff\udfff"`: "\xf4\x8f\xbf\xbf", `"\ud800\udfff"`: "\xf0\x90\x8f\xbf", `"\ud801\udc00"`: "\xf0\x90\x90\x80", `"\udbff\udc00"`: "\xf4\x8f\xb0\x80"} {
		checkIs(t, s, want, "")
	}
}

// Every letter of two numbers.
func TestReadEachLetterOfTwo(t *testing.T) {
	for r := 65536; r < 1114112; r++ {
		a, b := utf16.EncodeRune(rune(r))
		form := `"\u` + strconv.FormatInt(int64(a), 16) + `\u` + strconv.FormatInt(int64(b), 16) + `"`
		if got, n, e := Read(form); got != string(rune(r)) || n != 14 || e != api.OK {
			t.Errorf("P7.3: Read(%s) = %q, %d, %d", form, got, n, e)
		}
	}
}

func TestReadNoLetter(t *testing.T) {
	for _, bad := range severed() {
		for _, ahead := range []string{"", "a", `\n`, "\xc3\xa4", `\ud83d\ude00`} {
			for _, behind := range []string{"", `"`, "b\"", "\n\"", `\x"`, "\xa4\""} {
				// What is behind may make a letter of what was cut short.
				if s := `"` + ahead + bad + behind; behind != "\xa4\"" {
					checkFails(t, s, api.ErrQuoteUtf)
				}
				checkRead(t, `"`+ahead+bad+behind)
			}
		}
	}
}

func TestReadAll(t *testing.T) {
	for s := range allTexts([]string{`"`, `\`, "u", "0", "n", "\n", "\xc3", "\xa4"}, 5) {
		checkRead(t, s)
		checkRead(t, `"`+s)
	}
	for s := range allTexts([]string{`"`, `\u`, `\`, "u", "d8", "DC", "00", "0", "e000"}, 5) {
		checkRead(t, `"`+s+`"`)
	}
	for s := range anyTexts(2, 100000) {
		checkRead(t, s)
		checkRead(t, `"`+s)
		checkRead(t, `"`+s+`"`)
		checkJson(t, `"`+s+`"`)
	}
}

// checkJson holds what is read against what the library reads. Where Read tells an error the library may still read, so this asks nothing there.
func checkJson(t *testing.T, s string) {
	t.Helper()
	got, n, e := Read(s)
	if e != api.OK {
		return
	}
	var want string
	if err := stdjson.Unmarshal([]byte(s[:n]), &want); err != nil || got != want {
		t.Errorf("P7.2: Read(%q) = %q, the library reads %q, %v", s, got, want, err)
	}
}

// What was written is read as it was, whatever is behind it; of a beginning of it nothing is read.
func TestWrittenIsReadAsItWas(t *testing.T) {
	var texts []string
	for _, a := range edges() {
		texts = append(texts, string(rune(a)))
		for _, b := range edges() {
			texts = append(texts, string(rune(a))+string(rune(b)))
		}
	}
	for s := range anyValid(3, 5000) {
		texts = append(texts, s)
	}
	texts = append(texts, "", `\u0041`, `"\"`, `\\`, `\ud83d\ude00`, "a long text with \"quotes\" and\nlines")
	for _, s := range texts {
		checkBack(t, s)
	}
}

func checkBack(t *testing.T, s string) {
	t.Helper()
	form, is := Write(s)
	if want, may := written(s); form != want || is != may || !is {
		t.Errorf("P7.1: Write(%q) = %q, %v, want %q", s, form, is, want)
		return
	}
	for _, behind := range behinds() {
		checkIs(t, form, s, behind)
	}
	for end := range len(form) {
		got, n, e := Read(form[:end])
		if got != "" || n != 0 || e == api.OK {
			t.Errorf("P7.3: Read(%q), a beginning of %q = %q, %d, %d", form[:end], form, got, n, e)
		}
		checkRead(t, form[:end])
	}
	checkJson(t, form)
}

// A text is read as it, if each of its letters is written by digits.
func TestDigitsAreReadAsTheLetter(t *testing.T) {
	for s := range anyValid(4, 20000) {
		form, great := "", ""
		for _, n := range utf16.Encode([]rune(s)) {
			form += fmt.Sprintf(`\u%04x`, n)
			great += fmt.Sprintf(`\u%04X`, n)
		}
		checkIs(t, `"`+form+`"`, s, "x")
		checkIs(t, `"`+great+`"`, s, "")
		checkFails(t, `"x`+form, api.ErrQuoteShort)
	}
}

// What stands in the quotes of two texts, one behind the other, is what stands in those of both.
func TestTwoTexts(t *testing.T) {
	was := ""
	for s := range anyValid(5, 20000) {
		checkTwo(t, was, s)
		was = s
	}
	for _, a := range edges() {
		for _, b := range edges() {
			checkTwo(t, string(rune(a)), string(rune(b)))
		}
	}
	checkTwo(t, "", "")
	checkTwo(t, `\`, "n")
	checkTwo(t, `\`, `"`)
	// Of two texts that are not valid, one behind the other may be.
	if got, is := Write("\xc3" + "\xa4"); got != "\"\xc3\xa4\"" || !is {
		t.Errorf("P7.1: Write(c3, a4) = %q, %v", got, is)
	}
}

func checkTwo(t *testing.T, a, b string) {
	t.Helper()
	first, _ := Write(a)
	second, _ := Write(b)
	whole, is := Write(a + b)
	if len(first) < 2 || len(second) < 2 || !is || whole != first[:len(first)-1]+second[1:] {
		t.Errorf("P7.3: Write(%q, %q) = %q, %v, and of each %q, %q", a, b, whole, is, first, second)
		return
	}
	checkIs(t, whole, a+b, "")
	checkIs(t, first, a, second)
}

// Long texts: what took its time by the square of their length would not end here.
func TestLongTexts(t *testing.T) {
	const long = 1 << 20
	s := strings.Repeat("a\"\n\x01\xc3\xa4\xf0\x9f\x98\x80", long)
	form, is := Write(s)
	if want := strings.Repeat("a\\\"\\n\\u0001\xc3\xa4\xf0\x9f\x98\x80", long); form != `"`+want+`"` || !is {
		t.Errorf("P7.1: a long text: %d, %v", len(form), is)
	}
	if got, n, e := Read(form + s); got != s || n != len(form) || e != api.OK {
		t.Errorf("P7.3: a long text: %d, %d, %d", len(got), n, e)
	}
	if got, n, e := Read(form[:len(form)-1]); got != "" || n != 0 || e != api.ErrQuoteShort {
		t.Errorf("P7.2: a long text cut short: %d, %d, %d", len(got), n, e)
	}
	pairs := strings.Repeat(`\ud83d\ude00`, long)
	if got, n, e := Read(`"` + pairs + `"`); got != strings.Repeat("\xf0\x9f\x98\x80", long) || n != len(pairs)+2 || e != api.OK {
		t.Errorf("P7.2: many numbers: %d, %d, %d", len(got), n, e)
	}
	if got, is := Write(s + "\xff"); got != "" || is {
		t.Errorf("P7.1: a long text that is not valid: %d, %v", len(got), is)
	}
}

func FuzzQuote(f *testing.F) {
	f.Add(`"\u00e4"x`, "a\n")
	f.Add(`"\ud83d\ude00`, "\xed\xa0\x80")
	f.Fuzz(func(t *testing.T, a, b string) {
		for _, s := range []string{a, `"` + a, `"` + a + `"`, a + b, `"` + a + b + `"`} {
			checkRead(t, s)
			checkJson(t, s)
		}
		want, may := written(b)
		if got, is := Write(b); got != want || is != may {
			t.Errorf("P7.1: Write(%q) = %q, %v, want %q, %v", b, got, is, want, may)
		}
		if may {
			checkBack(t, b)
		}
		if utf8.ValidString(a) && may {
			checkTwo(t, a, b)
		}
	})
}
