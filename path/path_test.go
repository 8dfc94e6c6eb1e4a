package path

import (
	"math/rand"
	"regexp"
	"slices"
	"strings"
	"testing"

	"cracknel/api"
	"cracknel/host"
	"cracknel/sample"
)

var (
	rightForm   = regexp.MustCompile(`^/[!-:<-~]{0,63}$`)
	defaultForm = regexp.MustCompile(`(?s)^(/.*)/[^/]*$`)
	schemeForm  = regexp.MustCompile(`^http(s?)://`)
	partsForm   = regexp.MustCompile(`(?s)^https?://([^/?#]*)([^?#]*)([?#].*)?$`)
)

// rightOf is Right by the chapter's words, put as a form of the library.
func rightOf(s string) bool { return !strings.HasSuffix(s, "\n") && rightForm.MatchString(s) }

// defaultOf is Default by the chapter's words, put as a form of the library.
func defaultOf(s string) string {
	if parts := defaultForm.FindStringSubmatch(s); parts != nil {
		return parts[1]
	}
	return "/"
}

// matchOf is Match by the chapter's words, byte by byte.
func matchOf(request, cookie string) bool {
	if request == cookie {
		return true
	}
	if len(cookie) >= len(request) || request[:len(cookie)] != cookie {
		return false
	}
	return len(cookie) > 0 && cookie[len(cookie)-1] == 47 || request[len(cookie)] == 47
}

// parseOf is Parse by the chapter's words, put as forms of the library.
func parseOf(s string) (Url, api.Errno) {
	begin := schemeForm.FindStringSubmatch(s)
	if begin == nil {
		return Url{}, 120
	}
	parts := partsForm.FindStringSubmatch(s)
	name, is := host.Canon(parts[1])
	if !is {
		return Url{}, 121
	}
	if parts[2] == "" {
		parts[2] = "/"
	}
	if !rightOf(parts[2]) {
		return Url{}, 122
	}
	return Url{Secure: begin[1] == "s", Host: name, Path: parts[2]}, 0
}

// textOf is Text by the chapter's words, one by one.
func textOf(u Url) (string, bool) {
	name, is := host.Canon(u.Host)
	if !is || name != u.Host || !rightOf(u.Path) || strings.Contains(u.Path, "?") || strings.Contains(u.Path, "#") {
		return "", false
	}
	begin := map[bool]string{true: "https:", false: "http:"}[u.Secure]
	return strings.Join([]string{begin, "", u.Host + u.Path}, "/"), true
}

// checkPath holds Right and Default against the words of the chapter, and against one another.
func checkPath(t *testing.T, s string) {
	t.Helper()
	if Right(s) != rightOf(s) {
		t.Errorf("P12.1: Right(%q): %v", s, Right(s))
	}
	short := Default(s)
	if want := defaultOf(s); short != want {
		t.Errorf("P12.1: Default(%q): %q, not %q", s, short, want)
	}
	if Right(s) && (!Match(s, short) || !Right(short)) {
		t.Errorf("P12.4: the path %q does not match its Default %q", s, short)
	}
}

func checkMatch(t *testing.T, request, cookie string) {
	t.Helper()
	if got := Match(request, cookie); got != matchOf(request, cookie) {
		t.Errorf("P12.2: Match(%q, %q): %v", request, cookie, got)
	}
}

// checkParse holds Parse against the words of the chapter, and what it tells against Text.
func checkParse(t *testing.T, s string) {
	t.Helper()
	got, e := Parse(s)
	if want, no := parseOf(s); got != want || e != no {
		t.Errorf("P12.3: Parse(%q): %#v %d, not %#v %d", s, got, e, want, no)
	}
	if e != api.OK {
		return
	}
	text, is := Text(got)
	again, no := Parse(text)
	if !is || again != got || no != api.OK {
		t.Errorf("P12.4: Parse(%q), written and read again: %q %v, %#v %d", s, text, is, again, no)
	}
}

// checkText holds Text against the words of the chapter, and what it writes against Parse.
func checkText(t *testing.T, u Url) {
	t.Helper()
	got, is := Text(u)
	if want, right := textOf(u); got != want || is != right {
		t.Errorf("P12.3: Text(%#v): %q %v, not %q %v", u, got, is, want, right)
	}
	if again, e := Parse(got); is && (again != u || e != api.OK) {
		t.Errorf("P12.4: Parse of Text(%#v): %#v %d", u, again, e)
	}
}

// noPaths are texts that are not right.
var noPaths = []string{"", "a", "a/", "a/b", "a/b/c", " /", "/ ", "/a b", "/;", "/a;b/c", "/\x7f", "/\x80", "/\xff", "/\xc3\xa4/x", "/\x00", "/a\n", "\n/a", "\\a", "?/", "#/a", ";/a/b", "http://a/b", "\xff/a/b", "./a/b", "/" + strings.Repeat("a", 64), strings.Repeat("/", 65), strings.Repeat("/a", 33), strings.Repeat("a", 64), "a" + strings.Repeat("/", 63), "/" + strings.Repeat("a/", 100) + "x"}

func TestRightExamples(t *testing.T) {
	for _, s := range []string{"/", "//", "/a", "/a/", "/a/b", "/A/Z", "/a?", "/a#b", "/?", "/#", "/!", "/~", "/:", "/<", "/=%20&", "/..", "/./a", "/\\", "/\"'", "/" + strings.Repeat("a", 62), "/" + strings.Repeat("a", 63), strings.Repeat("/", 63), strings.Repeat("/", 64), strings.Repeat("/a", 32)} {
		if !Right(s) {
			t.Errorf("P12.1: Right(%q): false", s)
		}
		checkPath(t, s)
	}
	for _, s := range noPaths {
		if Right(s) {
			t.Errorf("P12.1: Right(%q): true", s)
		}
		checkPath(t, s)
	}
}

// TestRightBytes puts every byte first, behind the first one, in the middle and at the end.
func TestRightBytes(t *testing.T) {
	for c, b := range sample.Bytes() {
		plain := c >= 33 && c <= 126 && c != 59
		for form, want := range map[string]bool{
			"@": c == 47, "@a": c == 47, "@/": c == 47, "@/a": c == 47, "@aaa": c == 47, "/@": plain, "/@a": plain, "/@/": plain, "/a@b": plain, "/a/@/b": plain, "/a/b@": plain, "/ab/@": plain, "/@@": plain,
			"/" + strings.Repeat("a", 62) + "@": plain, "/@" + strings.Repeat("a", 62): plain, "/@" + strings.Repeat("a", 63): false, "/" + strings.Repeat("a", 63) + "@": false, "/" + strings.Repeat("a", 30) + "@" + strings.Repeat("a", 30): plain,
		} {
			s := strings.ReplaceAll(form, "@", b)
			if Right(s) != want {
				t.Errorf("P12.1: Right(%q): %v", s, !want)
			}
			checkPath(t, s)
		}
		for _, d := range []string{"\x00", " ", "!", "/", ":", ";", "<", "~", "\x7f", "\x80", "\xff"} {
			checkPath(t, "/"+b+d)
			checkPath(t, d+b)
			checkPath(t, "/a"+b+"/"+d+"c")
		}
	}
}

func TestRightLengths(t *testing.T) {
	if api.MaxPath != 64 {
		t.Fatalf("P12.1: MaxPath is %d", api.MaxPath)
	}
	for long := range 70 {
		for _, piece := range []string{"a", "/", "~", "?", ";", " ", "\xff"} {
			s := "/" + strings.Repeat(piece, long)
			if want := long == 0 || long <= 63 && strings.Contains("a/~?", piece); Right(s) != want {
				t.Errorf("P12.1: Right of / and %d times %q: %v", long, piece, !want)
			}
			checkPath(t, s)
			checkPath(t, s[1:])
			checkPath(t, s+"/x")
		}
	}
	for _, piece := range []string{"a", "/", "a/", "/a", ";"} {
		s := "/" + strings.Repeat(piece, 100000)
		if Right(s) {
			t.Errorf("P12.1: Right of / and 100000 times %q", piece)
		}
		checkPath(t, s)
	}
}

func TestDefaultExamples(t *testing.T) {
	for s, want := range map[string]string{
		"/a/b": "/a", "/a": "/", "x": "/", "": "/", "/": "/", "//": "/", "///": "//", "////": "///", "/a/": "/a", "/a//": "/a/", "/a//b": "/a/", "/a///b": "/a//", "//a": "/", "//a/b": "//a", "///a": "//", "//a/": "//a", "/a/b/": "/a/b", "/a/b/c": "/a/b", "/ab/cd/ef": "/ab/cd",
		"a/": "/", "a/b": "/", "a/b/c": "/", "a//": "/", "ab/cd/": "/", " /a/b": "/", "\\a/b/c": "/", ";/a/b": "/", "abc": "/", "\x00": "/", "\xff/\xff/": "/", "?/a/b": "/", "http://a/b": "/",
		"/ a/b": "/ a", "/a;/b": "/a;", "/a;b/c;d": "/a;b", "/\x00/\xff": "/\x00", "/\xc3\xa4/\xc3": "/\xc3\xa4", "/a/b\n": "/a", "/a\n/b": "/a\n", "/\n": "/", "/a?b/c": "/a?b", "/a?/": "/a?", "/a#/b/c": "/a#/b", "/a\\b": "/",
		"/" + strings.Repeat("a", 63): "/", "/" + strings.Repeat("a", 64): "/", "/" + strings.Repeat("a", 62) + "/": "/" + strings.Repeat("a", 62), "/" + strings.Repeat("a", 63) + "/": "/" + strings.Repeat("a", 63), "/" + strings.Repeat("a", 64) + "/": "/" + strings.Repeat("a", 64), "/" + strings.Repeat("a", 300) + "/b": "/" + strings.Repeat("a", 300), "/a/" + strings.Repeat("b", 300): "/a", strings.Repeat("/", 300): strings.Repeat("/", 299), strings.Repeat("/a", 300): strings.Repeat("/a", 299), strings.Repeat("a/", 300): "/",
	} {
		if got := Default(s); got != want {
			t.Errorf("P12.1: Default(%q): %q, not %q", s, got, want)
		}
		checkPath(t, s)
	}
	for _, s := range noPaths {
		checkPath(t, s)
	}
}

// TestDefaultBytes puts every byte where a / would be.
func TestDefaultBytes(t *testing.T) {
	for c, b := range sample.Bytes() {
		slash := c == 47
		for form, want := range map[string][2]string{
			"@": {"/", "/"}, "@a/b": {"/a", "/"}, "@/b": {"/", "/"}, "@a": {"/", "/"}, "/a@b": {"/a", "/"}, "/a@": {"/a", "/"}, "/@": {"/", "/"}, "/@b": {"/", "/"}, "/@/": {"//", "/" + b}, "/a@b/c": {"/a/b", "/a" + b + "b"}, "/a/b@c": {"/a/b", "/a"}, "a@b": {"/", "/"}, "a@b/c": {"/", "/"},
		} {
			s := strings.ReplaceAll(form, "@", b)
			expected := want[1]
			if slash {
				expected = want[0]
			}
			if got := Default(s); got != expected {
				t.Errorf("P12.1: Default(%q): %q", s, got)
			}
			checkPath(t, s)
		}
	}
}

// TestPathsShort takes all short texts.
func TestPathsShort(t *testing.T) {
	for _, s := range sample.Texts(7, "/", "a", ";") {
		checkPath(t, s)
	}
	for _, s := range sample.Texts(4, "/", "a", "?", "#", " ", "\n", "\xff", "~", "\x7f") {
		checkPath(t, s)
	}
}

func TestMatchExamples(t *testing.T) {
	for _, x := range []struct {
		request, cookie string
		want            bool
	}{
		{"/a/b", "/a", true}, {"/ab", "/a", false}, {"/a/b", "/a/", true}, {"/a", "/a", true}, {"/a/", "/a", true}, {"/a/", "/a/", true}, {"/a", "/a/", false}, {"/a", "/", true}, {"/", "/", true}, {"/", "/a", false}, {"//", "/", true}, {"/", "//", false}, {"/ab/c", "/ab/", true}, {"/ab/c", "/a", false}, {"/ab/c", "/a/", false}, {"/ab/", "/a", false}, {"/a/ab", "/a/a", false},
		{"/a//b", "/a", true}, {"/a//b", "/a/", true}, {"/a//b", "/a//", true}, {"/a//b", "/a///", false}, {"/a/b/c", "/a/b", true}, {"/a/b/c", "/a", true}, {"/a/b/c", "/b", false}, {"/a/b/c", "/c", false}, {"/a/b/c", "b", false}, {"/a/b/c", "/a/b/c", true}, {"/a/b/c", "/a/b/c/", false}, {"/a/b/c", "/a/b/c/d", false},
		{"", "", true}, {"", "/", false}, {"", "a", false}, {"/", "", true}, {"/a", "", true}, {"//", "", true}, {"a", "", false}, {"a/", "", false}, {" /", "", false}, {"a", "a", true}, {"a/", "a", true}, {"a/b", "a", true}, {"ab", "a", false}, {"a/b", "a/", true}, {"a/b", "b", false}, {"a", "/", false}, {"a/b", "/", false}, {"a/b", "/b", false},
		{"/A", "/a", false}, {"/a", "/A", false}, {"/A/b", "/a", false}, {"/A/b", "/A", true}, {"/a/B", "/a/b", false}, {"/%61/b", "/a", false}, {"/a/../b", "/a", true}, {"/a/../b", "/b", false}, {"/./a", "/a", false}, {"/a?b", "/a", false}, {"/a?/b", "/a?", true}, {"/a?/b", "/a", false}, {"/a#b", "/a", false}, {"/a;b", "/a", false}, {"/a;/", "/a;", true}, {"/a\\b", "/a", false}, {"/a\\b", "/a\\", false},
		{"\xff/a", "\xff", true}, {"\xffa", "\xff", false}, {"\xff", "\xff", true}, {"\xff", "\xfe", false}, {"\xc3\xa4/", "\xc3", false}, {"\x00/", "\x00", true}, {"\x00", "\x00\x00", false}, {"/ /a", "/ ", true}, {"/\n/a", "/\n", true}, {"/\na", "/\n", false}, {"/\na", "/", true},
	} {
		if got := Match(x.request, x.cookie); got != x.want {
			t.Errorf("P12.2: Match(%q, %q): %v", x.request, x.cookie, got)
		}
		checkMatch(t, x.request, x.cookie)
	}
}

// TestMatchSelf gives texts of any kind with themselves, all their beginnings and ends, and with one byte that differs.
func TestMatchSelf(t *testing.T) {
	rows := append(slices.Clone(noPaths), "/", "//", "/a", "/a/", "/a/b", "/ab/cd/ef", "/a//b", "a/b/", "/aB/c", "/a?/b#/c", "/"+strings.Repeat("ab/", 60), strings.Repeat("/", 100))
	for _, s := range rows {
		if !Match(s, s) {
			t.Errorf("P12.2: Match(%q, itself)", s)
		}
		for i := range len(s) {
			begin := s[:i]
			if want := s[i] == 47 || strings.HasSuffix(begin, "/"); Match(s, begin) != want {
				t.Errorf("P12.2: Match(%q, %q): %v", s, begin, !want)
			}
			if Match(begin, s) {
				t.Errorf("P12.2: Match(%q, %q)", begin, s)
			}
			checkMatch(t, s, s[i:])
			checkMatch(t, s[i:], s)
			for _, turn := range []byte{1, 2, 32, 128} {
				other := begin + string([]byte{s[i] ^ turn}) + s[i+1:]
				if Match(s, other) || Match(s+"/x", other) || Match(s+"/", other+"/") {
					t.Errorf("P12.2: Match(%q, %q)", s, other)
				}
			}
		}
		for _, more := range []string{"/", "a", "/a", "a/", " ", "?", "//"} {
			checkMatch(t, s+more, s)
			checkMatch(t, s, s+more)
			checkMatch(t, more+s, s)
			checkMatch(t, s, more+s)
		}
	}
}

// TestMatchBytes puts every byte behind the cookie, and at its end: just the / parts a path.
func TestMatchBytes(t *testing.T) {
	for c, b := range sample.Bytes() {
		for _, x := range [][2]string{{"/a" + b, "/a"}, {"/a" + b + "c", "/a"}, {"a" + b + "c", "a"}, {b, ""}, {b + "a", ""}, {"/a/b" + b + "/", "/a/b"}, {"/a" + b + "b", "/a" + b}, {b + "b", b}, {"/x/" + b + "bc/d", "/x/" + b}} {
			if got := Match(x[0], x[1]); got != (c == 47) {
				t.Errorf("P12.2: Match(%q, %q): %v", x[0], x[1], got)
			}
			checkMatch(t, x[0], x[1])
		}
		if !Match("/a/"+b, "/a") || !Match("/a/"+b, "/a/") || !Match(b+"/", b) || !Match(b, b) {
			t.Errorf("P12.2: the byte %d below", c)
		}
		for _, d := range sample.Bytes() {
			if Match(b, d) != (b == d) || Match("/a"+b, "/a"+d) != (b == d) || Match(b+"/", d+"/") != (b == d) {
				t.Errorf("P12.2: Match(%q, %q)", b, d)
			}
		}
	}
}

// TestMatchThrees takes short texts by threes: what the first one matches through the second one.
func TestMatchThrees(t *testing.T) {
	rows := append(sample.Texts(4, "/", "a", "b"), "/A", "/a?", "/a?/", "/a#/b", "/a/b/a/b", "/ab/ab/", ";", "/;/a", "\xff/", "\xff/\xff")
	for _, first := range rows {
		checkMatch(t, first, Default(first))
		for _, second := range rows {
			checkMatch(t, first, second)
			if !Match(first, second) {
				continue
			}
			for _, third := range rows {
				if Match(second, third) && !Match(first, third) {
					t.Errorf("P12.4: %q matches %q, which matches %q, which the first one does not", first, second, third)
				}
			}
		}
	}
}

func TestParseExamples(t *testing.T) {
	long := strings.Repeat("a", 63)
	for s, want := range map[string]Url{
		"https://A.b?x": {true, "a.b", "/"}, "https://a": {true, "a", "/"}, "http://a": {false, "a", "/"}, "http://a/": {false, "a", "/"}, "https://a/": {true, "a", "/"}, "http://a/b": {false, "a", "/b"}, "https://x.y/a/b/": {true, "x.y", "/a/b/"}, "http://a//": {false, "a", "//"}, "http://a//b": {false, "a", "//b"}, "http://a/http://b": {false, "a", "/http://b"},
		"http://EXAMPLE.Com/A/b": {false, "example.com", "/A/b"}, "https://A-Z.0/": {true, "a-z.0", "/"}, "http://1.2.3.4": {false, "1.2.3.4", "/"}, "https://255.255.255.255/a": {true, "255.255.255.255", "/a"}, "http://1.2.3.256/": {false, "1.2.3.256", "/"}, "http://01.2.3.4/": {false, "01.2.3.4", "/"}, "http://0": {false, "0", "/"},
		"http://a?": {false, "a", "/"}, "http://a#": {false, "a", "/"}, "http://a?b": {false, "a", "/"}, "http://a#b": {false, "a", "/"}, "http://a?/b": {false, "a", "/"}, "http://a#/b": {false, "a", "/"}, "http://a??": {false, "a", "/"}, "http://a?#": {false, "a", "/"}, "http://a#?": {false, "a", "/"}, "http://a##": {false, "a", "/"}, "http://a?b/c#d": {false, "a", "/"}, "http://a#/b?/c": {false, "a", "/"},
		"http://a/?": {false, "a", "/"}, "http://a/#": {false, "a", "/"}, "http://a/b?": {false, "a", "/b"}, "http://a/b#": {false, "a", "/b"}, "http://a/b?c": {false, "a", "/b"}, "http://a/b#c": {false, "a", "/b"}, "http://a/b/c#d?e": {false, "a", "/b/c"}, "http://a/b/c?d#e": {false, "a", "/b/c"}, "http://a/b/?/c/#/d": {false, "a", "/b/"}, "http://a/b/#/c/?/d": {false, "a", "/b/"}, "http://a/b?;": {false, "a", "/b"}, "http://a/b# ": {false, "a", "/b"}, "http://a?\xff\x00;\n": {false, "a", "/"}, "http://a#\xff\x00;\n": {false, "a", "/"}, "https://a/b?\xc3\xa4 ;#": {true, "a", "/b"},
		"http://a/b:80": {false, "a", "/b:80"}, "http://a/@b": {false, "a", "/@b"}, "http://a/%3F": {false, "a", "/%3F"}, "http://a/..": {false, "a", "/.."}, "http://a/b=c&d": {false, "a", "/b=c&d"}, "http://http": {false, "http", "/"}, "https://https/http": {true, "https", "/http"},
		"http://" + long: {false, long, "/"}, "http://" + strings.Repeat("a.", 31) + "ab": {false, strings.Repeat("a.", 31) + "ab", "/"}, "https://" + strings.Repeat("A.", 31) + "AB/": {true, strings.Repeat("a.", 31) + "ab", "/"}, "http://a/" + long: {false, "a", "/" + long}, "http://a/" + long + "?" + long: {false, "a", "/" + long}, "http://a/" + long + "#/": {false, "a", "/" + long}, "http://a/" + long[1:]: {false, "a", "/" + long[1:]}, "http://a" + strings.Repeat("/", 64): {false, "a", strings.Repeat("/", 64)},
		"http://a?" + strings.Repeat("x/", 100000): {false, "a", "/"}, "http://a/b#" + strings.Repeat("?#", 100000): {false, "a", "/b"},
	} {
		if got, e := Parse(s); got != want || e != api.OK {
			t.Errorf("P12.3: Parse(%.200q): %#v %d, not %#v", s, got, e, want)
		}
		checkParse(t, s)
	}
}

func TestParseNone(t *testing.T) {
	if api.ErrPathScheme != 120 || api.ErrPathHost != 121 || api.ErrPathForm != 122 {
		t.Fatal("P12.3: the numbers of the errors")
	}
	long := strings.Repeat("a", 64)
	for no, rows := range map[api.Errno][]string{
		api.ErrPathScheme: {"", "a", "/", "/a", "//a/b", "a.b/c", "HTTP://a", "Http://a", "httP://a", "HTTPS://a/", "httpS://a/", "hTTps://a", "https:/a", "http:/a/b", "http:a", "http//a", "https//a", "https:", "https:/", "http:/", "http:", "http", "https", "htt", "h", ":", "://", "://a", " http://a", "\nhttp://a", "http ://a", "http: //a", "http:/ /a", "httpss://a", "httpp://a", "ttp://a", "xhttp://a", "shttp://a", "ftp://a", "ws://a", "file:///a", "http:\\\\a", "http:/\\a", "http;//a", "http:::a", "\xffhttp://a", "\x00", "?http://a", "#", "?", "HTTP://a_b/;", "http:/;", "https;//_/;", "http\x00://a"},
		api.ErrPathHost: {"http://", "https://", "http:///", "http:///a", "https:///a", "http:////a", "https:////", "http://?", "https://#", "http://?a", "http://#/a", "http:// ", "http:// a", "http://a ", "http://a b/", "http://a /", "http://\ta", "http://a\n", "http://a\n/b", "http://a_b", "http://a_b/;", "http://a:80", "http://a:80/", "http://a:/", "https://a.b:443/c", "http://1.2.3.4:80", "http://[::1]/", "http://a@b/", "http://a:b@c/", "http://.", "http://.a", "http://a.", "http://a./", "http://a..b/", "http://..", "http://-a", "http://a-/", "http://-", "http://a.-b/", "http://a-.b", "http://*.a/", "http://a;b", "http://;", "http://;/", "http://a;/", "http://a%2eb/", "http://a\\b", "http://\xc3\xa4.b", "http://\xff", "http://\x00/", "http://a\x00/",
			"http://a=b", "http://a&b/?c", "http://http://a", "https://http://a", "http://https://a/b", "http://" + long, "https://" + long + "/", "http://" + long + "?x", "http://" + strings.Repeat("a.", 32) + "a", "http://" + strings.Repeat("a.", 31) + "abc", "http://" + long[1:] + ".a", "https://" + strings.Repeat("ab.", 100000), "http:///;", "http://_/;", "http://.#;", "http:///" + long, "http:// / ", "https://-?/ ", "http://_/" + long},
		api.ErrPathForm: {"http://a/;", "http://a/b;", "http://a/b;c", "http://a/ ", "http://a/ b", "http://a/b c/d", "http://a/b\n", "http://a/\x00", "http://a/\x7f", "http://a/b\x80", "http://a/\xff", "https://a/\xc3\xa4/", "https://a/;?", "http://a/ #", "http://a/b;?c#d", "http://a/b #c?d", "http://a//;", "https://A.B/\t", "http://1.2.3.4/;", "http://a/" + long, "https://a/" + long, "http://a/" + long + "?", "http://a/" + long + "#x", "http://a" + strings.Repeat("/", 65), "http://a/" + strings.Repeat("b/", 100000), "http://a/" + long + ";", "http://a/;" + long},
	} {
		for _, s := range rows {
			if got, e := Parse(s); got != (Url{}) || e != no {
				t.Errorf("P12.3: Parse(%.200q): %#v %d, not %d", s, got, e, no)
			}
			checkParse(t, s)
		}
	}
}

// TestParseScheme cuts both beginnings behind each byte, and writes each letter of them great, twice, not at all, or as another one.
func TestParseScheme(t *testing.T) {
	for begin, secure := range map[string]bool{"http://": false, "https://": true} {
		for i := range len(begin) {
			rows := []string{begin[:i], begin[:i] + "a", begin[:i] + "/a", begin[:i] + begin[i+1:], begin[:i] + begin[i+1:] + "a", begin[:i] + strings.ToUpper(begin[i:])}
			for _, b := range sample.Bytes() {
				if b != begin[i:i+1] {
					rows = append(rows, begin[:i]+b+begin[i+1:]+"a/b")
				}
				rows = append(rows, begin[:i]+b+begin[i:]+"a/b")
			}
			for _, s := range rows {
				checkParse(t, s)
				if strings.HasPrefix(s, "http://") || strings.HasPrefix(s, "https://") {
					continue
				}
				if got, e := Parse(s); got != (Url{}) || e != api.ErrPathScheme {
					t.Errorf("P12.3: Parse(%q): %#v %d", s, got, e)
				}
			}
		}
		for i := range 8 {
			s := begin + "A.b/" + strings.Repeat("C/", i)
			if got, e := Parse(s); got != (Url{secure, "a.b", "/" + strings.Repeat("C/", i)}) || e != api.OK {
				t.Errorf("P12.3: Parse(%q): %#v %d", s, got, e)
			}
		}
		for _, s := range []string{begin + "/a", begin + "/", begin + "//"} {
			if got, e := Parse(s); got != (Url{}) || e != api.ErrPathHost {
				t.Errorf("P12.3: Parse(%q): %#v %d", s, got, e)
			}
		}
	}
}

// TestParseBytes puts every byte at each place of an address.
func TestParseBytes(t *testing.T) {
	for c, b := range sample.Bytes() {
		letter := c >= 'a' && c <= 'z' || c >= 'A' && c <= 'Z' || c >= '0' && c <= '9'
		plain := c >= 33 && c <= 126 && c != 59
		ends := c == '/' || c == '?' || c == '#'
		for form, want := range map[string]api.Errno{
			"http://@": told(letter, 121), "http://@b/c": told(letter, 121), "http://a@b": told(letter || ends || c == '-' || c == '.', 121), "https://a@": told(letter || ends, 121), "https://a@/c": told(letter || ends, 121), "http://a@?;": told(letter || ends, 121), "http://a.@": told(letter, 121), "https://a.b@c.d/e": told(letter || ends || c == '-' || c == '.', 121), "https://A@B.c#": told(letter || ends || c == '-' || c == '.', 121),
			"http://a/@": told(plain, 122), "http://a/@b": told(plain, 122), "http://a/b@": told(plain, 122), "https://a/b@c": told(plain, 122), "https://a/b/@/c": told(plain, 122), "http://a/b@?c": told(plain, 122), "http://a/b@#c": told(plain, 122), "http://a/" + strings.Repeat("b", 62) + "@": told(plain, 122), "http://a/" + strings.Repeat("b", 63) + "@": told(c == '?' || c == '#', 122),
			"http://a?@": 0, "http://a#@": 0, "http://a/?@": 0, "http://a/#@": 0, "https://a/b?@c": 0, "https://a/b#c@": 0, "https://a/b?c#@": 0, "https://a/b#c?@/d": 0, "http://a?@/;": 0,
		} {
			s := strings.ReplaceAll(form, "@", b)
			if _, e := Parse(s); e != want {
				t.Errorf("P12.3: Parse(%q): %d, not %d", s, e, want)
			}
			checkParse(t, s)
		}
	}
}

// told is the error that is told where it is not so.
func told(so bool, no api.Errno) api.Errno {
	if so {
		return api.OK
	}
	return no
}

func TestParseLengths(t *testing.T) {
	for long := range 70 {
		part := strings.Repeat("a", long)
		_, e := Parse("http://" + part)
		if e != told(long >= 1 && long <= 63, 121) {
			t.Errorf("P12.3: Parse of a host of %d bytes: %d", long, e)
		}
		for _, behind := range []string{"", "?", "#", "?" + part, "#" + part + "/"} {
			if u, e := Parse("https://a/" + part + behind); e != told(long <= 63, 122) || e == 0 && u != (Url{true, "a", "/" + part}) {
				t.Errorf("P12.3: Parse of a path of %d bytes: %#v %d", long+1, u, e)
			}
		}
		for _, s := range []string{"http://b." + part, "http://" + part + "/" + part, "https://" + part + "?" + part, "https://" + strings.Repeat("a.", long) + "b/" + part, "http://" + strings.Repeat("A.", long) + "bc#", "http://a" + strings.Repeat("/", long), "http://a/" + strings.Repeat("b/", long) + "?", "http://a" + strings.Repeat("/b", long) + "#"} {
			checkParse(t, s)
		}
	}
}

// TestParseShort takes all short texts of the parts of account.
func TestParseShort(t *testing.T) {
	for _, s := range sample.Texts(6, "/", "a", "?", "#", ";") {
		checkParse(t, "http://"+s)
		if len(s) < 6 {
			checkParse(t, "https://B"+s)
			checkParse(t, "https://b/"+s)
		}
	}
	for _, s := range sample.Texts(4, "http", "s", ":", "/", "//", "a", "H", "") {
		checkParse(t, s)
	}
	for _, s := range sample.Texts(4, "http://", "https://", "a", ".", "/", "?", " ", "\n") {
		checkParse(t, s)
	}
}

// TestParseBehind puts many texts behind an address: they change nothing.
func TestParseBehind(t *testing.T) {
	for _, begin := range []string{"http://a", "https://a.B", "http://a/", "https://1.2.3.4/b/c", "http://a/b//", "http://a/" + strings.Repeat("b", 63), "http://a/;", "http://_/a", "https://", "http:/a", ""} {
		want, no := Parse(begin)
		for _, behind := range append(sample.Texts(3, "/", "a", "?", "#", ";", " ", "\n", "\xff"), noPaths...) {
			for _, end := range []string{"?", "#"} {
				if got, e := Parse(begin + end + behind); got != want || e != no {
					t.Errorf("P12.3: Parse(%q): %#v %d, not %#v %d", begin+end+behind, got, e, want, no)
				}
			}
		}
	}
}

func TestTextExamples(t *testing.T) {
	for want, u := range map[string]Url{
		"https://a/b": {true, "a", "/b"}, "http://a/": {false, "a", "/"}, "https://a.b/": {true, "a.b", "/"}, "http://1.2.3.4/a/b/": {false, "1.2.3.4", "/a/b/"}, "http://a//": {false, "a", "//"}, "http://a/B": {false, "a", "/B"}, "https://x-1.y/http://a": {true, "x-1.y", "/http://a"}, "http://a/:80": {false, "a", "/:80"}, "http://0/%3F%23": {false, "0", "/%3F%23"},
		"http://" + strings.Repeat("a", 63) + "/" + strings.Repeat("b", 63): {false, strings.Repeat("a", 63), "/" + strings.Repeat("b", 63)}, "https://" + strings.Repeat("a.", 31) + "ab/" + strings.Repeat("b", 62): {true, strings.Repeat("a.", 31) + "ab", "/" + strings.Repeat("b", 62)},
	} {
		if got, is := Text(u); got != want || !is {
			t.Errorf("P12.3: Text(%#v): %q %v, not %q", u, got, is, want)
		}
		checkText(t, u)
	}
	for _, secure := range []bool{false, true} {
		for _, u := range []Url{
			{}, {Host: "a"}, {Path: "/"}, {Host: "A", Path: "/"}, {Host: "a.B", Path: "/"}, {Host: "a", Path: "b"}, {Host: "a", Path: "b/c"}, {Host: "a", Path: "?"}, {Host: "a", Path: "#"}, {Host: "a", Path: "?b"}, {Host: "a", Path: "/?"}, {Host: "a", Path: "/#"}, {Host: "a", Path: "/b?"}, {Host: "a", Path: "/b#c"}, {Host: "a", Path: "/b?c#d"}, {Host: "a", Path: "/b c"}, {Host: "a", Path: "/;"}, {Host: "a", Path: "/b\n"}, {Host: "a", Path: "/\xff"}, {Host: "a", Path: " /"}, {Host: "a", Path: ".b/"}, {Host: "a", Path: "bc"},
			{Host: "a/", Path: "/"}, {Host: "a/", Path: ""}, {Host: "a/b", Path: "/c"}, {Host: "a/b", Path: ""}, {Host: "a/b", Path: "c"}, {Host: "a?", Path: "/"}, {Host: "a#", Path: "/"}, {Host: "a?", Path: ""}, {Host: "a#b", Path: "/c"}, {Host: "a?/", Path: "/"}, {Host: "/a", Path: "/"}, {Host: "/", Path: "/"}, {Host: "", Path: "a/b"}, {Host: "", Path: "a"}, {Host: "", Path: "//"}, {Host: "", Path: "/a"},
			{Host: " a", Path: "/"}, {Host: "a ", Path: "/"}, {Host: "a_b", Path: "/"}, {Host: "a:80", Path: "/"}, {Host: "a..b", Path: "/"}, {Host: ".a", Path: "/"}, {Host: "a.", Path: "/"}, {Host: "-a", Path: "/"}, {Host: "a-", Path: "/"}, {Host: ".", Path: "/"}, {Host: "\xff", Path: "/"}, {Host: "a\n", Path: "/"}, {Host: "http://a", Path: "/"}, {Host: "A", Path: ";"}, {Host: "A", Path: "/?"},
			{Host: strings.Repeat("a", 64), Path: "/"}, {Host: strings.Repeat("a.", 32) + "a", Path: "/"}, {Host: "a", Path: "/" + strings.Repeat("b", 64)}, {Host: "a", Path: strings.Repeat("/", 65)}, {Host: strings.Repeat("a.", 100000), Path: "/"}, {Host: "a", Path: strings.Repeat("/b", 100000)}, {Host: "a", Path: "/" + strings.Repeat("b", 63) + "?"}, {Host: "a", Path: "/" + strings.Repeat("b", 63) + "#"},
		} {
			u.Secure = secure
			if got, is := Text(u); got != "" || is {
				t.Errorf("P12.3: Text(%v %.200q %.200q): %.200q %v", u.Secure, u.Host, u.Path, got, is)
			}
			checkText(t, u)
		}
	}
}

// TestTextBytes puts every byte at each place of an address's host and path.
func TestTextBytes(t *testing.T) {
	for c, b := range sample.Bytes() {
		small := c >= 'a' && c <= 'z' || c >= '0' && c <= '9'
		may := c >= 33 && c <= 126 && c != 59 && c != '?' && c != '#'
		for form, want := range map[string]bool{"@": small, "@b": small, "a@": small, "a@b": small || c == '-' || c == '.', "a.@": small, "@.b": small, "a.b@c.d": small || c == '-' || c == '.'} {
			u := Url{c%2 == 0, strings.ReplaceAll(form, "@", b), "/x"}
			if _, is := Text(u); is != want {
				t.Errorf("P12.3: Text(%#v): %v", u, is)
			}
			checkText(t, u)
		}
		for form, want := range map[string]bool{"@": c == 47, "@a": c == 47, "@/": c == 47, "/@": may, "/@a": may, "/a@b": may, "/a/b@": may, "/a@/b": may, "/" + strings.Repeat("a", 62) + "@": may, "/" + strings.Repeat("a", 63) + "@": false} {
			u := Url{c%2 == 1, "a.b", strings.ReplaceAll(form, "@", b)}
			if _, is := Text(u); is != want {
				t.Errorf("P12.3: Text(%#v): %v", u, is)
			}
			checkText(t, u)
		}
	}
}

// TestTextParts parts short texts into hosts and paths in every way: just one of them is an address.
func TestTextParts(t *testing.T) {
	for _, s := range sample.Texts(6, "/", "a", "?", "A", ".") {
		written := 0
		for i := range len(s) + 1 {
			u := Url{len(s)%2 == 0, s[:i], s[i:]}
			checkText(t, u)
			if _, is := Text(u); is {
				written++
			}
		}
		if written > 1 {
			t.Errorf("P12.4: %d addresses are written with %q", written, s)
		}
	}
}

// TestParsed writes what was read: the same text, but for great letters of the host, for what is behind, and for a / alone.
func TestParsed(t *testing.T) {
	for _, s := range sample.Texts(5, "/", "a", "?", "#", "B", "-") {
		for _, begin := range []string{"http://", "https://"} {
			u, e := Parse(begin + s)
			text, is := Text(u)
			if is != (e == api.OK) {
				t.Errorf("P12.4: Text of Parse(%q): %v", begin+s, is)
			}
			cut, _, _ := strings.Cut(s, "?")
			cut, _, _ = strings.Cut(cut, "#")
			name, way, _ := strings.Cut(cut, "/")
			if want := begin + strings.ToLower(name) + "/" + way; is && text != want {
				t.Errorf("P12.4: Text of Parse(%q): %q, not %q", begin+s, text, want)
			}
		}
	}
}

func TestAny(t *testing.T) {
	r := rand.New(rand.NewSource(12))
	wide := append(sample.Bytes(), "/", "/", "/", "a", "a", "?", "#", ".", "-", ";")
	narrow := []string{"/", "/", "a", "b", "cd", "A", "?", "#", ".", "-", ";", " ", "://", "http", "s", "1.2.3.4", "\n", "\xff"}
	good := []string{"/", "a", "b.c", "D", "e-f", "/g", "0"}
	for range 30000 {
		for _, s := range []string{sample.Some(r.Intn, 20, wide...), sample.Some(r.Intn, 8, narrow...), "/" + sample.Some(r.Intn, 70, "a", "b", "/")} {
			checkPath(t, s)
			checkParse(t, s)
			checkParse(t, "http://"+s)
			checkParse(t, "https://a"+s)
			checkParse(t, "http://b/"+s)
			checkMatch(t, s, s[:r.Intn(len(s)+1)])
			checkMatch(t, s, Default(s))
			checkMatch(t, s+sample.Some(r.Intn, 2, narrow...), s)
			checkText(t, Url{r.Intn(2) == 0, "a", s})
			checkText(t, Url{r.Intn(2) == 0, s, "/"})
		}
		checkParse(t, "https://"+sample.Some(r.Intn, 10, good...))
		checkText(t, Url{r.Intn(2) == 0, sample.Some(r.Intn, 3, good...), "/" + sample.Some(r.Intn, 4, good...)})
		checkText(t, Url{r.Intn(2) == 0, sample.Some(r.Intn, 3, narrow...), sample.Some(r.Intn, 3, narrow...)})
	}
}

func FuzzPath(f *testing.F) {
	for _, s := range []string{"", "/", "/a/b", "http://a/b?c", "https://A.b#/", "http://1.2.3.4//", "a/b"} {
		f.Add(s, "/")
		f.Add(s, "a")
	}
	f.Fuzz(func(t *testing.T, s, other string) {
		checkPath(t, s)
		checkParse(t, s)
		checkParse(t, "http://"+s)
		checkParse(t, "https://"+s+"/"+other)
		checkMatch(t, s, other)
		checkMatch(t, s+other, s)
		checkMatch(t, s+"/"+other, s)
		for _, secure := range []bool{false, true} {
			checkText(t, Url{secure, s, other})
			checkText(t, Url{secure, "a", s})
			checkText(t, Url{secure, s, "/"})
		}
	})
}
