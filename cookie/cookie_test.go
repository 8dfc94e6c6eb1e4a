package cookie

import (
	"cmp"
	"math"
	"math/rand"
	"reflect"
	"regexp"
	"slices"
	"strings"
	"testing"

	"cracknel/api"
	"cracknel/host"
	"cracknel/path"
	"cracknel/sample"
)

var (
	domainForm  = regexp.MustCompile(`^[a-z0-9]([a-z0-9-]{0,61}[a-z0-9])?(\.[a-z0-9]([a-z0-9-]{0,61}[a-z0-9])?)*$`)
	addressForm = regexp.MustCompile(`^(0|[1-9]\d?|1\d\d|2[0-4]\d|25[0-5])(\.(0|[1-9]\d?|1\d\d|2[0-4]\d|25[0-5])){3}$`)
	pathForm    = regexp.MustCompile(`^/[!-:<-~]{0,63}$`)
	nameForm    = regexp.MustCompile("^[A-Za-z0-9!#$%&'*+.^_`|~-]{1,64}$")
	valueForm   = regexp.MustCompile(`^[!#-+--:<-\[\]-~]{0,128}$`)
)

// rightOf is Right by the chapter's words, put as forms of the library.
func rightOf(c api.Cookie) bool {
	for form, s := range map[*regexp.Regexp]string{domainForm: c.Domain, pathForm: c.Path, nameForm: c.Name, valueForm: c.Value} {
		if !form.MatchString(s) {
			return false
		}
	}
	if len(c.Domain) > 64 || addressForm.MatchString(c.Domain) && !c.HostOnly {
		return false
	}
	least, greatest := min(c.Created, c.Accessed, c.Expires), max(c.Created, c.Accessed, c.Expires)
	return least >= 0 && greatest <= 253402300799 && slices.Contains([]int{0, 1, 2, 3}, c.SameSite)
}

// order names the fields as the chapter compares them.
var order = []string{"Domain", "Path", "Name", "Created", "Accessed", "Value", "Expires", "HostOnly", "Secure", "HttpOnly", "SameSite"}

// cmpOf is Cmp by the chapter's words, field by field as they are named.
func cmpOf(a, b api.Cookie) int {
	for _, name := range order {
		x, y := reflect.ValueOf(a).FieldByName(name), reflect.ValueOf(b).FieldByName(name)
		by := 0
		switch x.Kind() {
		case reflect.String:
			by = strings.Compare(x.String(), y.String())
		case reflect.Int:
			by = cmp.Compare(x.Int(), y.Int())
		case reflect.Bool:
			by = strings.Compare(map[bool]string{false: "0", true: "1"}[x.Bool()], map[bool]string{false: "0", true: "1"}[y.Bool()])
		}
		if by != 0 {
			return by
		}
	}
	return 0
}

// sendsOf is Sends by the chapter's words, one by one.
func sendsOf(c api.Cookie, u path.Url, now int) bool {
	if c.Expires != 0 && c.Expires <= now {
		return false
	}
	if c.HostOnly && u.Host != c.Domain || !slices.Contains(host.Parents(u.Host), c.Domain) {
		return false
	}
	if u.Path != c.Path {
		if !strings.HasPrefix(u.Path, c.Path) {
			return false
		}
		if !strings.HasSuffix(c.Path, "/") && u.Path[len(c.Path)] != '/' {
			return false
		}
	}
	return !c.Secure || u.Secure
}

// checkRight holds Right against the words of the chapter.
func checkRight(t *testing.T, c api.Cookie) {
	t.Helper()
	if got := Right(c); got != rightOf(c) {
		t.Errorf("P13.1: Right(%#v): %v", c, got)
	}
}

// checkCmp holds Of, Cmp and Greater against the words of the chapter, and against one another.
func checkCmp(t *testing.T, a, b api.Cookie) {
	t.Helper()
	by := cmpOf(a, b)
	if got, turned := Cmp(a, b), Cmp(b, a); got != by || turned != -by {
		t.Errorf("P13.2: Cmp of %#v and %#v: %d, turned %d, not %d", a, b, got, turned, by)
	}
	if (by == 0) != (a == b) {
		t.Errorf("P13.4: Cmp of %#v and %#v: %d", a, b, by)
	}
	want := a
	if by < 0 {
		want = b
	}
	if got, turned := Greater(a, b), Greater(b, a); got != want || turned != want {
		t.Errorf("P13.2: Greater of %#v and %#v: %#v, turned %#v", a, b, got, turned)
	}
	for _, c := range []api.Cookie{a, b} {
		if Of(c) != (Key{c.Domain, c.Path, c.Name}) {
			t.Errorf("P13.2: Of(%#v): %#v", c, Of(c))
		}
		if Cmp(c, c) != 0 || Greater(c, c) != c || Of(c).Cmp(Of(c)) != 0 {
			t.Errorf("P13.2: %#v and itself", c)
		}
	}
	one, other := api.Cookie{Domain: a.Domain, Path: a.Path, Name: a.Name}, api.Cookie{Domain: b.Domain, Path: b.Path, Name: b.Name}
	if got, want := Of(a).Cmp(Of(b)), cmpOf(one, other); got != want || Of(b).Cmp(Of(a)) != -want {
		t.Errorf("P13.2: Cmp of the keys of %#v and %#v: %d, not %d", a, b, got, want)
	}
}

// checkSends holds Live and Sends against the words of the chapter.
func checkSends(t *testing.T, c api.Cookie, u path.Url, now int) {
	t.Helper()
	if got, want := Live(c, now), c.Expires == 0 || c.Expires > now; got != want {
		t.Errorf("P13.3: Live(%#v, %d): %v", c, now, got)
	}
	if got := Sends(c, u, now); got != sendsOf(c, u, now) {
		t.Errorf("P13.3: Sends(%#v, %#v, %d): %v", c, u, now, got)
	}
}

// plain is a right cookie, of which a test turns what it is about.
func plain() api.Cookie {
	return api.Cookie{Domain: "a.b", Path: "/p", Name: "n", Value: "v", Created: 10, Accessed: 20, Expires: 30, SameSite: api.Lax}
}

// wrongs turn one field each of a right cookie into a wrong one.
var wrongs = map[string][]func(c *api.Cookie){
	"Domain":   {func(c *api.Cookie) { c.Domain = "" }, func(c *api.Cookie) { c.Domain = "a..b" }, func(c *api.Cookie) { c.Domain = "A.b" }, func(c *api.Cookie) { c.Domain = "a.B" }, func(c *api.Cookie) { c.Domain = strings.Repeat("a.", 32) + "b" }},
	"HostOnly": {func(c *api.Cookie) { c.Domain, c.HostOnly = "1.2.3.4", false }},
	"Path":     {func(c *api.Cookie) { c.Path = "" }, func(c *api.Cookie) { c.Path = "p" }, func(c *api.Cookie) { c.Path = "/;" }, func(c *api.Cookie) { c.Path = "/" + strings.Repeat("p", 64) }},
	"Name":     {func(c *api.Cookie) { c.Name = "" }, func(c *api.Cookie) { c.Name = "n=" }, func(c *api.Cookie) { c.Name = strings.Repeat("n", 65) }},
	"Value":    {func(c *api.Cookie) { c.Value = "v;" }, func(c *api.Cookie) { c.Value = strings.Repeat("v", 129) }},
	"Created":  {func(c *api.Cookie) { c.Created = -1 }, func(c *api.Cookie) { c.Created = api.MaxTime + 1 }},
	"Accessed": {func(c *api.Cookie) { c.Accessed = -1 }, func(c *api.Cookie) { c.Accessed = api.MaxTime + 1 }},
	"Expires":  {func(c *api.Cookie) { c.Expires = -1 }, func(c *api.Cookie) { c.Expires = api.MaxTime + 1 }},
	"SameSite": {func(c *api.Cookie) { c.SameSite = -1 }, func(c *api.Cookie) { c.SameSite = 4 }},
}

func TestLimits(t *testing.T) {
	if api.MaxName != 64 || api.MaxValue != 128 || api.MaxHost != 64 || api.MaxPath != 64 || api.MaxTime != 253402300799 || api.Unset != 0 || api.Lax != 1 || api.Strict != 2 || api.None != 3 {
		t.Error("P13.1: the limits")
	}
}

func TestRightDomain(t *testing.T) {
	long := strings.Repeat("a.", 31)
	for s, want := range map[string][2]bool{
		"a": {true, true}, "a.b": {true, true}, "a-b.c": {true, true}, "0": {true, true}, "b.0": {true, true}, "com": {true, true}, "a.b.c.d.e": {true, true},
		"": {}, ".": {}, ".a": {}, "a.": {}, "a..b": {}, "-a": {}, "a-": {}, "a.-b": {}, "a_b": {}, "a b": {}, " a": {}, "a ": {}, "a/": {}, "a:80": {}, "*.a": {}, "a\n": {}, "\na": {}, "a\x00": {}, "\xff": {}, "\xc3\xa4.b": {}, "[1]": {},
		"A": {}, "A.b": {}, "a.B": {}, "a.bC": {}, "Com": {}, "a-B": {},
		"1.2.3.4": {false, true}, "0.0.0.0": {false, true}, "255.255.255.255": {false, true}, "127.0.0.1": {false, true}, "10.20.30.40": {false, true}, "9.99.100.249": {false, true},
		"1.2.3": {true, true}, "1.2.3.4.5": {true, true}, "1.2.3.256": {true, true}, "256.2.3.4": {true, true}, "01.2.3.4": {true, true}, "1.2.3.04": {true, true}, "1.2.3.a": {true, true}, "a.1.2.3.4": {true, true}, "1.2.3.4.a": {true, true}, "1234": {true, true}, "1.2": {true, true}, "1.2.3.4-5": {true, true}, "1.2.3.1000": {true, true},
		"1.2.3.": {}, ".1.2.3.4": {}, "1.2.3.4.": {}, "1..3.4": {}, "1.2.3.-4": {}, "1.2.3.+4": {}, " 1.2.3.4": {}, "1.2.3.4\n": {},
		strings.Repeat("a", 63): {true, true}, strings.Repeat("a", 64): {}, long + "b": {true, true}, long + "bc": {true, true}, long + "bcd": {}, long + "bcde": {}, long + "B": {}, strings.Repeat("a", 300): {}, strings.Repeat("a.", 300) + "b": {},
	} {
		for i, hostOnly := range []bool{false, true} {
			c := plain()
			c.Domain, c.HostOnly = s, hostOnly
			if Right(c) != want[i] {
				t.Errorf("P13.1: Right of the domain %q, HostOnly %v: %v", s, hostOnly, !want[i])
			}
			checkRight(t, c)
		}
	}
}

func TestRightPath(t *testing.T) {
	for s, want := range map[string]bool{
		"/": true, "//": true, "/a": true, "/a/": true, "/A?b#c": true, "/~": true, "/" + strings.Repeat("a", 62): true, "/" + strings.Repeat("a", 63): true, "/" + strings.Repeat("a", 64): false, strings.Repeat("/", 64): true, strings.Repeat("/", 65): false,
		"": false, "a": false, "a/": false, " /": false, "/ ": false, "/;": false, "/a;b": false, "/\x7f": false, "/\xff": false, "/\n": false, "/\x00": false, "?/": false, "\\": false,
	} {
		c := plain()
		c.Path = s
		if Right(c) != want {
			t.Errorf("P13.1: Right of the path %q: %v", s, !want)
		}
		checkRight(t, c)
	}
}

// TestRightBytes puts every byte into each text, alone, first, in the middle and last.
func TestRightBytes(t *testing.T) {
	for at, b := range sample.Bytes() {
		small := at >= 'a' && at <= 'z' || at >= '0' && at <= '9'
		plainly := at >= 33 && at <= 126 && at != ';'
		token := small || at >= 'A' && at <= 'Z' || at != 0 && at < 128 && strings.Contains("!#$%&'*+-.^_`|~", b)
		octet := at >= 33 && at <= 126 && !strings.Contains("\",;\\", b)
		for form, want := range map[string][4]bool{
			"@":                            {small, at == '/', token, octet},
			"@a":                           {small, at == '/', token, octet},
			"a@":                           {small, false, token, octet},
			"a@a":                          {small || at == '-' || at == '.', false, token, octet},
			"/@":                           {false, plainly, false, octet},
			"/a@a":                         {false, plainly, false, octet},
			"@@":                           {small, at == '/', token, octet},
			"a.@.b":                        {small, false, token, octet},
			"@" + strings.Repeat("a", 62):  {small, at == '/', token, octet},
			strings.Repeat("a", 62) + "@":  {small, false, token, octet},
			strings.Repeat("a", 63) + "@":  {false, false, token, octet},
			strings.Repeat("a", 64) + "@":  {false, false, false, octet},
			strings.Repeat("a", 127) + "@": {false, false, false, octet},
			strings.Repeat("a", 128) + "@": {},
		} {
			s := strings.ReplaceAll(form, "@", b)
			for i, turn := range []func(c *api.Cookie){func(c *api.Cookie) { c.Domain = s }, func(c *api.Cookie) { c.Path = s }, func(c *api.Cookie) { c.Name = s }, func(c *api.Cookie) { c.Value = s }} {
				c := plain()
				turn(&c)
				if Right(c) != want[i] {
					t.Errorf("P13.1: Right(%#v): %v", c, !want[i])
				}
				checkRight(t, c)
			}
		}
	}
}

func TestRightLengths(t *testing.T) {
	for long := range 140 {
		for _, piece := range []string{"a", "~", "0", ";", " ", "\xff", "="} {
			s := strings.Repeat(piece, long)
			c := plain()
			c.Name = s
			if want := 1 <= long && long <= 64 && strings.Contains("a~0", piece); Right(c) != want {
				t.Errorf("P13.1: Right of a name of %d times %q: %v", long, piece, !want)
			}
			checkRight(t, c)
			c = plain()
			c.Value = s
			if want := long == 0 || long <= 128 && strings.Contains("a~0=", piece); Right(c) != want {
				t.Errorf("P13.1: Right of a value of %d times %q: %v", long, piece, !want)
			}
			checkRight(t, c)
			c = plain()
			c.Domain, c.Path = "b"+s, "/"+s
			checkRight(t, c)
			c.Domain = strings.Repeat(piece+".", long) + "b"
			checkRight(t, c)
		}
	}
	for _, turn := range []func(c *api.Cookie, s string){func(c *api.Cookie, s string) { c.Domain = s }, func(c *api.Cookie, s string) { c.Path = "/" + s }, func(c *api.Cookie, s string) { c.Name = s }, func(c *api.Cookie, s string) { c.Value = s }} {
		c := plain()
		turn(&c, strings.Repeat("a", 100000))
		if Right(c) {
			t.Error("P13.1: Right of a long text")
		}
	}
}

func TestRightTimes(t *testing.T) {
	for at, want := range map[int]bool{math.MinInt: false, math.MinInt + 1: false, -api.MaxTime: false, -2: false, -1: false, 0: true, 1: true, 2: true, 1 << 31: true, 1 << 32: true, api.MaxTime - 1: true, api.MaxTime: true, api.MaxTime + 1: false, api.MaxTime * 2: false, math.MaxInt - 1: false, math.MaxInt: false} {
		for i, turn := range []func(c *api.Cookie){func(c *api.Cookie) { c.Created = at }, func(c *api.Cookie) { c.Accessed = at }, func(c *api.Cookie) { c.Expires = at }, func(c *api.Cookie) { c.Created, c.Accessed, c.Expires = at, at, at }} {
			c := plain()
			turn(&c)
			if Right(c) != want {
				t.Errorf("P13.1: Right of the time %d at %d: %v", at, i, !want)
			}
			checkRight(t, c)
		}
	}
}

// TestRightTimesApart takes times in whatever order: none of them is held against another one.
func TestRightTimesApart(t *testing.T) {
	rows := []int{0, 1, 2, 1000, api.MaxTime - 1, api.MaxTime}
	for _, created := range rows {
		for _, accessed := range rows {
			for _, expires := range rows {
				c := plain()
				c.Created, c.Accessed, c.Expires = created, accessed, expires
				if !Right(c) {
					t.Errorf("P13.1: Right of the times %d %d %d", created, accessed, expires)
				}
			}
		}
	}
}

func TestRightSameSite(t *testing.T) {
	for site, want := range map[int]bool{math.MinInt: false, -4: false, -2: false, -1: false, 0: true, 1: true, 2: true, 3: true, 4: false, 5: false, 256: false, 1 << 32: false, math.MaxInt: false} {
		for i := range 8 {
			c := plain()
			c.SameSite, c.HostOnly, c.Secure, c.HttpOnly = site, i&1 != 0, i&2 != 0, i&4 != 0
			if Right(c) != want {
				t.Errorf("P13.1: Right of SameSite %d: %v", site, !want)
			}
			checkRight(t, c)
		}
	}
}

// TestRightWrong turns one field, and then two, of right cookies into wrong ones.
func TestRightWrong(t *testing.T) {
	good := []api.Cookie{plain(), {Domain: "a", Path: "/", Name: "n"}, {Domain: "1.2.3.4", Path: "/a/b", Name: "N", Value: "=", Created: api.MaxTime, Accessed: api.MaxTime, Expires: api.MaxTime, HostOnly: true, Secure: true, HttpOnly: true, SameSite: api.None}}
	for _, c := range good {
		if !Right(c) {
			t.Errorf("P13.1: Right(%#v): false", c)
		}
		for field, row := range wrongs {
			for i, turn := range row {
				one := c
				turn(&one)
				if Right(one) {
					t.Errorf("P13.1: Right with a wrong %s (%d)", field, i)
				}
				checkRight(t, one)
				for other, more := range wrongs {
					for j, again := range more {
						two := one
						again(&two)
						if Right(two) && field != other {
							t.Errorf("P13.1: Right with a wrong %s (%d) and a wrong %s (%d)", field, i, other, j)
						}
						checkRight(t, two)
					}
				}
			}
		}
	}
	if Right(api.Cookie{}) {
		t.Error("P13.1: Right of the empty cookie")
	}
}

// texts, numbers and flags are what fields are made of, each rising.
var (
	texts   = []string{"", "\x00", "A", "Z", "a", "a\x00", "a.", "aa", "ab", "b", "ba", "~", "\x7f", "\x80", "\xc3\xa4", "\xff", "\xff\xff"}
	numbers = []int{math.MinInt, math.MinInt + 1, -api.MaxTime, -2, -1, 0, 1, 2, 3, 4, 255, 256, 1 << 32, api.MaxTime, api.MaxTime + 1, math.MaxInt - 1, math.MaxInt}
	flags   = []bool{false, true}
)

// places counts what the fields may be, in the chapter's order.
var places = [11]int{len(texts), len(texts), len(texts), len(numbers), len(numbers), len(texts), len(numbers), len(flags), len(flags), len(flags), len(numbers)}

// laid makes a cookie of which each field, in the chapter's order, is the one at a place.
func laid(at [11]int) api.Cookie {
	return api.Cookie{Domain: texts[at[0]], Path: texts[at[1]], Name: texts[at[2]], Created: numbers[at[3]], Accessed: numbers[at[4]], Value: texts[at[5]], Expires: numbers[at[6]], HostOnly: flags[at[7]], Secure: flags[at[8]], HttpOnly: flags[at[9]], SameSite: numbers[at[10]]}
}

// checkLaid holds Cmp of two cookies and of their keys against the places that they are made from.
func checkLaid(t *testing.T, x, y [11]int) {
	t.Helper()
	a, b := laid(x), laid(y)
	if got, want := Cmp(a, b), slices.Compare(x[:], y[:]); got != want {
		t.Errorf("P13.2: Cmp of %#v and %#v: %d, not %d", a, b, got, want)
	}
	if got, want := Of(a).Cmp(Of(b)), slices.Compare(x[:3], y[:3]); got != want {
		t.Errorf("P13.2: Cmp of the keys of %#v and %#v: %d, not %d", a, b, got, want)
	}
	checkCmp(t, a, b)
}

func TestOrder(t *testing.T) {
	if !slices.IsSorted(texts) || !slices.IsSorted(numbers) {
		t.Fatal("the texts and numbers of the tests do not rise")
	}
	if len(order) != reflect.TypeFor[api.Cookie]().NumField() {
		t.Fatal("P13.2: the fields of a cookie")
	}
}

func TestCmpExamples(t *testing.T) {
	a, b := api.Cookie{Domain: "a", Path: "/", Name: "x"}, api.Cookie{Domain: "b", Path: "/", Name: "x"}
	if Cmp(a, b) != -1 || Cmp(b, a) != 1 || Greater(a, b) != b || Greater(b, a) != b || Of(a).Cmp(Of(b)) != -1 || Of(b).Cmp(Of(a)) != 1 {
		t.Error("P13.2: cookies of the domains a and b")
	}
	c := plain()
	if Of(c) != (Key{Domain: "a.b", Path: "/p", Name: "n"}) || Cmp(c, c) != 0 || Greater(c, c) != c || Of(c).Cmp(Of(plain())) != 0 || Cmp(c, plain()) != 0 {
		t.Errorf("P13.2: a cookie and itself: %#v", Of(c))
	}
	if Of(api.Cookie{}) != (Key{}) || (Key{}).Cmp(Key{}) != 0 || Cmp(api.Cookie{}, api.Cookie{}) != 0 || Greater(api.Cookie{}, api.Cookie{}) != (api.Cookie{}) {
		t.Error("P13.2: the empty cookie")
	}
}

// TestKeyCmp takes two keys of all short texts of two bytes, and of some of account.
func TestKeyCmp(t *testing.T) {
	rows := slices.Concat(sample.Texts(2, "a", "b", "/"), []string{"\x7f", "\x80", "\xff", "\x00", "a\xff", "a\x00"})
	for _, s := range rows {
		for _, d := range rows {
			want := strings.Compare(s, d)
			for i, x := range [][2]Key{{{s, "", ""}, {d, "", ""}}, {{"k", s, ""}, {"k", d, ""}}, {{"k", "k", s}, {"k", "k", d}}, {{s, s, s}, {d, d, d}}, {{s, d, d}, {d, s, s}}, {{"k", s, d}, {"k", d, s}}} {
				if got := x[0].Cmp(x[1]); got != want {
					t.Errorf("P13.2: Cmp of the keys %#v and %#v (%d): %d", x[0], x[1], i, got)
				}
			}
		}
	}
	// The border between two texts counts for nothing but itself.
	for _, x := range [][2]Key{{{"a", "bc", "d"}, {"ab", "c", "d"}}, {{"", "ab", "c"}, {"a", "b", "c"}}, {{"a", "b", "cd"}, {"a", "bc", "d"}}, {{"", "", "a"}, {"", "a", ""}}, {{"", "a", ""}, {"a", "", ""}}, {{"a", "", "b"}, {"a", "b", ""}}} {
		if x[0].Cmp(x[1]) != -1 || x[1].Cmp(x[0]) != 1 {
			t.Errorf("P13.2: Cmp of the keys %#v and %#v", x[0], x[1])
		}
	}
}

// TestCmpBytes holds each byte against each other one, in each text.
func TestCmpBytes(t *testing.T) {
	for x, b := range sample.Bytes() {
		for y, d := range sample.Bytes() {
			want := cmp.Compare(x, y)
			if got := (Key{b, "z", "z"}).Cmp(Key{d, "z", "z"}); got != want {
				t.Errorf("P13.2: Cmp of the domains %q and %q: %d", b, d, got)
			}
			if got := (Key{"z", "/" + b, d}).Cmp(Key{"z", "/" + d, b}); got != want {
				t.Errorf("P13.2: Cmp of the paths %q and %q: %d", b, d, got)
			}
			if got := (Key{"z", "z", "z" + b + "a"}).Cmp(Key{"z", "z", "z" + d}); got != want && x != y || x == y && got != 1 {
				t.Errorf("P13.2: Cmp of the names %q and %q: %d", b, d, got)
			}
			if got := Cmp(api.Cookie{Value: b, SameSite: y}, api.Cookie{Value: d, SameSite: x}); got != want {
				t.Errorf("P13.2: Cmp of the values %q and %q: %d", b, d, got)
			}
		}
	}
}

// TestCmpFields takes each field alone, at each two of its places: all ahead of it is the same, and all behind it the same, or the other way round.
func TestCmpFields(t *testing.T) {
	for field, many := range places {
		for less := range many {
			for more := range many {
				for _, ahead := range []int{0, 1} {
					var x, y [11]int
					for i := range field {
						x[i], y[i] = ahead, ahead
					}
					x[field], y[field] = less, more
					checkLaid(t, x, y)
					for i := field + 1; i < len(places); i++ {
						x[i], y[i] = places[i]-1, 0
					}
					checkLaid(t, x, y)
					for i := field + 1; i < len(places); i++ {
						x[i], y[i] = 0, places[i]-1
					}
					checkLaid(t, x, y)
				}
			}
		}
	}
}

// TestCmpPairs takes each two fields, the one less and the other greater.
func TestCmpPairs(t *testing.T) {
	for first := range places {
		for second := range first {
			for _, begin := range []int{0, 1} {
				x, y := [11]int{}, [11]int{}
				for i := range places {
					x[i] = begin * (places[i] / 2)
					y[i] = x[i]
				}
				x[first], y[first] = 0, places[first]-1
				x[second], y[second] = places[second]-1, 0
				checkLaid(t, x, y)
				checkLaid(t, y, x)
			}
		}
	}
}

// TestCmpCounted takes all cookies of which each field is one of two, counted as they rise.
func TestCmpCounted(t *testing.T) {
	row := make([]api.Cookie, 1<<11)
	for n := range row {
		var at [11]int
		for i := range at {
			at[i] = n >> (10 - i) & 1
		}
		row[n] = laid(at)
	}
	for n, a := range row {
		for m, b := range row {
			if got := Cmp(a, b); got != cmp.Compare(n, m) {
				t.Fatalf("P13.2: Cmp of %#v and %#v: %d", a, b, got)
			}
			if got := Of(a).Cmp(Of(b)); got != cmp.Compare(n>>8, m>>8) {
				t.Fatalf("P13.2: Cmp of the keys of %#v and %#v: %d", a, b, got)
			}
			if n > m && (Greater(a, b) != a || Greater(b, a) != a) {
				t.Fatalf("P13.2: Greater of %#v and %#v", a, b)
			}
		}
	}
}

func TestGreaterOfOneKey(t *testing.T) {
	old := plain()
	for i, turn := range []func(c *api.Cookie){func(c *api.Cookie) { c.Created = 11 }, func(c *api.Cookie) { c.Accessed = 21 }, func(c *api.Cookie) { c.Value = "w" }, func(c *api.Cookie) { c.Value = "va" }, func(c *api.Cookie) { c.Expires = 31 }, func(c *api.Cookie) { c.HostOnly = true }, func(c *api.Cookie) { c.Secure = true }, func(c *api.Cookie) { c.HttpOnly = true }, func(c *api.Cookie) { c.SameSite = api.Strict }, func(c *api.Cookie) { c.Created, c.Accessed, c.Value, c.Expires = 11, 0, "", 0 }, func(c *api.Cookie) { c.Accessed, c.Value = 21, "a" }, func(c *api.Cookie) { c.Value, c.Expires = "w", 0 }, func(c *api.Cookie) { c.Expires, c.SameSite = 31, 0 }, func(c *api.Cookie) { c.HostOnly, c.SameSite = true, 0 }} {
		next := old
		turn(&next)
		if Of(old).Cmp(Of(next)) != 0 || Cmp(old, next) != -1 || Cmp(next, old) != 1 {
			t.Errorf("P13.2: Cmp of two of one key (%d)", i)
		}
		if Greater(old, next) != next || Greater(next, old) != next || Greater(next, next) != next {
			t.Errorf("P13.2: Greater of two of one key (%d)", i)
		}
	}
	// 0 is the end of a session, but the least of the numbers.
	session := old
	session.Expires = 0
	if Greater(session, old) != old || Cmp(session, old) != -1 {
		t.Error("P13.2: Greater of one that goes with the session")
	}
}

func TestLive(t *testing.T) {
	for _, now := range []int{math.MinInt, math.MinInt + 1, -api.MaxTime, -2, -1, 0, 1, 2, 100, api.MaxTime - 1, api.MaxTime, api.MaxTime + 1, math.MaxInt - 1, math.MaxInt} {
		if !Live(api.Cookie{}, now) {
			t.Errorf("P13.3: Live at %d of one that goes with the session", now)
		}
		if now != 0 && Live(api.Cookie{Expires: now}, now) {
			t.Errorf("P13.3: Live at %d of one that expires then", now)
		}
		if now > math.MinInt && Live(api.Cookie{Expires: now - 1}, now) != (now == 1) {
			t.Errorf("P13.3: Live at %d of one that expired just ahead", now)
		}
		if now < math.MaxInt && !Live(api.Cookie{Expires: now + 1}, now) {
			t.Errorf("P13.3: Live at %d of one that expires just behind", now)
		}
		for _, expires := range numbers {
			c := plain()
			c.Expires = expires
			if want := expires == 0 || expires > now; Live(c, now) != want {
				t.Errorf("P13.3: Live at %d of one that expires at %d: %v", now, expires, !want)
			}
			checkSends(t, c, path.Url{Host: "a.b", Path: "/p"}, now)
		}
	}
	// Of all that a cookie has, it is by Expires alone.
	for _, c := range []api.Cookie{{Expires: 30}, {Expires: 30, Created: 100, Accessed: 100}, {Expires: 30, Created: math.MaxInt, Domain: "A", Secure: true, SameSite: 9}, plain()} {
		if !Live(c, 29) || Live(c, 30) || Live(c, 31) || !Live(c, -1) {
			t.Errorf("P13.3: Live of %#v", c)
		}
	}
}

func TestSendsExamples(t *testing.T) {
	c := api.Cookie{Domain: "a.b", Path: "/", Name: "n", HostOnly: true}
	if Sends(c, path.Url{Host: "x.a.b", Path: "/"}, 0) {
		t.Error("P13.3: HostOnly of a.b is sent to x.a.b")
	}
	for _, x := range []struct {
		domain, host string
		all, hosts   bool
	}{
		{"a.b", "a.b", true, true}, {"a.b", "x.a.b", true, false}, {"a.b", "y.x.a.b", true, false}, {"a.b", "xa.b", false, false}, {"a.b", "b", false, false}, {"a.b", "a.b.c", false, false}, {"a.b", "a.c", false, false}, {"a.b", "A.b", false, false}, {"a.b", "X.a.b", true, false}, {"a.b", "", false, false}, {"a.b", ".a.b", true, false}, {"a.b", "a.b.", false, false}, {"b", "a.b", true, false}, {"A.b", "a.b", false, false}, {"A.b", "A.b", true, true},
		{"1.2.3.4", "1.2.3.4", true, true}, {"1.2.3.4", "x.1.2.3.4", true, false}, {"2.3.4", "1.2.3.4", false, false}, {"3.4", "1.2.3.4", false, false}, {"4", "1.2.3.4", false, false}, {"1.2.3.4", "1.2.3.5", false, false}, {"2.3.4", "a.2.3.4", true, false}, {"3.256", "1.2.3.256", true, false}, {"1.2.3.4", "2.3.4", false, false},
		{"", "", true, true}, {"", "a", false, false}, {"", "a.", true, false}, {"\xff", "\xff", true, true}, {"\xff", "a.\xff", true, false}, {"\xff", "\xfe", false, false},
	} {
		for _, hostOnly := range []bool{false, true} {
			c := api.Cookie{Domain: x.domain, Path: "/", Name: "n", HostOnly: hostOnly}
			u := path.Url{Host: x.host, Path: "/"}
			want := x.all
			if hostOnly {
				want = x.hosts
			}
			if Sends(c, u, 0) != want {
				t.Errorf("P13.3: of %q, HostOnly %v, to %q: %v", x.domain, hostOnly, x.host, !want)
			}
			checkSends(t, c, u, 0)
		}
	}
	for _, x := range []struct {
		path, of string
		want     bool
	}{
		{"/p", "/p", true}, {"/p", "/p/", true}, {"/p", "/p/q", true}, {"/p", "/pq", false}, {"/p", "/", false}, {"/p", "/q", false}, {"/p", "/q/p", false}, {"/p", "/P", false}, {"/p/", "/p", false}, {"/p/", "/p/", true}, {"/p/", "/p/q", true}, {"/p/", "/pq/", false}, {"/", "/", true}, {"/", "/p/q", true}, {"/", "", false}, {"", "/", true}, {"", "", true}, {"", "p", false}, {"p", "p/q", true}, {"/p?", "/p?/", true}, {"/p", "/p?", false},
	} {
		c := api.Cookie{Domain: "a.b", Path: x.path, Name: "n"}
		u := path.Url{Host: "x.a.b", Path: x.of}
		if Sends(c, u, 0) != x.want {
			t.Errorf("P13.3: of the path %q to %q: %v", x.path, x.of, !x.want)
		}
		checkSends(t, c, u, 0)
	}
}

// TestSendsBroken breaks each of the conditions alone, and some together.
func TestSendsBroken(t *testing.T) {
	for i := range 1 << 7 {
		c := api.Cookie{Domain: "a.b", Path: "/p", Name: "n", Expires: 30, HostOnly: i&1 != 0, Secure: i&2 != 0}
		u := path.Url{Secure: i&4 != 0, Host: "a.b", Path: "/p/q"}
		now, want := 29, !c.Secure || u.Secure
		if i&8 != 0 {
			u.Host = "x.a.b"
			want = want && !c.HostOnly
		}
		if i&16 != 0 {
			u.Host = "b"
			want = false
		}
		if i&32 != 0 {
			u.Path = "/pq"
			want = false
		}
		if i&64 != 0 {
			now = 30
			want = false
		}
		for _, rest := range []api.Cookie{{}, plain(), {Name: "", Value: ";", Created: 1000, Accessed: math.MaxInt, HttpOnly: true, SameSite: api.Strict}, {HttpOnly: true, SameSite: api.None}, {SameSite: -1}} {
			c.Name, c.Value, c.Created, c.Accessed, c.HttpOnly, c.SameSite = rest.Name, rest.Value, rest.Created, rest.Accessed, rest.HttpOnly, rest.SameSite
			if Sends(c, u, now) != want {
				t.Errorf("P13.3: Sends(%#v, %#v, %d): %v", c, u, now, !want)
			}
			checkSends(t, c, u, now)
		}
	}
}

// TestSendsShort takes short texts as domains, hosts and paths.
func TestSendsShort(t *testing.T) {
	rows := append(sample.Texts(3, "a", ".", "b"), "1.2.3.4", "a.1.2.3.4", "3.4", "a.b.a.b")
	ways := sample.Texts(3, "/", "a", "b")
	for i, s := range rows {
		for j, d := range rows {
			for k := range 8 {
				c := api.Cookie{Domain: s, Path: "/", HostOnly: k&1 != 0, Secure: k&2 != 0}
				checkSends(t, c, path.Url{Secure: k&4 != 0, Host: d, Path: "/x"}, i-j)
			}
		}
	}
	for _, s := range ways {
		for _, d := range ways {
			checkSends(t, api.Cookie{Domain: "a", Path: s}, path.Url{Host: "a", Path: d}, 0)
		}
	}
}

// kinds are cookies of many kinds, right ones and others.
func kinds(r *rand.Rand, many int) []api.Cookie {
	row := []api.Cookie{{}, plain()}
	for range many {
		var at, few [11]int
		for i := range at {
			at[i] = r.Intn(places[i])
			few[i] = r.Intn(2)
		}
		c := plain()
		c.Value, c.Created, c.Secure = sample.Some(r.Intn, 2, "a", "b"), r.Intn(3), r.Intn(2) == 0
		near := row[r.Intn(len(row))]
		near.SameSite = r.Intn(4)
		row = append(row, laid(at), laid(few), c, near)
	}
	return row
}

// TestThrees takes cookies of all kinds by threes.
func TestThrees(t *testing.T) {
	row := kinds(rand.New(rand.NewSource(13)), 24)
	for _, a := range row {
		for _, b := range row {
			checkCmp(t, a, b)
			ab := Greater(a, b)
			for _, c := range row {
				if Cmp(a, b) <= 0 && Cmp(b, c) <= 0 && Cmp(a, c) > 0 {
					t.Errorf("P13.4: %#v is not greater than %#v, and that not than %#v", a, b, c)
				}
				if Of(a).Cmp(Of(b)) <= 0 && Of(b).Cmp(Of(c)) <= 0 && Of(a).Cmp(Of(c)) > 0 {
					t.Errorf("P13.4: the keys of %#v, %#v and %#v", a, b, c)
				}
				got := Greater(ab, c)
				for _, other := range []api.Cookie{Greater(a, Greater(b, c)), Greater(c, ab), Greater(Greater(c, b), a), Greater(b, Greater(a, c)), Greater(Greater(a, c), b)} {
					if other != got {
						t.Errorf("P13.4: Greater of %#v, %#v and %#v: %#v, or %#v", a, b, c, got, other)
					}
				}
				if got != a && got != b && got != c || Cmp(got, a) < 0 || Cmp(got, b) < 0 || Cmp(got, c) < 0 {
					t.Errorf("P13.4: Greater of %#v, %#v and %#v: %#v", a, b, c, got)
				}
			}
		}
	}
}

// TestSorted sorts cookies that were put into whatever order: it is one row.
func TestSorted(t *testing.T) {
	r := rand.New(rand.NewSource(130))
	row := kinds(r, 50)
	slices.SortFunc(row, Cmp)
	for i, a := range row {
		for _, b := range row[i:] {
			if Cmp(a, b) > 0 {
				t.Fatalf("P13.4: %#v stands ahead of %#v", a, b)
			}
		}
	}
	for range 20 {
		mixed := slices.Clone(row)
		r.Shuffle(len(mixed), func(i, j int) { mixed[i], mixed[j] = mixed[j], mixed[i] })
		greatest := mixed[0]
		for _, c := range mixed {
			greatest = Greater(c, greatest)
		}
		if slices.SortFunc(mixed, Cmp); !slices.Equal(mixed, row) || greatest != row[len(row)-1] {
			t.Fatal("P13.4: cookies are sorted in two ways")
		}
	}
}

func TestAny(t *testing.T) {
	r := rand.New(rand.NewSource(31))
	wide := sample.Bytes()
	narrow := []string{"a", "b", ".", "/", "-", "A", "1.2.3.4", "1", "~", "=", ";", "\xff", "\n"}
	good := []string{"a", "b", "0", "c.d", "e"}
	text := func(most int) string {
		switch r.Intn(4) {
		case 0:
			return sample.Some(r.Intn, most, wide...)
		case 1:
			return sample.Some(r.Intn, most, narrow...)
		}
		return sample.Some(r.Intn, most, good...)
	}
	number := func() int {
		if r.Intn(4) == 0 {
			return numbers[r.Intn(len(numbers))]
		}
		return r.Intn(5)
	}
	last := plain()
	for range 30000 {
		c := api.Cookie{Domain: text(5), Path: "/" + text(3), Name: text(4), Value: text(5), Created: number(), Accessed: number(), Expires: number(), HostOnly: r.Intn(2) == 0, Secure: r.Intn(2) == 0, HttpOnly: r.Intn(2) == 0, SameSite: number()}
		checkRight(t, c)
		checkCmp(t, c, last)
		near := plain()
		near.Domain, near.HostOnly, near.SameSite = c.Domain, c.HostOnly, c.SameSite
		checkRight(t, near)
		near.Name, near.Domain = c.Name, "a"
		checkRight(t, near)
		near.Value, near.Name = c.Value, "n"
		checkRight(t, near)
		u := path.Url{Secure: r.Intn(2) == 0, Host: text(2) + c.Domain, Path: c.Path + text(2)}
		checkSends(t, c, u, number())
		u.Host = "x." + c.Domain
		checkSends(t, c, u, c.Expires-1)
		checkSends(t, c, path.Url{Secure: true, Host: c.Domain, Path: c.Path}, number())
		if r.Intn(2) == 0 {
			last = c
		}
	}
}

func FuzzCookie(f *testing.F) {
	f.Add("a.b", "/p", "n", "v", 1, 2, 3, 7, 1, "x.", "/q", 2)
	f.Add("1.2.3.4", "/", "N", "", 0, 0, 0, 0, 0, "", "", 0)
	f.Add("", "", "", "\xff", -1, math.MaxInt, math.MinInt, 3, 4, "a", "b", -1)
	f.Fuzz(func(t *testing.T, domain, way, name, value string, created, accessed, expires, set, site int, ahead, behind string, now int) {
		a := api.Cookie{Domain: domain, Path: way, Name: name, Value: value, Created: created, Accessed: accessed, Expires: expires, HostOnly: set&1 != 0, Secure: set&2 != 0, HttpOnly: set&4 != 0, SameSite: site}
		b := a
		b.Value, b.Created, b.HttpOnly = ahead, now, set&8 != 0
		checkRight(t, a)
		checkRight(t, b)
		checkCmp(t, a, b)
		checkCmp(t, a, api.Cookie{Domain: ahead, Path: behind, Expires: now})
		for _, secure := range []bool{false, true} {
			checkSends(t, a, path.Url{Secure: secure, Host: ahead + domain, Path: way + behind}, now)
			checkSends(t, a, path.Url{Secure: secure, Host: ahead, Path: behind}, now)
			checkSends(t, a, path.Url{Secure: secure, Host: domain, Path: way}, now)
		}
	})
}
