package utf

import (
	"math"
	"math/rand"
	"slices"
	"strings"
	"testing"
	"unicode/utf16"
	"unicode/utf8"
)

// isLetter is the chapter's word, as it stands there.
func isLetter(r int) bool {
	return 0 <= r && r <= 1114111 && !(55296 <= r && r <= 57343)
}

// form gives the bytes of a letter by the chapter's words: 0, 192, 224 or 240 at the head, and six bits for each byte behind it.
func form(r int) string {
	switch {
	case r < 128:
		return string([]byte{byte(r)})
	case r < 2048:
		return string([]byte{byte(192 + r/64), byte(128 + r%64)})
	case r < 65536:
		return string([]byte{byte(224 + r/4096), byte(128 + r/64%64), byte(128 + r%64)})
	}
	return string([]byte{byte(240 + r/262144), byte(128 + r/4096%64), byte(128 + r/64%64), byte(128 + r%64)})
}

// forms has every letter by its bytes: what begins with none of them begins with no letter.
var forms = func() map[string]int {
	m := make(map[string]int, 1114112-2048)
	for r := range 1114112 {
		if isLetter(r) {
			m[form(r)] = r
		}
	}
	return m
}()

// taken looks up the letter with which s begins.
func taken(s string) (int, int, bool) {
	for n := 1; n <= min(len(s), 4); n++ {
		if r, is := forms[s[:n]]; is {
			return r, n, true
		}
	}
	return 0, 0, false
}

// letters looks up all letters of s.
func letters(s string) ([]int, bool) {
	var l []int
	for s != "" {
		r, n, is := taken(s)
		if !is {
			return nil, false
		}
		l, s = append(l, r), s[n:]
	}
	return l, true
}

// edges are the first and the last letters of one, two, three and four bytes, those about the gap, and some more.
func edges() []int {
	return []int{0, 1, 9, 10, 34, 37, 92, 97, 126, 127, 128, 129, 191, 192, 228, 255, 256, 2046, 2047, 2048, 2049, 4095, 4096, 8364, 55294, 55295, 57344, 57345, 65279, 65532, 65533, 65534, 65535, 65536, 65537, 128512, 262143, 262144, 1114109, 1114110, 1114111}
}

// strangers are numbers that are no letters: below 0, in the gap, above the last one, and such as would be a letter, if higher bits were let fall.
func strangers() []int {
	l := []int{-1, -2, -97, -128, -228, -65533, -1114111, -1114112, 55296, 55297, 56319, 56320, 57342, 57343, 1114112, 1114113, 1 << 21, 1<<21 + 97, 1 << 24, math.MaxInt32, math.MinInt32, math.MaxInt, math.MinInt, math.MinInt + 97}
	for i := 21; i < 63; i++ {
		p := 1 << i
		l = append(l, p, p+97, p+228, p+65533, p-1, -p, -p+97, -p+65533, 97-p*2)
	}
	return l
}

// severed are bytes that begin with no letter.
func severed() []string {
	return []string{
		"", "\x80", "\x81", "\xa4", "\xbf", "\xc3", "\xc3a", "\xc3\xc3\xa4", "\xe2", "\xe2\x82", "\xe2\x82a", "\xe2a\xac", "\xf0", "\xf0\x9f", "\xf0\x9f\x98", "\xf0\x9f\x98a", "\xf0\x9fa\x80", "\xf0a\x98\x80",
		"\xc0\x80", "\xc0\xaf", "\xc1\xbf", "\xe0\x80\x80", "\xe0\x81\xa1", "\xe0\x83\xa4", "\xe0\x9f\xbf", "\xf0\x80\x80\x80", "\xf0\x80\x81\xa1", "\xf0\x82\x82\xac", "\xf0\x8f\xbf\xbf", "\xf0\x8f\xbf\xbd",
		"\xed\xa0\x80", "\xed\xa0\xbd\xed\xb8\x80", "\xed\xaf\xbf", "\xed\xb0\x80", "\xed\xbf\xbf", "\xf4\x90\x80\x80", "\xf4\xbf\xbf\xbf", "\xf5\x80\x80\x80", "\xf7\xbf\xbf\xbf",
		"\xf8\x88\x80\x80\x80", "\xfb\xbf\xbf\xbf\xbf", "\xfc\x84\x80\x80\x80\x80", "\xfd\xbf\xbf\xbf\xbf\xbf", "\xfe", "\xff", "\xff\xfd", "\xff\xfea\x00", "\xfe\xff\x00a", "\xef\xbf", "\xef\xbf\xff", "\xef\xbd",
	}
}

// behind is what may follow: nothing, letters, and bytes that are none.
var behind = []string{"", "\x00", "a", "\x80", "\xbf\xbf\xbf", "\xc3\xa4", "\xc3", "\xed\xa0\x80", "\xef\xbf\xbd", "\xf0\x9f\x98\x80", "\xff"}

func TestPutWrittenOut(t *testing.T) {
	for _, c := range []struct {
		r int
		s string
	}{
		{0, "\x00"}, {1, "\x01"}, {97, "a"}, {126, "\x7e"}, {127, "\x7f"}, {128, "\xc2\x80"}, {129, "\xc2\x81"}, {228, "\xc3\xa4"}, {255, "\xc3\xbf"}, {256, "\xc4\x80"}, {2046, "\xdf\xbe"}, {2047, "\xdf\xbf"},
		{2048, "\xe0\xa0\x80"}, {2049, "\xe0\xa0\x81"}, {8364, "\xe2\x82\xac"}, {55294, "\xed\x9f\xbe"}, {55295, "\xed\x9f\xbf"}, {57344, "\xee\x80\x80"}, {57345, "\xee\x80\x81"}, {65279, "\xef\xbb\xbf"},
		{65532, "\xef\xbf\xbc"}, {65533, "\xef\xbf\xbd"}, {65534, "\xef\xbf\xbe"}, {65535, "\xef\xbf\xbf"}, {65536, "\xf0\x90\x80\x80"}, {65537, "\xf0\x90\x80\x81"}, {128512, "\xf0\x9f\x98\x80"},
		{262143, "\xf0\xbf\xbf\xbf"}, {262144, "\xf1\x80\x80\x80"}, {1114110, "\xf4\x8f\xbf\xbe"}, {1114111, "\xf4\x8f\xbf\xbf"},
	} {
		if s, is := Put(c.r); s != c.s || !is {
			t.Errorf("P5.1: Put(%d) = %x, %v, want %x", c.r, s, is, c.s)
		}
		if r, n, is := Take(c.s); r != c.r || n != len(c.s) || !is {
			t.Errorf("P5.2: Take(%x) = %d, %d, %v, want %d", c.s, r, n, is, c.r)
		}
	}
}

// Every number from a little below 0 to a little above the last letter, so the whole gap, too.
func TestPutAll(t *testing.T) {
	for r := -3000; r < 1117000; r++ {
		checkPut(t, r)
	}
}

func TestPutNoLetter(t *testing.T) {
	for _, r := range strangers() {
		if s, is := Put(r); s != "" || is {
			t.Errorf("P5.1: Put(%d) = %x, %v", r, s, is)
		}
	}
	rnd := rand.New(rand.NewSource(5))
	for range 100000 {
		checkPut(t, int(rnd.Uint64())>>rnd.Intn(64))
	}
}

func checkPut(t *testing.T, r int) {
	want := ""
	if isLetter(r) {
		want = form(r)
	}
	if s, is := Put(r); s != want || is != isLetter(r) {
		t.Errorf("P5.1: Put(%d) = %x, %v, want %x, %v", r, s, is, want, isLetter(r))
	}
	if s, is := Text(r); s != want || is != isLetter(r) {
		t.Errorf("P5.3: Text(%d) = %x, %v, want %x, %v", r, s, is, want, isLetter(r))
	}
}

func TestTakeNone(t *testing.T) {
	for _, s := range severed() {
		if r, n, is := Take(s); r != 0 || n != 0 || is {
			t.Errorf("P5.2: Take(%x) = %d, %d, %v", s, r, n, is)
		}
	}
}

// Each byte at the head, alone and with any byte behind it.
func TestTakeTwoBytes(t *testing.T) {
	for a := range 256 {
		checkTake(t, string([]byte{byte(a)}))
		for b := range 256 {
			s := string([]byte{byte(a), byte(b)})
			checkTake(t, s)
			checkTake(t, s+"\x80")
			checkTake(t, s+"\x80\x80")
			checkTake(t, s+"\xbf\xbf\xbf")
		}
	}
}

// Each byte at the head, and behind it those next to the edges of what may be in each place.
func TestTakeFourBytes(t *testing.T) {
	next := []byte{0, 97, 127, 128, 129, 143, 144, 159, 160, 189, 190, 191, 192, 228, 237, 240, 255}
	for a := range 256 {
		for _, b := range next {
			for _, c := range next {
				checkTake(t, string([]byte{byte(a), b, c}))
				for _, d := range next {
					checkTake(t, string([]byte{byte(a), b, c, d}))
				}
			}
		}
	}
}

// Every byte in each place of a letter.
func TestTakeAnotherByte(t *testing.T) {
	for _, r := range edges() {
		s := form(r)
		for at := range len(s) {
			for c := range 256 {
				other := s[:at] + string([]byte{byte(c)}) + s[at+1:]
				checkTake(t, other)
				checkTake(t, other+"\x80\x80\x80")
				checkText(t, other)
				checkText(t, "a"+other+"\xc3\xa4")
			}
		}
	}
}

func TestTakeCutShort(t *testing.T) {
	for s, r := range forms {
		for at := 1; at < len(s); at++ {
			for _, part := range []string{s[:at], s[at:]} {
				if got, n, is := Take(part); got != 0 || n != 0 || is {
					t.Errorf("P5.2: Take(%x) = %d, %d, %v, a part of %d", part, got, n, is, r)
				}
				if Valid(part) {
					t.Errorf("P5.3: Valid(%x), a part of %d", part, r)
				}
			}
		}
	}
}

// Each number in more bytes than it needs, those of the gap, and those from 1114112 on, in so many bytes as they would have.
func TestTakeOtherForms(t *testing.T) {
	two := func(r int) string { return string([]byte{byte(192 + r/64), byte(128 + r%64)}) }
	three := func(r int) string {
		return string([]byte{byte(224 + r/4096), byte(128 + r/64%64), byte(128 + r%64)})
	}
	four := func(r int) string {
		return string([]byte{byte(240 + r/262144), byte(128 + r/4096%64), byte(128 + r/64%64), byte(128 + r%64)})
	}
	for r := range 128 {
		checkNone(t, two(r))
	}
	for r := range 2048 {
		checkNone(t, three(r))
		checkNone(t, three(55296+r))
	}
	for r := range 65536 {
		checkNone(t, four(r))
	}
	for r := 1114112; r < 1<<21; r++ {
		checkNone(t, four(r))
	}
}

func checkNone(t *testing.T, s string) {
	if r, n, is := Take(s + "\x80"); r != 0 || n != 0 || is {
		t.Errorf("P5.2: Take(%x) = %d, %d, %v", s+"\x80", r, n, is)
	}
	if l, is := Runes(s); len(l) != 0 || is || Valid(s) {
		t.Errorf("P5.3: Runes(%x) = %d, %v", s, l, is)
	}
}

func TestTakeAnyBytes(t *testing.T) {
	for s := range anyBytes(7, 100000) {
		checkTake(t, s)
	}
}

// checkTake holds Take against the letters' bytes looked up.
func checkTake(t *testing.T, s string) {
	r, n, is := Take(s)
	if letter, long, found := taken(s); r != letter || n != long || is != found {
		t.Errorf("P5.2: Take(%x) = %d, %d, %v, want %d, %d, %v", s, r, n, is, letter, long, found)
	}
	if is && s[:n] != form(r) {
		t.Errorf("P5.2: Take(%x) = %d, %d", s, r, n)
	}
}

// anyBytes gives texts in which letters, pieces of letters and any bytes stand one behind the other.
func anyBytes(seed int64, many int) func(yield func(string) bool) {
	rnd, some := rand.New(rand.NewSource(seed)), edges()
	piece := func() string {
		s := form(some[rnd.Intn(len(some))])
		switch rnd.Intn(12) {
		case 0:
			return string([]byte{byte(rnd.Intn(256))})
		case 1:
			return s[:rnd.Intn(len(s))]
		case 2:
			return s[rnd.Intn(len(s)):]
		}
		return s
	}
	return func(yield func(string) bool) {
		for range many {
			var b strings.Builder
			for range rnd.Intn(9) {
				b.WriteString(piece())
			}
			if !yield(b.String()) {
				return
			}
		}
	}
}

func TestTextWrittenOut(t *testing.T) {
	for _, c := range []struct {
		l []int
		s string
	}{
		{nil, ""}, {[]int{}, ""}, {[]int{0}, "\x00"}, {[]int{0, 0}, "\x00\x00"}, {[]int{97, 98, 99}, "abc"}, {[]int{228}, "\xc3\xa4"}, {[]int{97, 228, 8364, 128512}, "a\xc3\xa4\xe2\x82\xac\xf0\x9f\x98\x80"},
		{[]int{65533}, "\xef\xbf\xbd"}, {[]int{65533, 65533, 97}, "\xef\xbf\xbd\xef\xbf\xbda"}, {[]int{1114111, 0, 55295, 57344}, "\xf4\x8f\xbf\xbf\x00\xed\x9f\xbf\xee\x80\x80"}, {[]int{65279, 97}, "\xef\xbb\xbfa"},
	} {
		if s, is := Text(c.l...); s != c.s || !is {
			t.Errorf("P5.3: Text(%d) = %x, %v, want %x", c.l, s, is, c.s)
		}
		if l, is := Runes(c.s); !slices.Equal(l, c.l) || !is || !Valid(c.s) {
			t.Errorf("P5.3: Runes(%x) = %d, %v, want %d", c.s, l, is, c.l)
		}
	}
	if s, is := Text(); s != "" || !is {
		t.Errorf("P5.3: Text() = %x, %v", s, is)
	}
}

func TestValidWrittenOut(t *testing.T) {
	for s, want := range map[string]bool{
		"": true, "\x00": true, "abc": true, "k\xc3\xb6stlich": true, "\xef\xbf\xbd": true, "\xef\xbf\xbd\xef\xbf\xbd": true, "a\xef\xbf\xbdz": true, "\xed\x9f\xbf\xee\x80\x80": true, "\xf4\x8f\xbf\xbf": true,
		"\xff": false, "a\xff": false, "\xffa": false, "a\xffb": false, "k\xf6stlich": false, "\xef\xbf\xbd\xff": false, "\xff\xef\xbf\xbd": false, "\xef\xbf\xbd\xef\xbf": false, "\xef\xbf\xef\xbf\xbd": false, "\xef\xef\xbf\xbd": false, "\xef\xbf\xbd\xbd": false,
		"\xed\xbf\xbf": false, "\xed\xa0\xbd\xed\xb8\x80": false, "\xc0\x80": false, "\xc3": false, "\xa4\xc3": false, "\xf4\x90\x80\x80": false, "\xe2\x82\xe2\x82\xac": false,
	} {
		if l, is := Runes(s); Valid(s) != want || is != want || !want && len(l) != 0 {
			t.Errorf("P5.3: Valid(%x) = %v, Runes: %d, %v", s, Valid(s), l, is)
		}
	}
}

// What is no letter, in each place among letters.
func TestOneThatIsNone(t *testing.T) {
	for _, r := range strangers() {
		for at := range len(edges()) + 1 {
			l := slices.Insert(edges(), at, r)
			if s, is := Text(l...); s != "" || is {
				t.Errorf("P5.3: Text(%d) = %x, %v", l, s, is)
			}
		}
	}
	for _, none := range severed()[1:] {
		for at := range len(edges()) + 1 {
			front, _ := Text(edges()[:at]...)
			back, _ := Text(edges()[at:]...)
			s := front + none + back
			if l, is := Runes(s); len(l) != 0 || is || Valid(s) {
				t.Errorf("P5.3: Runes(%x) = %d, %v", s, l, is)
			}
		}
	}
}

func TestTextAnyBytes(t *testing.T) {
	for s := range anyBytes(8, 100000) {
		checkText(t, s)
	}
}

// checkText holds Runes and Valid against the letters' bytes looked up, and against the library.
func checkText(t *testing.T, s string) {
	want, valid := letters(s)
	l, is := Runes(s)
	if !slices.Equal(l, want) || is != valid {
		t.Errorf("P5.3: Runes(%x) = %d, %v, want %d, %v", s, l, is, want, valid)
	}
	if Valid(s) != valid || valid != utf8.ValidString(s) {
		t.Errorf("P5.3: Valid(%x) = %v", s, Valid(s))
	}
	if again, put := Text(l...); is && (again != s || !put) {
		t.Errorf("P5.3: Runes(%x) = %d, of which the Text is %x", s, l, again)
	}
}

func TestManyLetters(t *testing.T) {
	var l []int
	var want strings.Builder
	for r := range 1114112 {
		if isLetter(r) {
			l = append(l, r)
			want.WriteString(form(r))
		}
	}
	s, is := Text(l...)
	if s != want.String() || !is {
		t.Fatalf("P5.3: Text of every letter: %d bytes, %v, want %d", len(s), is, want.Len())
	}
	if again, is := Runes(s); !slices.Equal(again, l) || !is || !Valid(s) {
		t.Errorf("P5.3: Runes of every letter: %d of %d, %v", len(again), len(l), is)
	}
	for _, other := range []string{"\xff" + s, s + "\xff", s[1:] + "\xf4", s[:len(s)-1], s[:1000] + "\xbf" + s[1000:]} {
		if l, is := Runes(other); len(l) != 0 || is || Valid(other) {
			t.Errorf("P5.3: Runes of every letter, and a byte that is none: %d, %v", len(l), is)
		}
	}
}

// What is written into lists, handed in or told, changes no text and no later answer; and a call leaves its list as it was.
func TestListsAreTheCallers(t *testing.T) {
	l := edges()
	s, _ := Text(l...)
	if !slices.Equal(l, edges()) {
		t.Errorf("R5: Text changed its list to %d", l)
	}
	clear(l)
	a, _ := Runes(s)
	clear(a)
	if b, _ := Runes(s); !slices.Equal(b, edges()) {
		t.Errorf("R6: Runes(%x) = %d, once what it told was written into", s, b)
	}
}

func TestWhatWasPutIsTaken(t *testing.T) {
	for r := range 1114112 {
		s, is := Put(r)
		if is != isLetter(r) {
			t.Fatalf("P5.1: Put(%d) = %x, %v", r, s, is)
		}
		if !is {
			continue
		}
		for _, b := range behind {
			if got, n, is := Take(s + b); got != r || n != len(s) || !is {
				t.Errorf("P5.4: Take(%x) = %d, %d, %v, want %d", s+b, got, n, is, r)
			}
		}
	}
}

func TestOneBehindTheOther(t *testing.T) {
	texts := []string{"", "abc", "\xef\xbf\xbd"}
	for _, r := range edges() {
		texts = append(texts, form(r), form(r)+"a", "a"+form(r), form(r)+form(128512))
	}
	for _, a := range texts {
		for _, b := range texts {
			checkBehind(t, a, b)
		}
	}
	was := ""
	for s := range anyBytes(9, 20000) {
		checkBehind(t, was, s)
		was = s
	}
}

// checkBehind looks whether the letters of two texts, one behind the other, are those of both.
func checkBehind(t *testing.T, a, b string) {
	l, first := Runes(a)
	m, second := Runes(b)
	both, is := Runes(a + b)
	if first && second && (!is || !Valid(a+b) || !slices.Equal(both, slices.Concat(l, m))) {
		t.Errorf("P5.4: Runes(%x, and %x behind it) = %d, %v", a, b, both, is)
	}
	if first && !second && is {
		t.Errorf("P5.3: Runes(%x, and %x behind it) = %d: no letters are behind the first ones", a, b, both)
	}
	if s, put := Text(slices.Concat(l, m)...); first && second && (s != a+b || !put) {
		t.Errorf("P5.4: Text(%d, and %d behind them) = %x", l, m, s)
	}
}

func TestLesserLetterLesserBytes(t *testing.T) {
	was := ""
	for r := range 1114112 {
		s, is := Put(r)
		if is && s <= was {
			t.Errorf("P5.4: Put(%d) = %x, and the one ahead is %x", r, s, was)
		}
		if is {
			was = s
		}
	}
	for _, a := range edges() {
		for _, b := range edges() {
			x, _ := Put(a)
			y, _ := Put(b)
			if (x < y) != (a < b) {
				t.Errorf("P5.4: Put(%d) = %x, Put(%d) = %x", a, x, b, y)
			}
		}
	}
}

// The gap is just what pairs of UTF-16 are made of: the library agrees on which numbers are letters.
func TestTheGap(t *testing.T) {
	for r := range 65536 {
		if _, is := Put(r); is == utf16.IsSurrogate(rune(r)) {
			t.Errorf("P5.1: Put(%d): %v", r, is)
		}
	}
}

func FuzzText(f *testing.F) {
	f.Add("a\xc3\xa4\xf0\x9f\x98\x80", "\xef\xbf\xbd", 228)
	f.Add("\xed\xa0\x80", "\xc3", 1<<32+97)
	f.Fuzz(func(t *testing.T, a, b string, r int) {
		checkTake(t, a)
		checkText(t, a)
		checkBehind(t, a, b)
		checkPut(t, r)
	})
}
