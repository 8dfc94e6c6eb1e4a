package date

import (
	"fmt"
	"math"
	"math/rand"
	"regexp"
	"slices"
	"strconv"
	"strings"
	"testing"
	"time"

	"cracknel/api"
	"cracknel/civil"
)

const (
	imfForm = "Mon, 02 Jan 2006 15:04:05 GMT"
	isoForm = "2006-01-02T15:04:05Z"
	// example is a date, and when it is.
	example = "Sun, 06 Nov 1994 08:49:37 GMT"
	when    = 784111777
)

var (
	betweenWords = regexp.MustCompile(`[\x09\x20-\x2f\x3b-\x40\x5b-\x60\x7b-\x7e]+`)
	timeForm     = regexp.MustCompile(`^([0-9]{1,2}):([0-9]{1,2}):([0-9]{1,2})($|[^0-9])`)
	dayForm      = regexp.MustCompile(`^([0-9]{1,2})($|[^0-9])`)
	monthForm    = regexp.MustCompile(`^(?i:jan|feb|mar|apr|may|jun|jul|aug|sep|oct|nov|dec)`)
	yearForm     = regexp.MustCompile(`^([0-9]{2,4})($|[^0-9])`)
	monthNames   = []string{"jan", "feb", "mar", "apr", "may", "jun", "jul", "aug", "sep", "oct", "nov", "dec"}
)

// number is what digits come to.
func number(s string) int {
	n, err := strconv.Atoi(s)
	if err != nil {
		panic(err)
	}
	return n
}

// cookieOf is Cookie by the chapter's words: by forms of the library's, one of each kind kept.
func cookieOf(s string) (int, bool) {
	var clock, day, month, year []string
	for _, word := range betweenWords.Split(s, -1) {
		asTime, asDay, asMonth, asYear := timeForm.FindStringSubmatch(word), dayForm.FindStringSubmatch(word), monthForm.FindStringSubmatch(word), yearForm.FindStringSubmatch(word)
		switch {
		case clock == nil && asTime != nil:
			clock = asTime
		case day == nil && asDay != nil:
			day = asDay
		case month == nil && asMonth != nil:
			month = asMonth
		case year == nil && asYear != nil:
			year = asYear
		}
	}
	if clock == nil || day == nil || month == nil || year == nil {
		return 0, false
	}
	y := number(year[1])
	if y >= 70 && y <= 99 {
		y += 1900
	} else if y <= 69 {
		y += 2000
	}
	return unixOf(y, 1+slices.Index(monthNames, strings.ToLower(month[0])), number(day[1]), number(clock[1]), number(clock[2]), number(clock[3]))
}

// unixOf is the time of a clock from 1601 on by the library's dates, which carry what is beyond a day or a month over.
func unixOf(year, month, day, hour, minute, second int) (int, bool) {
	u := time.Date(year, time.Month(month), day, hour, minute, second, 0, time.UTC)
	if year < 1601 || u.Year() != year || int(u.Month()) != month || u.Day() != day || u.Hour() != hour || u.Minute() != minute || u.Second() != second {
		return 0, false
	}
	return int(u.Unix()), true
}

// formOf is Imf or Iso by the library's forms.
func formOf(t int, form string) (string, bool) {
	if t < 0 || t > api.MaxTime {
		return "", false
	}
	return time.Unix(int64(t), 0).UTC().Format(form), true
}

// unisoOf is Uniso by the library's forms.
func unisoOf(s string) (int, bool) {
	u, err := time.Parse(isoForm, s)
	if err != nil || u.Unix() < 0 || u.Format(isoForm) != s {
		return 0, false
	}
	return int(u.Unix()), true
}

// checkCookie holds Cookie of one text against the chapter's words.
func checkCookie(t *testing.T, s string) {
	t.Helper()
	want, may := cookieOf(s)
	if got, is := Cookie(s); got != want || is != may {
		t.Errorf("P10.1: Cookie(%q): %d %v, not %d %v", s, got, is, want, may)
	}
}

// checkUniso holds Uniso of one text against the library.
func checkUniso(t *testing.T, s string) {
	t.Helper()
	want, may := unisoOf(s)
	if got, is := Uniso(s); got != want || is != may {
		t.Errorf("P10.3: Uniso(%q): %d %v, not %d %v", s, got, is, want, may)
	}
}

// checkTime holds what is written of one time against the library, and has it read.
func checkTime(t *testing.T, n int) {
	t.Helper()
	imf, may := formOf(n, imfForm)
	if got, is := Imf(n); got != imf || is != may {
		t.Errorf("P10.2: Imf(%d): %q %v, not %q %v", n, got, is, imf, may)
	}
	iso, _ := formOf(n, isoForm)
	if got, is := Iso(n); got != iso || is != may {
		t.Errorf("P10.3: Iso(%d): %q %v, not %q %v", n, got, is, iso, may)
	}
	if !may {
		return
	}
	if got, is := Uniso(iso); got != n || !is {
		t.Errorf("P10.3: Uniso(%q): %d %v, not %d", iso, got, is, n)
	}
	if got, is := Cookie(imf); got != n || !is {
		t.Errorf("P10.4: Cookie(%q): %d %v, not %d", imf, got, is, n)
	}
}

// checkAll holds Cookie of the texts against the one answer.
func checkAll(t *testing.T, n int, is bool, texts ...string) {
	t.Helper()
	for _, s := range texts {
		if got, was := Cookie(s); got != n || was != is {
			t.Errorf("P10.1: Cookie(%q): %d %v, not %d %v", s, got, was, n, is)
		}
		checkCookie(t, s)
	}
}

// isParting is the chapter's list of parting bytes.
func isParting(c byte) bool {
	return strings.IndexByte("\t !\"#$%&'()*+,-./;<=>?@[\\]^_`{|}~", c) >= 0
}

// times are times of all kinds that may be written.
func times() []int {
	l := []int{0, 1, 59, 60, 3599, 3600, 86399, 86400, 86401, when, 1794830400, 951782399, 951782400, 951868799, 951868800, 1<<31 - 1, 1 << 31, 1<<32 - 1, 1 << 32, api.MaxTime, api.MaxTime - 1, api.MaxTime - 86399, api.MaxTime - 86400}
	for year := 1970; year <= 9999; year++ {
		begin := int(time.Date(year, 1, 1, 0, 0, 0, 0, time.UTC).Unix())
		l = append(l, begin, begin+58*86400+86399, begin+59*86400)
		if begin > 0 {
			l = append(l, begin-1)
		}
	}
	for days := range 800 {
		l = append(l, days*86400, days*86400+86399, (10957+days)*86400+days*100)
	}
	r := rand.New(rand.NewSource(20))
	for range 20000 {
		l = append(l, r.Intn(api.MaxTime+1), r.Intn(1<<32))
	}
	return l
}

func TestExamples(t *testing.T) {
	checkAll(t, when, true, example, "08:49:37 6-nov-94")
	if n, is := Uniso("2026-11-16T12:00:00Z"); n != 1794830400 || !is {
		t.Errorf("P10.3: Uniso: %d %v", n, is)
	}
	checkAll(t, 0, false, "2026-11-16T12:00:00Z")
}

func TestCookieWrittenOut(t *testing.T) {
	for s, n := range map[string]int{
		"Sunday, 06-Nov-94 08:49:37 GMT":        when,
		"Sun Nov  6 08:49:37 1994":              when,
		"1 jan 70 0:0:0":                        0,
		"01 Jan 1970 00:00:01":                  1,
		"31 Dec 1969 23:59:59":                  -1,
		"1 jan 1601 00:00:00":                   -11644473600,
		"31 dec 9999 23:59:59":                  253402300799,
		"29 feb 2000 00:00:00":                  951782400,
		"1 mar 2000 00:00:00":                   951868800,
		"29 feb 2004 12:00:00":                  1078056000,
		"29 feb 72 00:00:00":                    68169600,
		"16 nov 26 12:00:00":                    1794830400,
		"Nov/16/2026;12:00:00":                  1794830400,
		"12:00:00 nov 2026 16":                  1794830400,
		"2026 12:00:00 16 nov":                  1794830400,
		"nov 12:00:00 2026 16 17 2027 13:00:00": 1794830400,
	} {
		checkAll(t, n, true, s)
	}
}

func TestCookieOfNone(t *testing.T) {
	checkAll(t, 0, false, "", " ", "\t", ",;- /", "\x00", "\xff", ":", "::", "0", "a", "GMT",
		"Sun, 06 Nov 1994", "Nov 1994 08:49:37", "06 1994 08:49:37", "06 Nov 08:49:37", "06", "Nov", "1994", "08:49:37",
		"06Nov1994 08:49:37", "06 Nov1994 08:49:37", "Nov 06 199408:49:37", "06:Nov:1994:08:49:37", "06\nNov\n1994\n08:49:37")
}

func TestPartingBytes(t *testing.T) {
	for b := range 256 {
		c := byte(b)
		if parting(c) != isParting(c) {
			t.Errorf("P10.1: parting(%d): %v", b, parting(c))
		}
		between := string([]byte{'2', '0', c, 'n', 'o', 'v', c, '9', '4', c, '0', '8', ':', '4', '9', ':', '3', '7'})
		if n, is := Cookie(between); is != isParting(c) || is && n != when+14*86400 {
			t.Errorf("P10.1: Cookie(%q): %d %v", between, n, is)
		}
		one := string([]byte{c})
		rest := "nov 94 08:49:37"
		// What is behind a day's digits is of no account, but for a digit; ahead of them, it is the word's beginning.
		if c < '0' || c > '9' {
			checkAll(t, when+14*86400, true, "20"+one+" "+rest)
		}
		// A digit ahead of 20 makes three of them: the year, and 94 the day.
		if n, is := Cookie(one + "20 " + rest); is != isParting(c) || is && n != when+14*86400 {
			t.Errorf("P10.1: Cookie(%q): %d %v", one+"20 "+rest, n, is)
		}
		for _, s := range []string{
			example + one, one + example, "6" + one + "nov 94 08:49:37", "6 nov" + one + "94 08:49:37", "6 nov 94" + one + "08:49:37",
			"08:49:37" + one + "6 nov 94", "08:49:37" + one + "nov 6 94", "nov" + one + "6 94 08:49:37", "nov" + one + "08:49:37 6 94",
			"08" + one + "49:37 6 nov 94", "08:49" + one + "37 6 nov 94", "08:49:3" + one + "7 6 nov 94", "0" + one + "8:49:37 6 nov 94",
			"08:49:37 6 n" + one + "ov 94", "08:49:37 6 no" + one + "v 94", "08:49:37 6 nov 9" + one + "4", "08:49:37 6 nov 94" + one, one + "08:49:37 6 nov 94",
			one + one + "08:49:37" + one + one + "6" + one + one + "nov" + one + one + "94" + one + one,
		} {
			checkCookie(t, s)
		}
	}
}

func TestWords(t *testing.T) {
	for s, want := range map[string][]string{
		"": nil, " ": nil, "a": {"a"}, " a": {"a"}, "a ": {"a"}, "a b": {"a", "b"}, ",a,,b\t\tc,": {"a", "b", "c"},
		"0:0:0-\x00\n\r": {"0:0:0", "\x00\n\r"}, "\x7f\xff": {"\x7f\xff"},
	} {
		if got := slices.Collect(words(s)); !slices.Equal(got, want) {
			t.Errorf("P10.1: the words of %q: %q", s, got)
		}
	}
	for word := range words("a b c") {
		if word != "a" {
			t.Errorf("P10.1: went on to %q", word)
		}
		break
	}
}

// orders gives the words in each order.
func orders(l []string) [][]string {
	if len(l) == 0 {
		return [][]string{nil}
	}
	var all [][]string
	for i := range l {
		for _, rest := range orders(slices.Concat(l[:i], l[i+1:])) {
			all = append(all, append([]string{l[i]}, rest...))
		}
	}
	return all
}

func TestFourInEachOrder(t *testing.T) {
	for _, l := range orders([]string{"08:49:37", "6", "nov", "1994"}) {
		checkAll(t, when, true, strings.Join(l, " "), strings.Join(l, " x "), "x "+strings.Join(l, "; gmt, 00000 x1 :: ")+" 12345")
		for i := range l {
			checkAll(t, 0, false, strings.Join(slices.Concat(l[:i], l[i+1:]), " "))
		}
	}
	// Two digits may be the day and the year: the first ones are the day.
	for _, l := range orders([]string{"08:49:37", "06", "nov", "05"}) {
		n := 1131266977 // 2005-11-06
		if slices.Index(l, "05") < slices.Index(l, "06") {
			n = 1162716577 // 2006-11-05
		}
		checkAll(t, n, true, strings.Join(l, " "))
	}
}

func TestFirstOneCounts(t *testing.T) {
	checkAll(t, when, true,
		"08:49:37 6 nov 1994 7 dec 1995 09:50:38", "08:49:37 6 7 nov 1994", "08:49:37 6 nov dec 1994", "08:49:37 6 nov 1994 1995",
		"6 08:49:37 9:50:38 nov 1994", "6 7 8 08:49:37 nov 1994", "nov 1994 1995 6 08:49:37", "nov nov nov 6 1994 08:49:37")
	// A second time is a day, if there was none, and then a year, if it begins with two digits.
	checkAll(t, 947586030, true, "10:20:30 11:00:00 jan 2000 1", "10:20:30 11:00:00 jan 2000 12:00:00", "10:20:30 11:00 jan 2000")
	checkAll(t, 1294741230, true, "10:20:30 11:00:00 11:00:00 jan 2000", "10:20:30 11x 11y jan 2000", "10:20:30 11 11:00:00 jan")
	checkAll(t, 1257497377, true, "6 08:49:37 09:50:38 nov 1994")
	checkAll(t, 0, false, "10:20:30 1:00:00 1:00:00 jan", "10:20:30 11:00:00 1:00:00 jan")
	// A month's word is of no account where there was one, and one that begins with digits is no month.
	checkAll(t, when, true, "08:49:37 nov 6jan 1994", "08:49:37 nov 6 jan 1994feb")
	checkAll(t, 0, false, "08:49:37 6nov 1994", "08:49:37 6 94nov")
	// A word of three or four digits, as one of one digit, may be but one of them.
	checkAll(t, when, true, "1994 6 7 nov 8 08:49:37 9", "1994 1995 6 nov 08:49:37")
	checkAll(t, 0, false, "6 7 nov 08:49:37", "1994 1995 nov 08:49:37", "94 95 96 nov", "6 nov 8 08:49:37 9")
}

func TestTimeForms(t *testing.T) {
	const day = 784080000 // 1994-11-06
	for s, n := range map[string]int{
		"08:49:37": when, "8:49:37": when, "8:49:37:": when, "8:49:37:00": when, "08:49:37x": when, "08:49:37\x00": when, "08:49:37\xff": when, "08:49:37:5": when, "08:49:37T": when, "08:49:37\x7f": when, "08:49:37\n": when,
		"0:0:0": day, "00:00:00": day, "0:00:0": day, "00:0:00": day, "0:0:1": day + 1, "0:0:01": day + 1, "0:0:9": day + 9, "0:0:10": day + 10, "0:1:0": day + 60, "0:01:0": day + 60, "0:10:0": day + 600, "1:0:0": day + 3600, "10:0:0": day + 36000,
		"23:59:59": day + 86399, "23:0:0": day + 82800, "0:59:0": day + 3540, "0:0:59": day + 59,
	} {
		checkAll(t, n, true, s+" 6 nov 94", "6 "+s+" nov 94", "6 nov "+s+" 94", "6 nov 94 "+s)
	}
	for _, s := range []string{
		"", "8", "08", "8:49", "08:49", "8:49:", ":49:37", "8::37", "::", "8:49:x", "x8:49:37", "8x:49:37", "8:49x:37", "8:x49:37", "8:49:x37", "8;49:37", "8:49;37", "8:49.37", "8-49-37", "8:49-37", "084937", "8h49:37", "8:49 37", "8 49 37",
		"008:49:37", "008:049:037", "8:049:37", "8:49:037", "8:49:370", "8:49:0037", "08:49:3700", "123:4:5", "1:234:5", "1:2:345",
		"24:00:00", "24:0:0", "25:0:0", "99:0:0", "0:60:0", "0:61:0", "0:99:0", "0:0:60", "0:0:61", "0:0:99", "24:60:60", "8:+49:37", "8:-49:37", "8:49:+37",
	} {
		checkAll(t, 0, false, "6 nov 94 "+s, "6 "+s+" nov 94")
	}
}

func TestTimeHasNoSign(t *testing.T) {
	// Signs are parting bytes, and the time begins behind them.
	checkAll(t, when, true, "6 nov 94 +8:49:37", "6 nov 94 -8:49:37", "-6 +nov -1994 --8:49:37")
}

func TestEveryTime(t *testing.T) {
	for hour := range 101 {
		for minute := range 101 {
			for _, second := range []int{0, 1, 9, 10, 37, 59, 60, 61, 99, 100} {
				checkCookie(t, fmt.Sprintf("%d:%d:%d 6 nov 1994", hour, minute, second))
				checkCookie(t, fmt.Sprintf("6 nov 1994 %02d:%02d:%02d", hour, minute, second))
			}
		}
	}
}

func TestNumberThatIsNone(t *testing.T) {
	// Its form makes it the time, the day or the year; another one behind it is not asked.
	checkAll(t, 0, false, "24:00:00 08:49:37 6 nov 1994", "0:60:0 08:49:37 6 nov 1994", "0:0:60 6 nov 1994 08:49:37",
		"08:49:37 0 6 nov 1994", "08:49:37 32 6 nov 1994", "08:49:37 31 6 nov 1994", "08:49:37 99 nov 1994 6", "08:49:37 00 6 nov 1994",
		"08:49:37 6 nov 1600 1994", "08:49:37 6 nov 100 1994", "08:49:37 6 nov 0100 94", "94 6 nov 08:49:37", "94 nov 6 08:49:37 1994",
		"30 feb 1994 08:49:37 6 nov")
}

func TestDayForms(t *testing.T) {
	for s, n := range map[string]int{
		"1": 1, "01": 1, "6": 6, "06": 6, "9": 9, "09": 9, "10": 10, "29": 29, "30": 30, "6th": 6, "06th": 6, "1st": 1, "6x7": 6, "6:": 6, "6:7": 6, "06:07": 6, "6:7:": 6, "6\x00": 6, "6\xff": 6, "30nov": 30,
	} {
		checkAll(t, when+(n-6)*86400, true, s+" nov 94 08:49:37", "nov 1994 08:49:37 "+s, "08:49:37 nov "+s+" 94", s+" 94 nov 08:49:37", "nov 1994 "+s+" 08:49:37")
	}
	for _, s := range []string{"", "0", "00", "31", "32", "99", "006", "100", "060", "6000", "60000", "x6", ":6", "nov6", "-", "31st", "000000000000000000000000006"} {
		checkAll(t, 0, false, s+" nov 1994 08:49:37", "nov 1994 08:49:37 "+s)
	}
	for month := 1; month <= 12; month++ {
		for _, year := range []int{1994, 1996, 1900, 2000, 2100} {
			for day := range 101 {
				checkCookie(t, fmt.Sprintf("%d %s %d 1:2:3", day, monthNames[month-1], year))
				checkCookie(t, fmt.Sprintf("1:2:3 %02d %s %d", day, monthNames[month-1], year))
			}
		}
	}
}

func TestMonthForms(t *testing.T) {
	begins := [12]int{757382400, 760060800, 762480000, 765158400, 767750400, 770428800, 773020800, 775699200, 778377600, 780969600, 783648000, 786240000}
	for i, name := range []string{"January", "February", "March", "April", "May", "June", "July", "August", "September", "October", "November", "December"} {
		short := name[:3]
		great, small := strings.ToUpper(short), strings.ToLower(short)
		for _, s := range []string{name, short, great, small, small[:1] + great[1:], small[:2] + great[2:], great[:2] + small[2:], small[:1] + great[1:2] + small[2:], great[:1] + small[1:2] + great[2:], small + "x", small + "1", small + ":", small + "\x00", small + "\xff", small + "1994", strings.ToUpper(name)} {
			checkAll(t, begins[i], true, "1 "+s+" 1994 0:0:0", s+" 1 1994 0:0:0", "1 1994 0:0:0 "+s)
		}
		for _, s := range []string{"", small[:1], small[:2], great[:2], small[1:], "x" + small, small[:2] + "x", "x" + small[1:], small[:1] + "\x00" + small[2:], small[:2] + " " + small[2:], small[:1] + "-" + small[1:], ":" + small, "\xff" + small, "1" + small} {
			checkAll(t, 0, false, "1 "+s+" 1994 0:0:0", s+" 1 1994 0:0:0")
		}
		for at := range 3 {
			for b := range 256 {
				s := small[:at] + string([]byte{byte(b)}) + small[at+1:]
				checkCookie(t, "1 "+s+" 1994 0:0:0")
			}
		}
	}
	// Letters of more than a byte are none, though some of them have these as their small ones.
	checkAll(t, 0, false, "1 \u212aan 1994 0:0:0", "1 \u017fep 1994 0:0:0", "1 m\u00e4r 1994 0:0:0", "1 d\u00e9c 1994 0:0:0", "1 jän 1994 0:0:0", "1 gmt 1994 0:0:0", "1 11 1994 0:0:0", "1 sun 1994 0:0:0")
}

func TestEveryThreeLetters(t *testing.T) {
	for a := byte('a'); a <= 'z'; a++ {
		for b := byte('A'); b <= 'Z'; b++ {
			for c := byte('a'); c <= 'z'; c++ {
				checkCookie(t, "1 "+string([]byte{a, b, c})+" 1994 0:0:0")
			}
		}
	}
}

func TestYearForms(t *testing.T) {
	for s, year := range map[string]int{
		"00": 2000, "01": 2001, "09": 2009, "10": 2010, "26": 2026, "68": 2068, "69": 2069, "70": 1970, "71": 1971, "94": 1994, "98": 1998, "99": 1999,
		"000": 2000, "0000": 2000, "001": 2001, "069": 2069, "0069": 2069, "070": 1970, "0070": 1970, "099": 1999, "0099": 1999,
		"1601": 1601, "1602": 1602, "1700": 1700, "1900": 1900, "1969": 1969, "1970": 1970, "2000": 2000, "9998": 9998, "9999": 9999,
		"94x": 1994, "1994x": 1994, "94:": 1994, "1994:5": 1994, "1994\x00": 1994, "1994\xff": 1994, "94th": 1994, "1994x5": 1994, "94:00": 1994, "94:00:": 1994,
	} {
		n := int(time.Date(year, 11, 6, 8, 49, 37, 0, time.UTC).Unix())
		checkAll(t, n, true, "6 nov "+s+" 08:49:37", "08:49:37 6 nov "+s, "08:49:37 6 "+s+" nov")
	}
	for _, s := range []string{"", "0", "4", "9", "4x", "100", "0100", "101", "999", "0999", "1000", "1582", "1599", "1600", "01601", "01994", "19940", "99999", "100000", "x94", ":94", "-", "nov94", "000000000000000000001994", "19941994199419941994"} {
		checkAll(t, 0, false, "08:49:37 6 nov "+s, "08:49:37 6 "+s+" nov")
	}
}

func TestEveryYear(t *testing.T) {
	for year := range 10100 {
		for _, day := range []string{"28 feb", "29 feb", "30 feb", "1 mar", "31 dec"} {
			checkCookie(t, fmt.Sprintf("0:0:0 %s %d", day, year))
			checkCookie(t, fmt.Sprintf("23:59:59 %s %04d", day, year))
		}
	}
	for year := range 100 {
		checkCookie(t, fmt.Sprintf("29 feb %02d 0:0:0", year))
		checkCookie(t, fmt.Sprintf("29 feb %03d 0:0:0", year))
	}
}

func TestFebruary29(t *testing.T) {
	for year, n := range map[int]int{1604: -11544768000, 1972: 68169600, 1996: 825552000, 2000: 951782400, 2024: 1709164800, 2096: 3981312000, 2400: 13574563200, 9996: 253281168000} {
		checkAll(t, n, true, fmt.Sprintf("29 feb %d 0:0:0", year))
	}
	for _, year := range []int{1601, 1602, 1603, 1700, 1800, 1900, 1970, 1994, 1999, 2001, 2100, 2200, 2300, 9900, 9999} {
		checkAll(t, 0, false, fmt.Sprintf("29 feb %d 0:0:0", year))
	}
}

func TestEachByteOfExamples(t *testing.T) {
	for _, s := range []string{example, "08:49:37 6-nov-94", "6 nov 08:49:37x 1994 94", "11:12:13 10:11:12 13 dec 14"} {
		for at := range len(s) {
			checkCookie(t, s[:at])
			checkCookie(t, s[at:])
			checkCookie(t, s[:at]+s[at+1:])
			for b := range 256 {
				one := string([]byte{byte(b)})
				checkCookie(t, s[:at]+one+s[at+1:])
				checkCookie(t, s[:at]+one+s[at:])
			}
		}
	}
}

func TestCookieOfAnyWords(t *testing.T) {
	pieces := []string{
		"08:49:37", "8:9:7", "23:59:59", "24:00:00", "1:2:3:4", "1:2", "1:2:", "1:2:345", "10:20:30x", "6", "06", "6th", "0", "31", "32", "nov", "Feb", "DECember", "ja", "no", "jan1",
		"94", "1994", "69", "70", "2000", "100", "1601", "1600", "9999", "19944", "000", "00", "12x", "123x", "GMT", "x", ":", "Sun", "\x00", "\xff", "29", "30",
	}
	parts := []string{" ", ",", "-", "\t", ", ", ";", "--", "~", "/", "", ":", "\n", "T", "0"}
	r := rand.New(rand.NewSource(21))
	found := 0
	for range 120000 {
		var s strings.Builder
		for range 2 + r.Intn(7) {
			s.WriteString(pieces[r.Intn(len(pieces))])
			if r.Intn(8) == 0 {
				s.WriteString(parts[r.Intn(len(parts))])
			} else {
				s.WriteString(parts[r.Intn(9)])
			}
		}
		checkCookie(t, s.String())
		if _, is := Cookie(s.String()); is {
			found++
		}
	}
	if found < 1000 {
		t.Errorf("but %d of these texts are dates", found)
	}
}

func TestCookieOfShortTexts(t *testing.T) {
	// Of the five parts of account, each of up to nine ones; a third of the date stands ahead.
	parts := []string{"1", ":", " ", "a", "nov "}
	for _, ahead := range []string{"6 nov ", "nov 94 ", "1:2:3 "} {
		var grow func(s string, left int)
		grow = func(s string, left int) {
			checkCookie(t, ahead+s)
			if left == 0 {
				return
			}
			for _, p := range parts {
				grow(s+p, left-1)
			}
		}
		grow("", 7)
	}
}

func TestLongTexts(t *testing.T) {
	long := 1 << 16
	checkAll(t, when, true, strings.Repeat(" ", long)+example, example+strings.Repeat(" ", long), strings.Repeat("x ", long)+example, example+strings.Repeat(" 08:49:37", long), "6"+strings.Repeat("x", long)+" nov"+strings.Repeat("0", long)+" 1994"+strings.Repeat(":", long)+" 08:49:37"+strings.Repeat("y", long), strings.Repeat("0", long)+" "+example)
	checkAll(t, 0, false, strings.Repeat("0", long), strings.Repeat("0:", long), strings.Repeat("x", long)+"6 nov 94"+strings.Repeat("x", long)+"08:49:37", strings.Repeat("6 ", long), "08:49:37"+strings.Repeat("0", long)+" 6 nov 1994", "08:49:37 "+strings.Repeat("0", long)+"6 nov 1994")
}

func TestWrittenOut(t *testing.T) {
	for n, s := range map[int][2]string{
		0:               {"Thu, 01 Jan 1970 00:00:00 GMT", "1970-01-01T00:00:00Z"},
		1:               {"Thu, 01 Jan 1970 00:00:01 GMT", "1970-01-01T00:00:01Z"},
		86399:           {"Thu, 01 Jan 1970 23:59:59 GMT", "1970-01-01T23:59:59Z"},
		86400:           {"Fri, 02 Jan 1970 00:00:00 GMT", "1970-01-02T00:00:00Z"},
		172800:          {"Sat, 03 Jan 1970 00:00:00 GMT", "1970-01-03T00:00:00Z"},
		259200:          {"Sun, 04 Jan 1970 00:00:00 GMT", "1970-01-04T00:00:00Z"},
		345600:          {"Mon, 05 Jan 1970 00:00:00 GMT", "1970-01-05T00:00:00Z"},
		432000:          {"Tue, 06 Jan 1970 00:00:00 GMT", "1970-01-06T00:00:00Z"},
		518400:          {"Wed, 07 Jan 1970 00:00:00 GMT", "1970-01-07T00:00:00Z"},
		757382400:       {"Sat, 01 Jan 1994 00:00:00 GMT", "1994-01-01T00:00:00Z"},
		760060800:       {"Tue, 01 Feb 1994 00:00:00 GMT", "1994-02-01T00:00:00Z"},
		762480000:       {"Tue, 01 Mar 1994 00:00:00 GMT", "1994-03-01T00:00:00Z"},
		765158400:       {"Fri, 01 Apr 1994 00:00:00 GMT", "1994-04-01T00:00:00Z"},
		767750400:       {"Sun, 01 May 1994 00:00:00 GMT", "1994-05-01T00:00:00Z"},
		770428800:       {"Wed, 01 Jun 1994 00:00:00 GMT", "1994-06-01T00:00:00Z"},
		773020800:       {"Fri, 01 Jul 1994 00:00:00 GMT", "1994-07-01T00:00:00Z"},
		775699200:       {"Mon, 01 Aug 1994 00:00:00 GMT", "1994-08-01T00:00:00Z"},
		778377600:       {"Thu, 01 Sep 1994 00:00:00 GMT", "1994-09-01T00:00:00Z"},
		780969600:       {"Sat, 01 Oct 1994 00:00:00 GMT", "1994-10-01T00:00:00Z"},
		783648000:       {"Tue, 01 Nov 1994 00:00:00 GMT", "1994-11-01T00:00:00Z"},
		786240000:       {"Thu, 01 Dec 1994 00:00:00 GMT", "1994-12-01T00:00:00Z"},
		788918399:       {"Sat, 31 Dec 1994 23:59:59 GMT", "1994-12-31T23:59:59Z"},
		788918400:       {"Sun, 01 Jan 1995 00:00:00 GMT", "1995-01-01T00:00:00Z"},
		when:            {example, "1994-11-06T08:49:37Z"},
		951782400:       {"Tue, 29 Feb 2000 00:00:00 GMT", "2000-02-29T00:00:00Z"},
		951868799:       {"Tue, 29 Feb 2000 23:59:59 GMT", "2000-02-29T23:59:59Z"},
		951868800:       {"Wed, 01 Mar 2000 00:00:00 GMT", "2000-03-01T00:00:00Z"},
		1794830400:      {"Mon, 16 Nov 2026 12:00:00 GMT", "2026-11-16T12:00:00Z"},
		4107542399:      {"Sun, 28 Feb 2100 23:59:59 GMT", "2100-02-28T23:59:59Z"},
		4107542400:      {"Mon, 01 Mar 2100 00:00:00 GMT", "2100-03-01T00:00:00Z"},
		api.MaxTime:     {"Fri, 31 Dec 9999 23:59:59 GMT", "9999-12-31T23:59:59Z"},
		api.MaxTime - 1: {"Fri, 31 Dec 9999 23:59:58 GMT", "9999-12-31T23:59:58Z"},
	} {
		if got, is := Imf(n); got != s[0] || !is {
			t.Errorf("P10.2: Imf(%d): %q %v, not %q", n, got, is, s[0])
		}
		if got, is := Iso(n); got != s[1] || !is {
			t.Errorf("P10.3: Iso(%d): %q %v, not %q", n, got, is, s[1])
		}
		if got, is := Uniso(s[1]); got != n || !is {
			t.Errorf("P10.3: Uniso(%q): %d %v, not %d", s[1], got, is, n)
		}
		if got, is := Cookie(s[0]); got != n || !is {
			t.Errorf("P10.4: Cookie(%q): %d %v, not %d", s[0], got, is, n)
		}
	}
}

func TestNoTime(t *testing.T) {
	for _, n := range []int{-1, -2, -60, -86399, -86400, -86401, -11644473600, -62135596800, -62135596801, math.MinInt, math.MinInt + 1, api.MaxTime + 1, api.MaxTime + 2, api.MaxTime + 86400, 1 << 40, math.MaxInt, math.MaxInt - 1} {
		if got, is := Imf(n); got != "" || is {
			t.Errorf("P10.2: Imf(%d): %q %v", n, got, is)
		}
		if got, is := Iso(n); got != "" || is {
			t.Errorf("P10.3: Iso(%d): %q %v", n, got, is)
		}
	}
}

func TestTimesOfAllKinds(t *testing.T) {
	for _, n := range times() {
		checkTime(t, n)
	}
	r := rand.New(rand.NewSource(22))
	for range 20000 {
		n := int(r.Uint64()) >> r.Intn(64)
		checkTime(t, n)
		checkTime(t, -n)
	}
}

func TestUnisoOfNone(t *testing.T) {
	for _, s := range []string{
		"", "Z", "T", example, "1994-11-06", "08:49:37", "1994-11-06T08:49:37", "1994-11-06T08:49:37ZZ", "1994-11-06T08:49:37Z ", " 1994-11-06T08:49:37Z", "1994-11-06T08:49:37z", "1994-11-06t08:49:37Z", "1994-11-06 08:49:37Z", "1994-11-06T08:49:37.0Z", "1994-11-06T08:49:37+00:00", "1994-11-06T08:49Z", "19941106T084937Z",
		"994-11-06T08:49:37Z", "11994-11-06T08:49:37Z", "01994-11-06T08:49:37Z", "1994-1-06T08:49:37Z", "1994-11-6T08:49:37Z", "1994-11-6T008:49:37Z", "1994-11-06T8:49:37Z", "1994-11-006T8:49:37Z", "1994-11-06T08:9:37Z", "1994-11-06T08:49:7Z",
		"1994-00-06T08:49:37Z", "1994-13-06T08:49:37Z", "1994-99-06T08:49:37Z", "1994-11-00T08:49:37Z", "1994-11-31T08:49:37Z", "1994-12-32T08:49:37Z", "1994-11-99T08:49:37Z", "1994-02-29T08:49:37Z", "2000-02-30T08:49:37Z", "1900-02-29T08:49:37Z", "2100-02-29T08:49:37Z",
		"1994-11-06T24:00:00Z", "1994-11-06T24:49:37Z", "1994-11-06T99:49:37Z", "1994-11-06T08:60:37Z", "1994-11-06T08:99:37Z", "1994-11-06T08:49:60Z", "1994-11-06T08:49:99Z", "9999-12-31T24:00:00Z", "9999-12-31T23:59:60Z",
		"0000-01-01T00:00:00Z", "0000-00-00T00:00:00Z", "0001-01-01T00:00:00Z", "0094-11-06T08:49:37Z", "1600-12-31T23:59:59Z", "1601-01-01T00:00:00Z", "1900-01-01T00:00:00Z", "1969-12-31T23:59:59Z", "1969-01-01T00:00:00Z",
		"+994-11-06T08:49:37Z", "-994-11-06T08:49:37Z", "1994-+1-06T08:49:37Z", "1994--1-06T08:49:37Z", "1994-11-+6T08:49:37Z", "1994-11-06T+8:49:37Z", "1994-11-06T08:+9:37Z", "1994-11-06T08:49:+7Z", "1994-11- 6T08:49:37Z", "1994/11/06T08:49:37Z", "1994-11-06T08-49-37Z",
		"xxxx-xx-xxTxx:xx:xxZ", "1970-01-01Txx:xx:xxZ", "1970-01-01T00:00:00x", "1970x01-01T00:00:00Z", "1970-01x01T00:00:00Z", "1970-01-01x00:00:00Z", "1970-01-01T00x00:00Z", "1970-01-01T00:00x00Z", strings.Repeat("0", 20), strings.Repeat("\x00", 20), strings.Repeat("\xff", 20), strings.Repeat("-", 20), strings.Repeat("1", 1<<16),
	} {
		if n, is := Uniso(s); n != 0 || is {
			t.Errorf("P10.3: Uniso(%q): %d %v", s, n, is)
		}
		checkUniso(t, s)
	}
}

func TestEachByteOfIso(t *testing.T) {
	for _, n := range []int{0, when, 951868799, 1794830400, api.MaxTime} {
		s, _ := formOf(n, isoForm)
		for at := range len(s) {
			checkUniso(t, s[:at])
			checkUniso(t, s[at:])
			checkUniso(t, s[:at]+s[at+1:])
			for b := range 256 {
				one := string([]byte{byte(b)})
				got, is := Uniso(s[:at] + one + s[at+1:])
				checkUniso(t, s[:at]+one+s[at+1:])
				checkUniso(t, s[:at]+one+s[at:])
				// A byte in place of another one is another time, or none.
				if byte(b) != s[at] && is && got == n {
					t.Errorf("P10.3: Uniso(%q): %d", s[:at]+one+s[at+1:], got)
				}
			}
		}
		checkUniso(t, s+"Z")
		checkUniso(t, s+s)
	}
}

func TestEveryTwoDigitsOfIso(t *testing.T) {
	for _, s := range []string{"1994-11-06T08:49:37Z", "1970-01-01T00:00:00Z", "2000-02-29T23:59:59Z", "9999-12-31T23:59:59Z"} {
		for _, at := range []int{0, 2, 5, 8, 11, 14, 17} {
			for n := range 100 {
				checkUniso(t, s[:at]+fmt.Sprintf("%02d", n)+s[at+2:])
			}
		}
		for year := range 10000 {
			checkUniso(t, fmt.Sprintf("%04d", year)+s[4:])
		}
	}
	for month := range 16 {
		for day := range 36 {
			for _, year := range []int{1969, 1970, 1996, 2000, 2100} {
				checkUniso(t, fmt.Sprintf("%04d-%02d-%02dT00:00:00Z", year, month, day))
			}
		}
	}
}

func TestCookieHasEarlierYearsThanImf(t *testing.T) {
	r := rand.New(rand.NewSource(23))
	for range 20000 {
		n := -11644473600 + r.Intn(11644473600)
		s := time.Unix(int64(n), 0).UTC().Format(imfForm)
		checkAll(t, n, true, s)
	}
	// The last second of 1600 and the first one of 100; a year ahead of that is read as one of 1970 to 2069.
	for _, n := range []int{-11644473601, -11644560000, -59011459200} {
		checkAll(t, 0, false, time.Unix(int64(n), 0).UTC().Format(imfForm))
	}
	checkAll(t, 978307200, true, time.Unix(-62135596800, 0).UTC().Format(imfForm))
}

// dressed is the date with other letters and other parting bytes; a time has no parting bytes in it.
func dressed(r *rand.Rand, s string) string {
	const parts = "\t !\"#$%&'()*+,-./;<=>?@[\\]^_`{|}~"
	var b strings.Builder
	row := func(least int) {
		for range least + r.Intn(3) {
			b.WriteByte(parts[r.Intn(len(parts))])
		}
	}
	row(0)
	for i := range len(s) {
		switch {
		case isParting(s[i]) && (i == 0 || !isParting(s[i-1])):
			row(1)
		case isParting(s[i]):
		case r.Intn(2) == 0:
			b.WriteString(strings.ToUpper(s[i : i+1]))
		default:
			b.WriteString(strings.ToLower(s[i : i+1]))
		}
	}
	row(0)
	return b.String()
}

func TestLettersAndPartingBytesAreOfNoAccount(t *testing.T) {
	r := rand.New(rand.NewSource(24))
	for _, n := range times() {
		imf, _ := formOf(n, imfForm)
		for _, s := range []string{strings.ToUpper(imf), strings.ToLower(imf), dressed(r, imf), dressed(r, imf)} {
			if got, is := Cookie(s); got != n || !is {
				t.Errorf("P10.4: Cookie(%q): %d %v, not %d", s, got, is, n)
			}
		}
	}
	for range 20000 {
		s := []string{"08:49:37 6-nov-94", "novembre 6th 8:49:37x 1994", "1 jan 1600 0:0:0", "31 nov 94 1:2:3", "6 nov", "10:20:30 11:00:00 jan 2000 1"}[r.Intn(6)]
		want, may := Cookie(s)
		if got, is := Cookie(dressed(r, s)); got != want || is != may {
			t.Errorf("P10.4: Cookie of %q in other dress: %d %v, not %d %v", s, got, is, want, may)
		}
	}
}

func TestEachPartingByteIsAsGoodAsABlank(t *testing.T) {
	for _, s := range []string{example, "Sunday, 06-Nov-94 08:49:37 GMT", "Sun Nov  6 08:49:37 1994"} {
		for b := range 256 {
			if !isParting(byte(b)) {
				continue
			}
			for many := 1; many <= 3; many++ {
				got, is := Cookie(betweenWords.ReplaceAllLiteralString(s, strings.Repeat(string([]byte{byte(b)}), many)))
				if got != when || !is {
					t.Errorf("P10.4: Cookie(%q), parted by %d bytes %d: %d %v", s, many, b, got, is)
				}
			}
		}
	}
}

func TestSameCallsTellTheSame(t *testing.T) {
	for range 3 {
		checkAll(t, when, true, example)
		checkAll(t, 0, false, "6 nov 1994")
		checkAll(t, 1794830400, true, "16 nov 2026 12:00:00")
		checkTime(t, when)
		checkTime(t, -1)
	}
}

func TestReadersLeaveTheClock(t *testing.T) {
	// A word that is none of them writes nothing of itself into the clock.
	before := civil.Clock{Year: 1, Month: 2, Day: 3, Hour: 4, Minute: 5, Second: 6}
	for _, read := range []reader{readTime, readDay, readMonth, readYear} {
		for _, word := range []string{"", "x", "10:11", "10:11:", "10:11:123", "10:11:12", "12345", "123", "12", "1", "123:1:1", "no"} {
			c := before
			if !read(&c, word) && c != before {
				t.Errorf("P10.1: %q was not read, and the clock is %v", word, c)
			}
		}
	}
}

func FuzzCookie(f *testing.F) {
	for _, s := range []string{"", example, "08:49:37 6-nov-94", "10:20:30 11:00:00 jan 2000 1", "2026-11-16T12:00:00Z"} {
		f.Add(s)
	}
	f.Fuzz(func(t *testing.T, s string) {
		checkCookie(t, s)
		checkUniso(t, s)
	})
}

func FuzzTime(f *testing.F) {
	for _, n := range []int{0, -1, when, api.MaxTime, api.MaxTime + 1} {
		f.Add(n)
	}
	f.Fuzz(func(t *testing.T, n int) { checkTime(t, n) })
}
