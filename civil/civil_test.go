package civil

import (
	"math"
	"math/big"
	"math/rand"
	"testing"
	"time"

	"cracknel/api"
)

// day is a day by its three numbers.
type day [3]int

const (
	first = -719162 // the first day of year 1
	last  = 2932896 // the last one of year 9999
)

// edges are the ints that a sum may go beyond, and those next to them.
func edges() []int {
	l := []int{math.MinInt, math.MinInt + 1, math.MaxInt - 1, math.MaxInt}
	for i := range 63 {
		l = append(l, 1<<i-1, 1<<i, 1<<i+1, -1<<i, -1<<i-1, 1-1<<i)
	}
	return l
}

// odd are numbers that are, most of them, none of a day or time.
func odd() []int {
	return append(edges(), 0, -1, -2, 12, 13, 14, 23, 24, 25, 28, 29, 30, 31, 32, 33, 59, 60, 61, 62, 100, 400, 1900, 2000, 9999, 10000, 10001, 86399, 86400)
}

// mod is the rest of n by the chapter's words (never below 0), worked out without a bound.
func mod(n, by int) int {
	return int(new(big.Int).Mod(big.NewInt(int64(n)), big.NewInt(int64(by))).Int64())
}

// lengthOf is Length by the chapter's words.
func lengthOf(year, month int) int {
	if year < 1 || year > 9999 {
		return 0
	}
	switch month {
	case 1, 3, 5, 7, 8, 10, 12:
		return 31
	case 4, 6, 9, 11:
		return 30
	case 2:
		if mod(year, 400) == 0 || mod(year, 4) == 0 && mod(year, 100) != 0 {
			return 29
		}
		return 28
	}
	return 0
}

// daysOf is Days by the library's dates.
func daysOf(year, month, d int) (int, bool) {
	if d < 1 || d > lengthOf(year, month) {
		return 0, false
	}
	return int(time.Date(year, time.Month(month), d, 0, 0, 0, 0, time.UTC).Unix() / 86400), true
}

// dateOf is Date by the library's dates.
func dateOf(days int) (day, bool) {
	if days < first || days > last {
		return day{}, false
	}
	t := time.Unix(int64(days)*86400, 0).UTC()
	return day{t.Year(), int(t.Month()), t.Day()}, true
}

// epochOf is Epoch by the library's dates.
func epochOf(c Clock) (int, bool) {
	days, is := daysOf(c.Year, c.Month, c.Day)
	if !is || c.Hour < 0 || c.Hour > 23 || c.Minute < 0 || c.Minute > 59 || c.Second < 0 || c.Second > 59 {
		return 0, false
	}
	return days*86400 + c.Hour*3600 + c.Minute*60 + c.Second, true
}

// clockOf is Of by the library's dates.
func clockOf(t int) (Clock, bool) {
	if t < first*86400 || t > api.MaxTime {
		return Clock{}, false
	}
	u := time.Unix(int64(t), 0).UTC()
	return Clock{u.Year(), int(u.Month()), u.Day(), u.Hour(), u.Minute(), u.Second()}, true
}

// checkDays holds Days of one day against the library.
func checkDays(t *testing.T, d day) {
	t.Helper()
	want, may := daysOf(d[0], d[1], d[2])
	if got, is := Days(d[0], d[1], d[2]); got != want || is != may {
		t.Errorf("P9.2: Days(%v): %d %v, not %d %v", d, got, is, want, may)
	}
}

// checkDate holds Date of one number against the library, and has the number back.
func checkDate(t *testing.T, days int) {
	t.Helper()
	want, may := dateOf(days)
	year, month, d, is := Date(days)
	if (day{year, month, d}) != want || is != may {
		t.Errorf("P9.2: Date(%d): %d %d %d %v, not %v %v", days, year, month, d, is, want, may)
	}
	if back, has := Days(year, month, d); has != may || may && back != days {
		t.Errorf("P9.2: Days(Date(%d)): %d %v", days, back, has)
	}
}

// checkEpoch holds Epoch of one clock against the library.
func checkEpoch(t *testing.T, c Clock) {
	t.Helper()
	want, may := epochOf(c)
	if got, is := Epoch(c); got != want || is != may {
		t.Errorf("P9.3: Epoch(%v): %d %v, not %d %v", c, got, is, want, may)
	}
}

// checkOf holds Of of one time against the library, and has the time back.
func checkOf(t *testing.T, n int) {
	t.Helper()
	want, may := clockOf(n)
	got, is := Of(n)
	if got != want || is != may {
		t.Errorf("P9.3: Of(%d): %v %v, not %v %v", n, got, is, want, may)
	}
	if back, has := Epoch(got); has != may || may && back != n {
		t.Errorf("P9.3: Epoch(Of(%d)): %d %v", n, back, has)
	}
}

func TestLeap(t *testing.T) {
	for year, want := range map[int]bool{
		1: false, 2: false, 3: false, 4: true, 5: false, 8: true, 96: true, 100: false, 104: true, 200: false, 300: false, 400: true,
		1600: true, 1700: false, 1800: false, 1900: false, 1970: false, 1972: true, 1996: true, 1999: false, 2000: true, 2001: false,
		2004: true, 2026: false, 2100: false, 9600: true, 9900: false, 9996: true, 9999: false, 10000: true, 10100: false,
		0: true, -1: false, -2: false, -3: false, -4: true, -99: false, -100: false, -101: false, -104: true, -200: false, -400: true, -500: false,
		// The least int is divided by 4 and not by 25; the greatest one is odd.
		math.MinInt: true, math.MinInt + 4: true, math.MinInt + 2: false, math.MaxInt: false, math.MaxInt - 3: true,
	} {
		if got := Leap(year); got != want {
			t.Errorf("P9.1: Leap(%d): %v", year, got)
		}
	}
}

func TestLeapOfAnyYear(t *testing.T) {
	years := edges()
	for year := -10500; year <= 10500; year++ {
		years = append(years, year)
	}
	r := rand.New(rand.NewSource(9))
	for range 20000 {
		// 100 and 400 divide few numbers that are drawn at random.
		years = append(years, int(r.Uint64()), int(r.Uint64())/100*100, int(r.Uint64())/400*400)
	}
	for _, year := range years {
		want := mod(year, 4) == 0 && mod(year, 100) != 0 || mod(year, 400) == 0
		if got := Leap(year); got != want {
			t.Errorf("P9.1: Leap(%d): %v", year, got)
		}
	}
}

func TestLengthWrittenOut(t *testing.T) {
	common := [12]int{31, 28, 31, 30, 31, 30, 31, 31, 30, 31, 30, 31}
	leap := [12]int{31, 29, 31, 30, 31, 30, 31, 31, 30, 31, 30, 31}
	for year, months := range map[int][12]int{
		1: common, 3: common, 4: leap, 100: common, 400: leap, 1900: common, 1969: common, 1970: common, 1972: leap,
		2000: leap, 2001: common, 2024: leap, 2026: common, 2100: common, 9996: leap, 9998: common, 9999: common,
	} {
		for i, want := range months {
			if got := Length(year, i+1); got != want {
				t.Errorf("P9.1: Length(%d, %d): %d", year, i+1, got)
			}
		}
	}
}

func TestLengthOfNoMonth(t *testing.T) {
	for _, x := range [][2]int{
		{2000, 0}, {2000, 13}, {2000, 14}, {2000, -1}, {2000, -2}, {2000, -12}, {2000, math.MinInt}, {2000, math.MaxInt},
		{0, 1}, {0, 2}, {0, 12}, {-1, 1}, {-4, 2}, {10000, 1}, {10000, 2}, {10000, 12}, {10001, 1},
		{math.MinInt, 1}, {math.MinInt, 2}, {math.MaxInt, 1}, {math.MaxInt, 12}, {math.MinInt, math.MinInt}, {math.MaxInt, math.MaxInt}, {0, 0},
	} {
		if got := Length(x[0], x[1]); got != 0 {
			t.Errorf("P9.1: Length(%d, %d): %d", x[0], x[1], got)
		}
	}
}

func TestLengthOfAnyMonth(t *testing.T) {
	for year := -500; year <= 10500; year++ {
		for month := -3; month <= 16; month++ {
			if got := Length(year, month); got != lengthOf(year, month) {
				t.Errorf("P9.1: Length(%d, %d): %d", year, month, got)
			}
		}
	}
	for _, n := range odd() {
		for _, m := range append(odd(), 1, 2, 3) {
			if got := Length(n, m); got != lengthOf(n, m) {
				t.Errorf("P9.1: Length(%d, %d): %d", n, m, got)
			}
		}
	}
}

func TestDaysWrittenOut(t *testing.T) {
	for n, d := range map[int]day{
		11017: {2000, 3, 1}, -1: {1969, 12, 31}, 0: {1970, 1, 1}, 1: {1970, 1, 2}, 30: {1970, 1, 31}, 31: {1970, 2, 1}, 58: {1970, 2, 28},
		59: {1970, 3, 1}, 89: {1970, 3, 31}, 90: {1970, 4, 1}, 119: {1970, 4, 30}, 120: {1970, 5, 1}, 150: {1970, 5, 31}, 151: {1970, 6, 1},
		180: {1970, 6, 30}, 181: {1970, 7, 1}, 211: {1970, 7, 31}, 212: {1970, 8, 1}, 242: {1970, 8, 31}, 243: {1970, 9, 1},
		272: {1970, 9, 30}, 273: {1970, 10, 1}, 303: {1970, 10, 31}, 304: {1970, 11, 1}, 333: {1970, 11, 30}, 334: {1970, 12, 1},
		364: {1970, 12, 31}, 365: {1971, 1, 1}, 730: {1972, 1, 1}, 789: {1972, 2, 29}, 790: {1972, 3, 1}, 1095: {1972, 12, 31}, 1096: {1973, 1, 1},
		-365: {1969, 1, 1}, -366: {1968, 12, 31}, -672: {1968, 2, 29}, -25509: {1900, 2, 28}, -25508: {1900, 3, 1},
		11016: {2000, 2, 29}, 10957: {2000, 1, 1}, 10956: {1999, 12, 31}, 20773: {2026, 11, 16}, 47540: {2100, 2, 28}, 47541: {2100, 3, 1},
		first: {1, 1, 1}, first + 1: {1, 1, 2}, first + 364: {1, 12, 31}, first + 365: {2, 1, 1}, last: {9999, 12, 31}, last - 1: {9999, 12, 30},
		last - 364: {9999, 1, 1}, last - 365: {9998, 12, 31},
	} {
		if got, is := Days(d[0], d[1], d[2]); got != n || !is {
			t.Errorf("P9.2: Days(%v): %d %v, not %d", d, got, is, n)
		}
		if year, month, x, is := Date(n); (day{year, month, x}) != d || !is {
			t.Errorf("P9.2: Date(%d): %d %d %d %v, not %v", n, year, month, x, is, d)
		}
	}
}

func TestNoDay(t *testing.T) {
	const least, most = math.MinInt, math.MaxInt
	for _, d := range []day{
		{2000, 1, 0}, {2000, 1, 32}, {2000, 2, 30}, {2000, 2, 31}, {2001, 2, 29}, {1900, 2, 29}, {2100, 2, 29}, {2000, 4, 31}, {2000, 12, 32},
		{2000, 3, 0}, {2000, 3, -1}, {2000, 0, 1}, {2000, 13, 1}, {2000, -1, 1}, {0, 1, 1}, {0, 12, 31}, {0, 2, 29}, {10000, 1, 1}, {10000, 12, 31},
		{-1, 1, 1}, {0, 0, 0}, {2000, 0, 0}, {2000, 13, 0}, {10000, 0, 0}, {least, 1, 1}, {most, 1, 1}, {2000, least, 1}, {2000, most, 1},
		{2000, 1, least}, {2000, 1, most}, {least, least, least}, {most, most, most}, {least, 2, 29}, {9999, 12, 32}, {1, 1, 0},
	} {
		if got, is := Days(d[0], d[1], d[2]); got != 0 || is {
			t.Errorf("P9.2: Days(%v): %d %v", d, got, is)
		}
	}
}

func TestDaysOfMonths(t *testing.T) {
	for year := -5; year <= 10005; year++ {
		for month := -1; month <= 14; month++ {
			for _, x := range []int{-1, 0, 1, 2, 15, 27, 28, 29, 30, 31, 32} {
				checkDays(t, day{year, month, x})
			}
		}
	}
}

func TestDaysOfAnyNumbers(t *testing.T) {
	l := append(odd(), 1, 2, 4, 11)
	for _, n := range l {
		for _, m := range l {
			checkDays(t, day{n, m, 1})
			checkDays(t, day{n, 1, m})
			checkDays(t, day{2000, n, m})
			checkDays(t, day{n, 2, m})
		}
	}
	r := rand.New(rand.NewSource(10))
	for range 200000 {
		checkDays(t, day{r.Intn(10100) - 50, r.Intn(16) - 1, r.Intn(36) - 2})
		checkDays(t, day{int(r.Uint64()) >> r.Intn(64), int(r.Uint64()) >> r.Intn(64), int(r.Uint64()) >> r.Intn(64)})
	}
}

func TestNoDate(t *testing.T) {
	for _, n := range []int{first - 1, first - 2, first - 365, first - 366, last + 1, last + 2, last + 366, -1 << 31, 1 << 31, math.MinInt, math.MinInt + 1, math.MaxInt, math.MaxInt - 1} {
		if year, month, d, is := Date(n); year != 0 || month != 0 || d != 0 || is {
			t.Errorf("P9.2: Date(%d): %d %d %d %v", n, year, month, d, is)
		}
	}
}

func TestDateOfAnyNumber(t *testing.T) {
	for _, n := range odd() {
		checkDate(t, n)
		checkDate(t, -n)
	}
	r := rand.New(rand.NewSource(11))
	for range 100000 {
		checkDate(t, int(r.Uint64())>>r.Intn(64))
		checkDate(t, first-100+r.Intn(last-first+200))
	}
}

// behind is the day behind d, by the months' lengths.
func behind(d day) day {
	switch {
	case d[2] < lengthOf(d[0], d[1]):
		return day{d[0], d[1], d[2] + 1}
	case d[1] < 12:
		return day{d[0], d[1] + 1, 1}
	}
	return day{d[0] + 1, 1, 1}
}

func TestEachDayIsOneBehindTheOther(t *testing.T) {
	n, d := first, day{1, 1, 1}
	for d[0] < 10000 {
		if got, is := Days(d[0], d[1], d[2]); got != n || !is {
			t.Fatalf("P9.4: Days(%v): %d %v, not %d", d, got, is, n)
		}
		if year, month, x, is := Date(n); (day{year, month, x}) != d || !is {
			t.Fatalf("P9.4: Date(%d): %d %d %d %v, not %v", n, year, month, x, is, d)
		}
		// 1970-01-01, day 0, was a Thursday.
		if got, want := Weekday(n), mod(n+4, 7); got != want {
			t.Fatalf("P9.4: Weekday(%d): %d, not %d", n, got, want)
		}
		n, d = n+1, behind(d)
	}
	if n != last+1 {
		t.Errorf("P9.4: the days of years 1 to 9999 end at %d", n-1)
	}
}

func TestWeekdayWrittenOut(t *testing.T) {
	for n, want := range map[int]int{
		0: 4, 1: 5, 2: 6, 3: 0, 4: 1, 5: 2, 6: 3, 7: 4, 10: 0,
		-1: 3, -2: 2, -3: 1, -4: 0, -5: 6, -6: 5, -7: 4, -8: 3, -11: 0, -12: 6,
		20773: 1, 11016: 2, first: 1, last: 5,
		// 2^63 is 1 more than a number of weeks.
		math.MinInt: 3, math.MinInt + 1: 4, math.MinInt + 4: 0, math.MaxInt: 4, math.MaxInt - 3: 1, math.MaxInt - 4: 0, math.MaxInt - 5: 6,
	} {
		if got := Weekday(n); got != want {
			t.Errorf("P9.2: Weekday(%d): %d, not %d", n, got, want)
		}
	}
}

func TestWeekdayOfAnyNumber(t *testing.T) {
	l := odd()
	r := rand.New(rand.NewSource(12))
	for range 100000 {
		l = append(l, int(r.Uint64())>>r.Intn(64))
	}
	for i := range 1000 {
		l = append(l, i, -i, math.MinInt+i, math.MaxInt-i)
	}
	for _, n := range l {
		if got, want := Weekday(n), (mod(n, 7)+4)%7; got != want {
			t.Errorf("P9.2: Weekday(%d): %d, not %d", n, got, want)
		}
	}
}

// times are clocks and the Epoch of each, written out.
func times() map[int]Clock {
	return map[int]Clock{
		0:         {1970, 1, 1, 0, 0, 0},
		1:         {1970, 1, 1, 0, 0, 1},
		59:        {1970, 1, 1, 0, 0, 59},
		60:        {1970, 1, 1, 0, 1, 0},
		3599:      {1970, 1, 1, 0, 59, 59},
		3600:      {1970, 1, 1, 1, 0, 0},
		82800:     {1970, 1, 1, 23, 0, 0},
		86399:     {1970, 1, 1, 23, 59, 59},
		86400:     {1970, 1, 2, 0, 0, 0},
		-1:        {1969, 12, 31, 23, 59, 59},
		-60:       {1969, 12, 31, 23, 59, 0},
		-3600:     {1969, 12, 31, 23, 0, 0},
		-86399:    {1969, 12, 31, 0, 0, 1},
		-86400:    {1969, 12, 31, 0, 0, 0},
		-86401:    {1969, 12, 30, 23, 59, 59},
		784111777: {1994, 11, 6, 8, 49, 37}, 1794830400: {2026, 11, 16, 12, 0, 0}, 951868799: {2000, 2, 29, 23, 59, 59}, 951868800: {2000, 3, 1, 0, 0, 0},
		2147483647: {2038, 1, 19, 3, 14, 7}, 2147483648: {2038, 1, 19, 3, 14, 8}, -2147483649: {1901, 12, 13, 20, 45, 51},
		-62135596800: {1, 1, 1, 0, 0, 0}, -62135596799: {1, 1, 1, 0, 0, 1}, -62135510401: {1, 1, 1, 23, 59, 59}, -62135510400: {1, 1, 2, 0, 0, 0},
		253402300799: {9999, 12, 31, 23, 59, 59}, 253402300798: {9999, 12, 31, 23, 59, 58}, 253402214400: {9999, 12, 31, 0, 0, 0}, 253402214399: {9999, 12, 30, 23, 59, 59},
	}
}

func TestTimesWrittenOut(t *testing.T) {
	for n, c := range times() {
		if got, is := Epoch(c); got != n || !is {
			t.Errorf("P9.3: Epoch(%v): %d %v, not %d", c, got, is, n)
		}
		if got, is := Of(n); got != c || !is {
			t.Errorf("P9.3: Of(%d): %v %v, not %v", n, got, is, c)
		}
	}
}

func TestNoClock(t *testing.T) {
	const least, most = math.MinInt, math.MaxInt
	for _, c := range []Clock{
		{}, {2000, 1, 1, 24, 0, 0}, {2000, 1, 1, 25, 0, 0}, {2000, 1, 1, -1, 0, 0}, {2000, 1, 1, least, 0, 0}, {2000, 1, 1, most, 0, 0},
		{2000, 1, 1, 0, 60, 0}, {2000, 1, 1, 0, 61, 0}, {2000, 1, 1, 0, -1, 0}, {2000, 1, 1, 0, least, 0}, {2000, 1, 1, 0, most, 0},
		{2000, 1, 1, 0, 0, 60}, {2000, 1, 1, 0, 0, 61}, {2000, 1, 1, 0, 0, -1}, {2000, 1, 1, 0, 0, least}, {2000, 1, 1, 0, 0, most},
		{2000, 1, 1, 24, -60, 0}, {2000, 1, 1, 1, -1, 60}, {2000, 1, 1, most, most, most}, {2000, 1, 1, least, least, least},
		{0, 1, 1, 0, 0, 0}, {10000, 1, 1, 0, 0, 0}, {2000, 0, 1, 0, 0, 0}, {2000, 13, 1, 0, 0, 0}, {2000, 1, 0, 0, 0, 0}, {2000, 1, 32, 0, 0, 0},
		{2001, 2, 29, 12, 0, 0}, {least, 1, 1, 0, 0, 0}, {most, 1, 1, 0, 0, 0}, {2000, least, 1, 0, 0, 0}, {2000, most, 1, 0, 0, 0},
		{2000, 1, least, 0, 0, 0}, {2000, 1, most, 0, 0, 0}, {least, least, least, least, least, least}, {most, most, most, most, most, most},
		{9999, 12, 31, 23, 59, 60}, {9999, 12, 31, 24, 0, 0}, {1, 1, 1, 0, 0, -1},
	} {
		if got, is := Epoch(c); got != 0 || is {
			t.Errorf("P9.3: Epoch(%v): %d %v", c, got, is)
		}
	}
}

func TestEpochOfAnyNumbers(t *testing.T) {
	for hour := -2; hour <= 26; hour++ {
		for minute := -2; minute <= 62; minute++ {
			for second := -2; second <= 62; second++ {
				checkEpoch(t, Clock{1969, 12, 31, hour, minute, second})
				checkEpoch(t, Clock{2000, 2, 29, hour, minute, second})
			}
		}
	}
	for _, n := range odd() {
		for _, d := range []day{{2000, 2, 29}, {1, 1, 1}, {9999, 12, 31}, {1969, 12, 31}} {
			checkEpoch(t, Clock{d[0], d[1], d[2], n, 0, 0})
			checkEpoch(t, Clock{d[0], d[1], d[2], 0, n, 0})
			checkEpoch(t, Clock{d[0], d[1], d[2], 0, 0, n})
			checkEpoch(t, Clock{n, d[1], d[2], 0, 0, 0})
			checkEpoch(t, Clock{d[0], n, d[2], 0, 0, 0})
			checkEpoch(t, Clock{d[0], d[1], n, 0, 0, 0})
			checkEpoch(t, Clock{d[0], d[1], d[2], n, n, n})
		}
	}
	r := rand.New(rand.NewSource(13))
	for range 200000 {
		checkEpoch(t, Clock{r.Intn(10100) - 50, r.Intn(15), r.Intn(34), r.Intn(26) - 1, r.Intn(62) - 1, r.Intn(62) - 1})
	}
}

func TestNoTime(t *testing.T) {
	for _, n := range []int{api.MaxTime + 1, api.MaxTime + 86400, first*86400 - 1, first*86400 - 86400, first*86400 - 86401, math.MinInt, math.MinInt + 1, math.MaxInt, math.MaxInt - 1} {
		if c, is := Of(n); c != (Clock{}) || is {
			t.Errorf("P9.3: Of(%d): %v %v", n, c, is)
		}
	}
}

func TestOfAnyNumber(t *testing.T) {
	for n := -3*86400 - 10; n <= 3*86400+10; n++ {
		checkOf(t, n)
	}
	for n := range times() {
		for i := -3; i <= 3; i++ {
			checkOf(t, n+i)
		}
	}
	for _, n := range odd() {
		checkOf(t, n)
		checkOf(t, -n)
	}
	r := rand.New(rand.NewSource(14))
	for range 100000 {
		day := (first - 2 + r.Intn(last-first+4)) * 86400
		checkOf(t, int(r.Uint64())>>r.Intn(64))
		checkOf(t, day+r.Intn(86400))
		checkOf(t, day+r.Intn(5)-2)
	}
}

// before tells whether a is the earlier clock: the first part that is not the same says so.
func before(a, b Clock) bool {
	x := []int{a.Year, a.Month, a.Day, a.Hour, a.Minute, a.Second}
	y := []int{b.Year, b.Month, b.Day, b.Hour, b.Minute, b.Second}
	for i := range x {
		if x[i] != y[i] {
			return x[i] < y[i]
		}
	}
	return false
}

func TestLaterClockHasGreaterEpoch(t *testing.T) {
	l := []Clock{{1, 1, 1, 0, 0, 0}, {9999, 12, 31, 23, 59, 59}, {1969, 12, 31, 23, 59, 59}, {1970, 1, 1, 0, 0, 0}}
	years, hours, sixties := []int{1, 2, 1899, 1900, 1969, 1970, 2000, 9999}, []int{0, 1, 22, 23}, []int{0, 59}
	for _, year := range years {
		for month := 1; month <= 12; month++ {
			long := lengthOf(year, month)
			for _, hour := range hours {
				for _, n := range sixties {
					l = append(l, Clock{year, month, 1, hour, n, 59 - n}, Clock{year, month, long, hour, 59 - n, n}, Clock{year, month, long - 1, hour, n, n})
				}
			}
		}
	}
	var sums []int
	for _, c := range l {
		n, is := Epoch(c)
		if !is {
			t.Fatalf("P9.4: Epoch(%v) is none", c)
		}
		sums = append(sums, n)
	}
	for i, a := range l {
		for j, b := range l {
			if (sums[i] < sums[j]) != before(a, b) {
				t.Errorf("P9.4: Epoch(%v), Epoch(%v): %d, %d", a, b, sums[i], sums[j])
			}
		}
	}
}

func TestMaxTimeIsTheLastSecond(t *testing.T) {
	if got, is := Epoch(Clock{9999, 12, 31, 23, 59, 59}); got != api.MaxTime || !is {
		t.Errorf("P9.4: Epoch of the last second of the year 9999: %d %v", got, is)
	}
	if _, is := Of(api.MaxTime + 1); is {
		t.Error("P9.4: there is a clock behind MaxTime")
	}
}

func FuzzDate(f *testing.F) {
	f.Add(0, 1, 1)
	f.Add(2000, 2, 29)
	f.Add(-719163, 13, 32)
	f.Add(math.MinInt, math.MaxInt, 31)
	f.Fuzz(func(t *testing.T, a, b, c int) {
		checkDays(t, day{a, b, c})
		checkDate(t, a)
		checkOf(t, a)
		checkEpoch(t, Clock{2000, 2, 29, a, b, c})
		checkEpoch(t, Clock{a, b, c, 23, 59, 59})
	})
}
