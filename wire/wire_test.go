package wire

import (
	"bytes"
	"encoding/binary"
	"math"
	"math/big"
	"math/rand"
	"slices"
	"strings"
	"testing"

	"cracknel/api"
)

// numbers are ordinary ones, those about each power of two (so about each seven of bits), and some from all over.
func numbers() []uint64 {
	l := []uint64{0, 1, 2, 5, 42, 126, 127, 128, 129, 255, 256, 300, 1970, 16383, 16384, 253402300799, math.MaxInt, math.MaxInt + 1, math.MaxUint64 - 1, math.MaxUint64}
	for i := range 64 {
		p := uint64(1) << i
		l = append(l, p-1, p, p+1)
	}
	r := rand.New(rand.NewSource(3))
	for range 2000 {
		l = append(l, r.Uint64()>>r.Intn(64))
	}
	return l
}

// texts are of all lengths about those where the length takes another byte, and of any bytes.
func texts() []string {
	l := []string{"", "a", "ab", "a b", "\x00", "\x80", "\xff\xff", "\n\t%;=", "köstlich", "\x02ab"}
	r := rand.New(rand.NewSource(4))
	for _, long := range []int{3, 10, 60, 126, 127, 128, 129, 200, 255, 256, 16383, 16384, 16385} {
		b := make([]byte, long)
		r.Read(b)
		l = append(l, string(b), strings.Repeat("a", long), strings.Repeat("\x80", long), strings.Repeat("\x00", long))
	}
	return l
}

// inputs are bytes of any kind: all of up to two, and longer ones in which long rows of 128 or more are common.
func inputs() []string {
	l := []string{""}
	for a := range 256 {
		l = append(l, string([]byte{byte(a)}))
		for b := range 256 {
			l = append(l, string([]byte{byte(a), byte(b)}))
		}
	}
	for long := range 13 {
		for _, b := range []string{"\x80", "\x81", "\xff"} {
			row := strings.Repeat(b, long)
			l = append(l, row)
			for last := range 256 {
				l = append(l, row+string([]byte{byte(last)}), row+string([]byte{byte(last)})+"z")
			}
		}
	}
	r := rand.New(rand.NewSource(5))
	for range 20000 {
		b := make([]byte, r.Intn(14))
		r.Read(b)
		for i := range min(len(b), r.Intn(14)) {
			b[i] |= 128
		}
		l = append(l, string(b))
	}
	return l
}

// taken tells by another way what Take answers: it finds the last byte, and adds the sevens up with no bound.
func taken(s string) (uint64, int, api.Errno) {
	last := slices.IndexFunc([]byte(s), func(b byte) bool { return b < 128 })
	switch {
	case last < 0 && len(s) < 10:
		return 0, 0, api.ErrWireShort
	case last < 0 || last > 9:
		return 0, 0, api.ErrWireLong
	}
	sum := new(big.Int)
	for i := last; i >= 0; i-- {
		sum.Mul(sum, big.NewInt(128))
		sum.Add(sum, big.NewInt(int64(s[i]%128)))
	}
	switch {
	case !sum.IsUint64():
		return 0, 0, api.ErrWireLong
	case last > 0 && s[last] == 0:
		return 0, 0, api.ErrWireForm
	}
	return sum.Uint64(), last + 1, api.OK
}

func TestPut(t *testing.T) {
	for _, c := range []struct {
		n uint64
		s string
	}{
		{0, "\x00"}, {1, "\x01"}, {127, "\x7f"}, {128, "\x80\x01"}, {129, "\x81\x01"}, {255, "\xff\x01"}, {256, "\x80\x02"}, {300, "\xac\x02"},
		{16383, "\xff\x7f"}, {16384, "\x80\x80\x01"}, {1 << 62, "\x80\x80\x80\x80\x80\x80\x80\x80\x40"},
		{math.MaxInt, "\xff\xff\xff\xff\xff\xff\xff\xff\x7f"}, {math.MaxInt + 1, "\x80\x80\x80\x80\x80\x80\x80\x80\x80\x01"},
		{math.MaxUint64 - 1, "\xfe\xff\xff\xff\xff\xff\xff\xff\xff\x01"}, {math.MaxUint64, "\xff\xff\xff\xff\xff\xff\xff\xff\xff\x01"},
	} {
		if got := Put(c.n); got != c.s {
			t.Errorf("P3.1: Put(%d) = %x, want %x", c.n, got, c.s)
		}
	}
	for _, n := range numbers() {
		if got, want := Put(n), string(binary.AppendUvarint(nil, n)); got != want {
			t.Errorf("P3.1: Put(%d) = %x, want %x", n, got, want)
		}
	}
}

func TestTake(t *testing.T) {
	nine, ten := strings.Repeat("\x80", 9), strings.Repeat("\x80", 10)
	ones := strings.Repeat("\xff", 9)
	for _, c := range []struct {
		s  string
		n  uint64
		at int
		e  api.Errno
	}{
		{"\x00", 0, 1, api.OK}, {"\x00\x00", 0, 1, api.OK}, {"\x7f", 127, 1, api.OK}, {"\x7f\x80", 127, 1, api.OK},
		{"\x80\x01", 128, 2, api.OK}, {"\xac\x02", 300, 2, api.OK}, {"\xac\x02\xac\x02", 300, 2, api.OK}, {"\x80\x80\x01", 16384, 3, api.OK},
		{nine + "\x01", 1 << 63, 10, api.OK}, {ones + "\x01", math.MaxUint64, 10, api.OK}, {ones + "\x01\xff", math.MaxUint64, 10, api.OK},
		{"", 0, 0, api.ErrWireShort}, {"\x80", 0, 0, api.ErrWireShort}, {"\xff", 0, 0, api.ErrWireShort}, {nine, 0, 0, api.ErrWireShort}, {ones, 0, 0, api.ErrWireShort},
		{ten, 0, 0, api.ErrWireLong}, {ten + "\x00", 0, 0, api.ErrWireLong}, {ten + "\x01", 0, 0, api.ErrWireLong}, {ones + "\xff", 0, 0, api.ErrWireLong}, {nine + "\x81", 0, 0, api.ErrWireLong},
		{nine + "\x02", 0, 0, api.ErrWireLong}, {ones + "\x02", 0, 0, api.ErrWireLong}, {nine + "\x03", 0, 0, api.ErrWireLong}, {ones + "\x7f", 0, 0, api.ErrWireLong},
		{"\x80\x00", 0, 0, api.ErrWireForm}, {"\xff\x00", 0, 0, api.ErrWireForm}, {"\x80\x80\x00\x01", 0, 0, api.ErrWireForm}, {nine + "\x00", 0, 0, api.ErrWireForm}, {ones + "\x00", 0, 0, api.ErrWireForm},
	} {
		if n, at, e := Take(c.s); n != c.n || at != c.at || e != c.e {
			t.Errorf("P3.1: Take(%x) = %d, %d, %d, want %d, %d, %d", c.s, n, at, e, c.n, c.at, c.e)
		}
	}
}

func TestTakeAnyBytes(t *testing.T) {
	for _, s := range inputs() {
		checkTake(t, s)
	}
}

func checkTake(t *testing.T, s string) {
	n, at, e := Take(s)
	if m, to, f := taken(s); n != m || at != to || e != f {
		t.Errorf("P3.1: Take(%x) = %d, %d, %d, want %d, %d, %d", s, n, at, e, m, to, f)
	}
	if e == api.OK && Put(n) != s[:at] {
		t.Errorf("P3.4: Take(%x) = %d, but Put of it is %x", s, n, Put(n))
	}
}

func TestZig(t *testing.T) {
	for _, c := range []struct {
		n int
		u uint64
	}{
		{0, 0}, {-1, 1}, {1, 2}, {-2, 3}, {2, 4}, {-3, 5}, {63, 126}, {-64, 127}, {64, 128}, {-65, 129},
		{math.MaxInt - 1, math.MaxUint64 - 3}, {math.MinInt + 1, math.MaxUint64 - 2}, {math.MaxInt, math.MaxUint64 - 1}, {math.MinInt, math.MaxUint64},
	} {
		if u := Zig(c.n); u != c.u {
			t.Errorf("P3.2: Zig(%d) = %d, want %d", c.n, u, c.u)
		}
		if n := Zag(c.u); n != c.n {
			t.Errorf("P3.2: Zag(%d) = %d, want %d", c.u, n, c.n)
		}
	}
	for _, u := range numbers() {
		checkZig(t, u)
	}
}

func checkZig(t *testing.T, u uint64) {
	n := Zag(u)
	if Zig(n) != u {
		t.Errorf("P3.2: Zag(%d) = %d, but Zig of it is %d", u, n, Zig(n))
	}
	n = int(u)
	want := new(big.Int).Mul(big.NewInt(int64(n)), big.NewInt(2))
	if n < 0 {
		want.Neg(want).Sub(want, big.NewInt(1))
	}
	if !want.IsUint64() || Zig(n) != want.Uint64() {
		t.Errorf("P3.2: Zig(%d) = %d, want %s", n, Zig(n), want)
	}
	if Zag(Zig(n)) != n {
		t.Errorf("P3.2: Zag(Zig(%d)) = %d", n, Zag(Zig(n)))
	}
}

func TestPutText(t *testing.T) {
	for _, c := range []struct{ t, s string }{
		{"", "\x00"}, {"a", "\x01a"}, {"\x00", "\x01\x00"}, {"ab", "\x02ab"}, {"\xff\x80", "\x02\xff\x80"}, {"é", "\x02\xc3\xa9"},
		{strings.Repeat("a", 127), "\x7f" + strings.Repeat("a", 127)}, {strings.Repeat("a", 128), "\x80\x01" + strings.Repeat("a", 128)},
		{strings.Repeat("\x80", 300), "\xac\x02" + strings.Repeat("\x80", 300)},
	} {
		if got := PutText(c.t); got != c.s {
			t.Errorf("P3.3: PutText(%q) = %x, want %x", c.t, got, c.s)
		}
	}
	for _, x := range texts() {
		if got, want := PutText(x), string(binary.AppendUvarint(nil, uint64(len(x))))+x; got != want {
			t.Errorf("P3.3: PutText of %d bytes: %x, want %x", len(x), got, want)
		}
	}
}

func TestTakeText(t *testing.T) {
	nine, ones := strings.Repeat("\x80", 9), strings.Repeat("\xff", 9)
	long := "\xac\x02" + strings.Repeat("b", 300)
	for _, c := range []struct {
		s    string
		most int
		t    string
		at   int
		e    api.Errno
	}{
		{"\x02abc", 5, "ab", 3, api.OK}, {"\x02abc", 2, "ab", 3, api.OK}, {"\x02abc", math.MaxInt, "ab", 3, api.OK}, {"\x02ab", 2, "ab", 3, api.OK}, {"\x02\xff\x00\x80", 3, "\xff\x00", 3, api.OK},
		{"\x02abc", 1, "", 0, api.ErrWireLong}, {"\x02abc", 0, "", 0, api.ErrWireLong}, {"\x02abc", -1, "", 0, api.ErrWireLong}, {"\x02abc", -2, "", 0, api.ErrWireLong}, {"\x02abc", math.MinInt, "", 0, api.ErrWireLong},
		{"\x00", 0, "", 1, api.OK}, {"\x00", -1, "", 1, api.OK}, {"\x00", math.MinInt, "", 1, api.OK}, {"\x00ab", 5, "", 1, api.OK}, {"\x00\x00", 0, "", 1, api.OK}, {"\x01a", 0, "", 0, api.ErrWireLong}, {"\x01a", -1, "", 0, api.ErrWireLong},
		{"\x02a", 5, "", 0, api.ErrWireShort}, {"\x02a", 2, "", 0, api.ErrWireShort}, {"\x02", 2, "", 0, api.ErrWireShort}, {"\x03ab", math.MaxInt, "", 0, api.ErrWireShort},
		{"\x02a", 1, "", 0, api.ErrWireLong}, {"\x02", 1, "", 0, api.ErrWireLong},
		{"", 5, "", 0, api.ErrWireShort}, {"\x80", 5, "", 0, api.ErrWireShort}, {nine, -1, "", 0, api.ErrWireShort}, {"", -1, "", 0, api.ErrWireShort},
		{"\x82\x00ab", 5, "", 0, api.ErrWireForm}, {"\x80\x00", -1, "", 0, api.ErrWireForm}, {"\x82\x00", 1, "", 0, api.ErrWireForm}, {nine + "\x00", 5, "", 0, api.ErrWireForm},
		{nine + "\x02", math.MaxInt, "", 0, api.ErrWireLong}, {nine + "\x80", math.MaxInt, "", 0, api.ErrWireLong},
		{ones + "\x01a", math.MaxInt, "", 0, api.ErrWireLong}, {nine + "\x01a", math.MaxInt, "", 0, api.ErrWireLong}, {ones[:8] + "\x7fa", math.MaxInt, "", 0, api.ErrWireShort}, {ones[:8] + "\x7fa", math.MaxInt - 1, "", 0, api.ErrWireLong},
		{long, 300, long[2:], 302, api.OK}, {long + "c", 301, long[2:], 302, api.OK}, {long, 299, "", 0, api.ErrWireLong}, {long[:301], 300, "", 0, api.ErrWireShort},
	} {
		if u, at, e := TakeText(c.s, c.most); u != c.t || at != c.at || e != c.e {
			t.Errorf("P3.3: TakeText(%x, %d) = %q, %d, %d, want %q, %d, %d", c.s, c.most, u, at, e, c.t, c.at, c.e)
		}
	}
}

func TestTakeTextAnyBytes(t *testing.T) {
	r := rand.New(rand.NewSource(6))
	for range 20000 {
		b := make([]byte, r.Intn(20))
		r.Read(b)
		if len(b) > 0 && r.Intn(4) > 0 {
			b[0] = byte(r.Intn(20))
		}
		for most := -2; most < 20; most++ {
			checkTakeText(t, string(b), most)
		}
		checkTakeText(t, string(b), math.MaxInt)
		checkTakeText(t, string(b), math.MinInt)
	}
}

// checkTakeText holds TakeText against an answer worked out with numbers that have no bound.
func checkTakeText(t *testing.T, s string, most int) {
	n, at, want := taken(s)
	long := new(big.Int).SetUint64(n)
	switch {
	case want != api.OK:
	case n != 0 && long.Cmp(big.NewInt(int64(most))) > 0:
		want = api.ErrWireLong
	case long.Cmp(big.NewInt(int64(len(s)-at))) > 0:
		want = api.ErrWireShort
	}
	text, end := "", 0
	if want == api.OK {
		end = at + int(n)
		text = s[at:end]
	}
	if got, to, e := TakeText(s, most); got != text || to != end || e != want {
		t.Errorf("P3.3: TakeText(%x, %d) = %q, %d, %d, want %q, %d, %d", s, most, got, to, e, text, end, want)
	}
}

// behind is what may follow: nothing, noughts, bytes that look as if a number went on, any.
var behind = []string{"", "\x00", "\x01", "\x7f", "\x80", "\x80\x80\x80", "\xff", "a", "\x02ab", "\xff\xff\xff\xff\xff\xff\xff\xff\xff\xff\xff"}

func TestWhatWasPutIsTaken(t *testing.T) {
	for _, n := range numbers() {
		s := Put(n)
		for _, b := range behind {
			if m, at, e := Take(s + b); m != n || at != len(s) || e != api.OK {
				t.Errorf("P3.4: Take(%x) = %d, %d, %d, want %d", s+b, m, at, e, n)
			}
		}
		for i := range len(s) {
			if m, at, e := Take(s[:i]); m != 0 || at != 0 || e != api.ErrWireShort {
				t.Errorf("P3.4: Take(%x) = %d, %d, %d, a beginning of %d", s[:i], m, at, e, n)
			}
		}
	}
	for _, n := range numbers() {
		if m, _, e := Take(Put(Zig(int(n)))); Zag(m) != int(n) || e != api.OK {
			t.Errorf("P3.4: %d is taken as %d, %d", int(n), Zag(m), e)
		}
	}
}

func TestTextThatWasPutIsTaken(t *testing.T) {
	for _, x := range texts() {
		s := PutText(x)
		for _, most := range []int{len(x), len(x) + 1, math.MaxInt} {
			for _, b := range behind {
				if u, at, e := TakeText(s+b, most); u != x || at != len(s) || e != api.OK {
					t.Errorf("P3.4: TakeText of %x, %d: %x, %d, %d", s+b, most, u, at, e)
				}
			}
		}
		if u, at, e := TakeText(s, len(x)-1); x != "" && (u != "" || at != 0 || e != api.ErrWireLong) {
			t.Errorf("P3.3: TakeText of %d bytes, one fewer at most: %x, %d, %d", len(x), u, at, e)
		}
		for i := range min(len(s), 400) {
			for _, end := range []int{i, len(s) - 1 - i} {
				if u, at, e := TakeText(s[:end], len(x)); u != "" || at != 0 || e != api.ErrWireShort {
					t.Errorf("P3.4: TakeText of a beginning of %d bytes of %d: %x, %d, %d", end, len(s), u, at, e)
				}
			}
		}
	}
}

func TestNoNumberBeginsAnother(t *testing.T) {
	l := numbers()[:300]
	for n := range uint64(300) {
		l = append(l, n)
	}
	for _, a := range l {
		for _, b := range l {
			if strings.HasPrefix(Put(a), Put(b)) != (a == b) {
				t.Errorf("P3.4: %d is %x, %d is %x", a, Put(a), b, Put(b))
			}
		}
	}
}

// What is put one behind the other is taken so, by the lengths that the calls tell.
func TestARow(t *testing.T) {
	row := new(bytes.Buffer)
	for _, n := range numbers() {
		row.WriteString(Put(n))
		row.WriteString(PutText(Put(n)))
	}
	s := row.String()
	for _, n := range numbers() {
		m, at, e := Take(s)
		if m != n || e != api.OK {
			t.Fatalf("P3.4: in a row: %d, %d, want %d", m, e, n)
		}
		s = s[at:]
		u, at, e := TakeText(s, 10)
		if u != Put(n) || e != api.OK {
			t.Fatalf("P3.4: in a row: %x, %d, want %x", u, e, Put(n))
		}
		s = s[at:]
	}
	if s != "" {
		t.Errorf("P3.4: in a row: %x is left", s)
	}
}

func FuzzTake(f *testing.F) {
	f.Add("\xac\x02ab", 5)
	f.Add("\x82\x00ab", -1)
	f.Fuzz(func(t *testing.T, s string, most int) {
		checkTake(t, s)
		checkTakeText(t, s, most)
		checkZig(t, uint64(most))
	})
}
