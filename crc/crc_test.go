package crc

import (
	"encoding/binary"
	"hash/crc32"
	"math"
	"math/big"
	"math/bits"
	"math/rand"
	"slices"
	"strings"
	"testing"
)

// texts are ordinary ones, the empty one, those of fewer than four bytes, of four and of more, and such as are of any bytes.
func texts() []string {
	l := []string{"", "a", "ab", "abc", "abcd", "abcde", "123456789", "\x00", "\x00\x00\x00\x00", "\xff\xff\xff\xff", "\xff\xff\xff", "\x80\x7f", "köstlich", "CJ\x03\x00", "\n\t%;="}
	for c := range 256 {
		l = append(l, string([]byte{byte(c)}), "x"+string([]byte{byte(c)}))
	}
	r := rand.New(rand.NewSource(4))
	for _, long := range []int{0, 1, 2, 3, 4, 5, 7, 8, 9, 31, 32, 33, 63, 64, 65, 255, 256, 257, 1000, 5000} {
		b := make([]byte, long)
		r.Read(b)
		l = append(l, string(b), strings.Repeat("\x00", long), strings.Repeat("\xff", long), strings.Repeat("ab", long))
	}
	return l
}

// rest tells by another way what Sum answers: the bits are those of one great number, and its rest is what a long division leaves.
func rest(s string) uint32 {
	n := new(big.Int)
	for i := range len(s) {
		n.Lsh(n, 8)
		n.Or(n, big.NewInt(int64(bits.Reverse8(s[i]))))
	}
	n.Lsh(n, 32)
	n.Xor(n, new(big.Int).Lsh(big.NewInt(math.MaxUint32), uint(8*len(s))))
	by := new(big.Int).SetUint64(1<<32 | uint64(bits.Reverse32(3988292384)))
	for n.BitLen() > 32 {
		n.Xor(n, new(big.Int).Lsh(by, uint(n.BitLen()-33)))
	}
	return ^bits.Reverse32(uint32(n.Uint64()))
}

// behind gives s with n behind it, the lowest byte first.
func behind(s string, n uint32) string {
	return string(binary.LittleEndian.AppendUint32([]byte(s), n))
}

// turn gives s with those bits turned that are 1 in row, whose lowest bit lies at the bit at of s. Bits beyond the end are left out.
func turn(s string, at int, row uint64) string {
	b := []byte(s)
	for ; row != 0; row &= row - 1 {
		if i := at + bits.TrailingZeros64(row); i < 8*len(b) {
			b[i/8] ^= 1 << (i % 8)
		}
	}
	return string(b)
}

func TestTable(t *testing.T) {
	table := Table()
	for c, want := range map[int]uint32{
		0: 0, 1: 0x77073096, 2: 0xee0e612c, 3: 0x990951ba, 4: 0x076dc419, 8: 0x0edb8832, 16: 0x1db71064, 32: 0x3b6e20c8,
		64: 0x76dc4190, 128: 3988292384, 254: 0x5a05df1b, 255: 0x2d02ef8d,
	} {
		if table[c] != want {
			t.Errorf("P4.1: Table()[%d] = %x, want %x", c, table[c], want)
		}
	}
	for c := range table {
		want := uint32(c)
		for range 8 {
			want = want/2 ^ want%2*3988292384
		}
		if table[c] != want || table[c] != crc32.IEEETable[c] {
			t.Errorf("P4.1: Table()[%d] = %x, want %x", c, table[c], want)
		}
	}
}

// What is written into a table that was told changes no later answer.
func TestTableIsTheCallers(t *testing.T) {
	table := Table()
	clear(table[:])
	if again := Table(); again != [256]uint32(*crc32.IEEETable) {
		t.Error("P4.1: Table() is another one, once what it told was written into")
	}
	if Step(0, 1) != 0x77073096 || Sum("123456789") != 3421780262 {
		t.Error("P4.2: Step or Sum lean on a table that was told")
	}
}

func TestStep(t *testing.T) {
	table := Table()
	for _, c := range []struct {
		sum  uint32
		c    byte
		want uint32
	}{
		{0, 0, 0}, {0, 1, 0x77073096}, {1, 0, 0x77073096}, {1, 1, 0}, {0, 128, 3988292384}, {0, 255, 0x2d02ef8d}, {255, 255, 0}, {255, 0, 0x2d02ef8d},
		{256, 0, 1}, {0x12345600, 0, 0x00123456}, {0x12345601, 1, 0x00123456}, {0x12345600, 128, 0xedb88320 ^ 0x00123456},
		{math.MaxUint32, 255, 0x00ffffff}, {math.MaxUint32, 0, 0x2dfd1072}, {math.MaxUint32, 'a', ^uint32(0xe8b7be43)},
	} {
		if got := Step(c.sum, c.c); got != c.want {
			t.Errorf("P4.2: Step(%x, %d) = %x, want %x", c.sum, c.c, got, c.want)
		}
	}
	r := rand.New(rand.NewSource(5))
	for c := range 256 {
		for range 200 {
			sum, c := r.Uint32()>>r.Intn(32), byte(c)
			got, want := Step(sum, c), ^crc32.Update(^sum, crc32.IEEETable, []byte{c})
			if got != want || got != sum/256^table[uint32(c)^sum%256] {
				t.Errorf("P4.2: Step(%x, %d) = %x, want %x", sum, c, got, want)
			}
		}
	}
}

func TestSumWrittenOut(t *testing.T) {
	for _, c := range []struct {
		s    string
		want uint32
	}{
		{"", 0}, {"123456789", 3421780262}, {"a", 0xe8b7be43}, {"abc", 0x352441c2}, {"\x00", 0xd202ef8d}, {"\xff", 0xff000000},
		{"\x00\x00\x00\x00", 0x2144df1c}, {"\xff\xff\xff\xff", math.MaxUint32}, {"The quick brown fox jumps over the lazy dog", 0x414fa339},
	} {
		if got := Sum(c.s); got != c.want {
			t.Errorf("P4.2: Sum(%q) = %x, want %x", c.s, got, c.want)
		}
	}
	if got := Sum(); got != 0 {
		t.Errorf("P4.2: Sum() = %x", got)
	}
	if got := Sum([]string{}...); got != 0 {
		t.Errorf("P4.2: Sum of an empty list = %x", got)
	}
}

func TestSum(t *testing.T) {
	for _, s := range texts() {
		checkSum(t, s)
	}
}

// checkSum holds Sum against Step for each byte, the library, and a long division.
func checkSum(t *testing.T, s string) {
	got := Sum(s)
	steps := uint32(math.MaxUint32)
	for _, c := range []byte(s) {
		steps = Step(steps, c)
	}
	if want := crc32.ChecksumIEEE([]byte(s)); got != want || got != math.MaxUint32-steps {
		t.Errorf("P4.2: Sum(%x) = %x, by steps %x, want %x", s, got, math.MaxUint32-steps, want)
	}
	if len(s) < 300 && got != rest(s) {
		t.Errorf("P4.2: Sum(%x) = %x, and a division leaves %x", s, got, rest(s))
	}
}

func TestTail(t *testing.T) {
	for _, c := range []struct {
		l    []string
		want string
	}{
		{[]string{"123456789"}, "\x26\x39\xf4\xcb"}, {[]string{"1234", "", "56789"}, "\x26\x39\xf4\xcb"}, {[]string{"a"}, "\x43\xbe\xb7\xe8"},
		{nil, "\x00\x00\x00\x00"}, {[]string{""}, "\x00\x00\x00\x00"}, {[]string{"", ""}, "\x00\x00\x00\x00"},
		{[]string{"\xff"}, "\x00\x00\x00\xff"}, {[]string{"\xff\xff\xff\xff"}, "\xff\xff\xff\xff"}, {[]string{"\x00"}, "\x8d\xef\x02\xd2"},
	} {
		if got := Tail(c.l...); got != c.want {
			t.Errorf("P4.3: Tail(%q) = %x, want %x", c.l, got, c.want)
		}
	}
	for _, s := range texts() {
		checkTail(t, s)
	}
}

func checkTail(t *testing.T, s string) {
	if got, want := s+Tail(s), behind(s, crc32.ChecksumIEEE([]byte(s))); got != want {
		t.Errorf("P4.3: Tail(%x) is the end of %x, want %x", s, got, want)
	}
	if !Right(s + Tail(s)) {
		t.Errorf("P4.3: Right(%x) = false", s+Tail(s))
	}
}

func TestRight(t *testing.T) {
	for s, want := range map[string]bool{
		"": false, "\x00": false, "\x00\x00": false, "\x00\x00\x00": false, "\x00\x00\x00\x00": true, "\x00\x00\x00\x00\x00": false,
		"a": false, "abc": false, "abcd": false, "\x01\x00\x00\x00": false, "\x00\x00\x00\x01": false, "\xff\xff\xff\xff": false,
		"\xff\x00\x00\x00\xff": true, "\xff\xff\x00\x00\x00": false, "\xff\xff\xff\xff\xff\xff\xff\xff": true,
		"a\x43\xbe\xb7\xe8": true, "b\x43\xbe\xb7\xe8": false, "a\xe8\xb7\xbe\x43": false, "a\x43\xbe\xb7": false, "a\x43\xbe\xb7\xe8\x00": false, "\x43\xbe\xb7\xe8": false, "\x43\xbe\xb7\xe8a": false,
		"123456789\x26\x39\xf4\xcb": true, "123456789\xcb\xf4\x39\x26": false, "123456789\x26\x39\xf4": false, "123456788\x26\x39\xf4\xcb": false, "123456789": false, "23456789\x26\x39\xf4\xcb": false,
	} {
		if got := Right(s); got != want {
			t.Errorf("P4.3: Right(%x) = %v", s, got)
		}
	}
}

func TestRightAnyBytes(t *testing.T) {
	for _, s := range texts() {
		checkRight(t, s)
		whole := s + Tail(s)
		for i := range min(len(whole), 12) {
			checkRight(t, whole[i:])
			checkRight(t, whole[:i])
			checkRight(t, whole[:len(whole)-i])
		}
	}
	r := rand.New(rand.NewSource(6))
	for range 20000 {
		b := make([]byte, r.Intn(12))
		r.Read(b)
		checkRight(t, string(b))
	}
}

// checkRight works out by the library whether s ends with the sum of what is ahead.
func checkRight(t *testing.T, s string) {
	want := false
	if len(s) > 3 {
		front, end := s[:len(s)-4], []byte(s[len(s)-4:])
		want = crc32.ChecksumIEEE([]byte(front)) == binary.LittleEndian.Uint32(end)
	}
	if got := Right(s); got != want {
		t.Errorf("P4.3: Right(%x) = %v", s, got)
	}
}

func TestInParts(t *testing.T) {
	for _, s := range texts() {
		for i := range min(len(s)+1, 70) {
			checkParts(t, []string{s[:i], s[i:]})
			checkParts(t, []string{"", s[:i/2], "", s[i/2 : i], s[i:], ""})
		}
	}
	checkParts(t, nil)
	checkParts(t, []string{"", "", ""})
	checkParts(t, strings.Split("123456789", ""))
	r := rand.New(rand.NewSource(7))
	for range 500 {
		checkParts(t, slices.Collect(func(yield func(string) bool) {
			for range r.Intn(30) {
				b := make([]byte, r.Intn(6))
				r.Read(b)
				if !yield(string(b)) {
					return
				}
			}
		}))
	}
}

// checkParts holds what the parts tell against what the one text tells, and looks whether the list was left as it was.
func checkParts(t *testing.T, l []string) {
	s, was := strings.Join(l, ""), slices.Clone(l)
	want := crc32.ChecksumIEEE([]byte(s))
	if got := Sum(l...); got != want || got != Sum(s) {
		t.Errorf("P4.4: Sum(%q) = %x, want %x", l, got, want)
	}
	if got := Tail(l...); s+got != behind(s, want) || got != Tail(s) {
		t.Errorf("P4.4: Tail(%q) = %x", l, got)
	}
	if !slices.Equal(l, was) {
		t.Errorf("R5: %q was changed to %q", was, l)
	}
}

// wholes are texts with their sums, short enough for each bit to be turned.
func wholes() []string {
	l := []string{Tail()}
	for _, s := range texts() {
		if len(s) > 1 && len(s) < 70 && s[0] != 'x' {
			l = append(l, s+Tail(s))
		}
	}
	return append(l, "\x00"+Tail("\x00"), "\xff"+Tail("\xff"), "a"+Tail("a"))
}

func TestOneBitTurned(t *testing.T) {
	for _, s := range wholes() {
		for at := range 8 * len(s) {
			if Right(turn(s, at, 1)) {
				t.Errorf("P4.5: Right(%x), the bit %d turned", s, at)
			}
		}
	}
	b := make([]byte, 5000)
	rand.New(rand.NewSource(10)).Read(b)
	long := string(b) + Tail(string(b))
	for at := 0; at < 8*len(long); at += 7 {
		if Right(turn(long, at, 1)) {
			t.Errorf("P4.5: Right of %d bytes, the bit %d turned", len(long), at)
		}
	}
}

// Of each place, so of the beginning, the seam and the end: all bits of 2 to 32 turned, the two outermost ones, and some of them.
func TestBitsTurnedInARow(t *testing.T) {
	r := rand.New(rand.NewSource(8))
	for _, s := range wholes() {
		for at := range 8 * len(s) {
			for wide := 2; wide <= 32; wide += 1 + r.Intn(3) {
				all, ends := uint64(1)<<wide-1, uint64(1)<<(wide-1)|1
				for _, row := range []uint64{all, ends, r.Uint64()&all | ends} {
					if Right(turn(s, at, row)) {
						t.Errorf("P4.5: Right(%x), with %b turned from the bit %d on", s, row, at)
					}
				}
			}
		}
	}
}

func TestWholeBytesTurned(t *testing.T) {
	for _, s := range wholes() {
		for at := 0; at+4 <= len(s); at++ {
			for _, four := range []string{"\x00\x00\x00\x00", "\xff\xff\xff\xff", "abcd", "\x26\x39\xf4\xcb", Tail("x")} {
				other := s[:at] + four + s[at+4:]
				if Right(other) != (other == s) {
					t.Errorf("P4.5: Right(%x) = %v, and %x is right", other, Right(other), s)
				}
			}
		}
	}
}

// amiss tells which bits of the sum are wrong in s.
func amiss(s string) uint32 {
	at := len(s) - 4
	return Sum(s[:at]) ^ binary.LittleEndian.Uint32([]byte(s[at:]))
}

// What turned bits do to the sum, they do one by one. So no rows of bits, of all 2^32 that begin in a place, need be tried, if no bit's doing is that of others of the 32.
func TestNoRowOfBitsUndoesItself(t *testing.T) {
	for _, s := range wholes() {
		for at := range 8*len(s) - 31 {
			var by [32]uint32 // by its highest bit
			for i := range 32 {
				n := amiss(turn(s, at+i, 1))
				for n != 0 && by[bits.Len32(n)-1] != 0 {
					n ^= by[bits.Len32(n)-1]
				}
				if n == 0 {
					t.Fatalf("P4.5: Right(%x), with bits turned up to the bit %d, from %d on", s, at+i, at)
				}
				by[bits.Len32(n)-1] = n
			}
		}
	}
}

func TestBitsTurnOneByOne(t *testing.T) {
	r := rand.New(rand.NewSource(9))
	for _, s := range wholes() {
		for range 50 {
			a, b := turn(s, r.Intn(8*len(s)), r.Uint64()), turn(s, r.Intn(8*len(s)), r.Uint64())
			both := []byte(a)
			for i := range both {
				both[i] ^= b[i] ^ s[i]
			}
			if amiss(string(both)) != amiss(a)^amiss(b) {
				t.Errorf("P4.5: %x and %x, of %x, don't add up", a, b, s)
			}
		}
	}
}

// The 33 bits by which the division is made are the shortest row that a sum does not tell: so 32 is the edge.
func TestThirtyThreeInARow(t *testing.T) {
	const by = 3988292384<<1 | 1
	for _, s := range wholes() {
		for at := range 8*len(s) - 32 {
			if !Right(turn(s, at, by)) {
				t.Errorf("P4.3: Right(%x) = false: the 33 bits of the division turned from the bit %d on", turn(s, at, by), at)
			}
			if Right(turn(s, at, by&^(1<<32))) || Right(turn(s, at, by&^1)) {
				t.Errorf("P4.5: Right(%x), with 32 bits turned about the bit %d", s, at)
			}
		}
	}
}

func FuzzSum(f *testing.F) {
	f.Add("123456789", 4, uint32(1))
	f.Add("", 0, uint32(math.MaxUint32))
	f.Fuzz(func(t *testing.T, s string, at int, row uint32) {
		checkSum(t, s)
		checkTail(t, s)
		checkRight(t, s)
		cut := int(uint(at) % uint(len(s)+1))
		checkParts(t, []string{s[:cut], s[cut:]})
		whole := s + Tail(s)
		if other := turn(whole, int(uint(at)%uint(8*len(whole))), uint64(row)); Right(other) != (other == whole) {
			t.Errorf("P4.5: Right(%x) = %v, and %x is right", other, Right(other), whole)
		}
	})
}
