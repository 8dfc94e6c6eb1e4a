package table

import (
	"cmp"
	"math"
	"math/rand"
	"slices"
	"strings"
	"testing"
)

// num is a key that tells no more of an order than its sign, by numbers as great as there are.
type num int

func (k num) Cmp(o num) int {
	switch {
	case k < o:
		return math.MinInt
	case k > o:
		return math.MaxInt
	}
	return 0
}

// text is a key that turns the order of texts round.
type text string

func (k text) Cmp(o text) int { return strings.Compare(string(o), string(k)) }

// tag is a key whose mark counts for nothing, so that two may be the same by Cmp and still be told apart.
type tag struct {
	at   int
	mark string
}

func (k tag) Cmp(o tag) int { return k.at - o.at }

// spot is a key of several fields, of which the first one that differs counts.
type spot struct {
	x    int8
	name string
	odd  [2]bool
}

func (k spot) Cmp(o spot) int {
	flag := func(b bool) int { return len(map[bool]string{true: "1"}[b]) }
	return cmp.Or(cmp.Compare(k.x, o.x), strings.Compare(k.name, o.name), flag(k.odd[0])-flag(o.odd[0]), flag(k.odd[1])-flag(o.odd[1]))
}

// key is what the keys of tests are: == tells apart even those that are the same by Cmp.
type key[K any] interface {
	comparable
	Key[K]
}

// pair is a row of the plain lists that tables are held against.
type pair[K, V any] struct {
	k K
	v V
}

type list[K key[K], V comparable] []pair[K, V]

func (l list[K, V]) place(k K) int {
	return slices.IndexFunc(l, func(p pair[K, V]) bool { return p.k.Cmp(k) == 0 })
}

func (l list[K, V]) sorted() list[K, V] {
	row := slices.Clone(l)
	slices.SortFunc(row, func(p, q pair[K, V]) int { return p.k.Cmp(q.k) })
	return row
}

func (l list[K, V]) put(k K, v V) list[K, V] {
	row, _ := l.drop(k)
	return append(row, pair[K, V]{k, v}).sorted()
}

func (l list[K, V]) drop(k K) (list[K, V], bool) {
	row := list[K, V]{}
	for _, p := range l {
		if p.k.Cmp(k) != 0 {
			row = append(row, p)
		}
	}
	return row, len(row) < len(l)
}

// mergeOf is Merge by the chapter's words, of plain lists.
func mergeOf[K key[K], V comparable](a, b list[K, V], pick func(x, y V) V) list[K, V] {
	row := list[K, V]{}
	for _, p := range a {
		if at := b.place(p.k); at >= 0 {
			p.v = pick(p.v, b[at].v)
		}
		row = append(row, p)
	}
	for _, p := range b {
		if a.place(p.k) < 0 {
			row = append(row, p)
		}
	}
	return row.sorted()
}

// tableOf puts pairs into a table, in the order that they have.
func tableOf[K key[K], V comparable](l list[K, V]) Table[K, V] {
	var t Table[K, V]
	for _, p := range l {
		t = t.Put(p.k, p.v)
	}
	return t
}

// rows are the keys of a table with their values, as All tells them.
func rows[K key[K], V comparable](t Table[K, V]) list[K, V] {
	var l list[K, V]
	for k, v := range t.All {
		l = append(l, pair[K, V]{k, v})
	}
	return l
}

// check holds a table against the rising pairs that it has, and asks it for the keys of others, too.
func check[K key[K], V comparable](t *testing.T, which string, got Table[K, V], want list[K, V], others ...K) {
	t.Helper()
	if got.Len() != len(want) {
		t.Errorf("%s: Len: %d, not %d", which, got.Len(), len(want))
	}
	if l := rows(got); !slices.Equal(l, want) {
		t.Errorf("%s: All: %#v, not %#v", which, l, want)
	}
	keys := make([]K, len(want))
	for at, p := range want {
		keys[at] = p.k
		if v, is := got.Get(p.k); v != p.v || !is {
			t.Errorf("%s: Get(%#v): %#v, %v, not %#v", which, p.k, v, is, p.v)
		}
	}
	if l := got.Keys(); !slices.Equal(l, keys) {
		t.Errorf("%s: Keys: %#v, not %#v", which, l, keys)
	}
	for _, k := range others {
		var v V
		at := want.place(k)
		if at >= 0 {
			v = want[at].v
		}
		if x, is := got.Get(k); x != v || is != (at >= 0) {
			t.Errorf("%s: Get(%#v): %#v, %v, not %#v", which, k, x, is, v)
		}
	}
	checkNode(t, which, got.top)
}

// checkNode holds a node against what is told of nodes: how many there are, and that no side is too heavy.
func checkNode[K Key[K], V any](t *testing.T, which string, n *node[K, V]) int {
	t.Helper()
	if n == nil {
		return 0
	}
	left, right := checkNode(t, which, n.sides[ahead]), checkNode(t, which, n.sides[behind])
	if n.count != left+1+right {
		t.Errorf("%s: a node of %d counts %d", which, left+1+right, n.count)
	}
	if left+1 > 3*(right+1) || right+1 > 3*(left+1) {
		t.Errorf("%s: a node with %d on one side and %d on the other", which, left, right)
	}
	return left + 1 + right
}

// orders lists all orders of the numbers from 0 to n - 1.
func orders(n int) [][]int {
	if n == 0 {
		return [][]int{nil}
	}
	var all [][]int
	for _, row := range orders(n - 1) {
		for at := range n {
			all = append(all, slices.Insert(slices.Clone(row), at, n-1))
		}
	}
	return all
}

// part is the list of those numbers from 0 on whose bit is set, each with a value of its own and the mark.
func part(bits int, mark string) list[tag, string] {
	l := list[tag, string]{}
	for at := 0; bits>>at != 0; at++ {
		if bits>>at&1 != 0 {
			l = append(l, pair[tag, string]{tag{at, mark}, mark + string(rune('0'+at))})
		}
	}
	return l
}

func both(x, y string) string { return "(" + x + "+" + y + ")" }

func TestExample(t *testing.T) {
	var none Table[num, string]
	if got := none.Put(3, "a").Put(1, "b").Put(3, "c").Keys(); !slices.Equal(got, []num{1, 3}) {
		t.Errorf("P14.1: Keys: %v", got)
	}
}

func TestZero(t *testing.T) {
	var none Table[num, string]
	check(t, "P14.1: the zero table", none, nil, math.MinInt, -1, 0, 1, math.MaxInt)
	if none.Len() != 0 || len(none.Keys()) != 0 {
		t.Error("P14.1: Len and Keys of the zero table")
	}
	if v, is := none.Get(0); v != "" || is {
		t.Errorf("P14.1: Get of the zero table: %q, %v", v, is)
	}
	if same, is := none.Drop(0); is || same.Len() != 0 {
		t.Errorf("P14.1: Drop of the zero table: %v, %v", rows(same), is)
	}
	none.All(func(k num, v string) bool {
		t.Errorf("P14.1: All of the zero table: %v, %q", k, v)
		return true
	})
	for k, v := range none.All {
		t.Errorf("P14.1: a range over the zero table: %v, %q", k, v)
	}
	one := none.Put(0, "")
	check(t, "P14.1: Put into the zero table", one, list[num, string]{{0, ""}}, -1, 1)
	check(t, "P14.3: the zero table behind a Put", none, nil, 0)
	if v, is := one.Get(0); v != "" || !is {
		t.Error("P14.1: Get of a key that has the zero value")
	}
	gone, is := one.Drop(0)
	if !is {
		t.Error("P14.1: Drop of the only key")
	}
	check(t, "P14.1: what is left of one key", gone, nil, 0)
	check(t, "P14.3: a table behind a Drop", one, list[num, string]{{0, ""}})
	check(t, "P14.1: put in again", gone.Put(0, "x"), list[num, string]{{0, "x"}})
}

// TestBuilt puts up to seven keys in, in every order, and drops them again from the first to the last, and backwards.
func TestBuilt(t *testing.T) {
	for n := range 8 {
		want := list[num, int]{}
		for at := range n {
			want = append(want, pair[num, int]{num(2 * at), at})
		}
		others := []num{-1}
		for at := range n {
			others = append(others, num(2*at+1))
		}
		for _, order := range orders(n) {
			var got Table[num, int]
			for _, at := range order {
				got = got.Put(num(2*at), at)
			}
			check(t, "P14.1: Puts", got, want, others...)
			for _, k := range others {
				same, is := got.Drop(k)
				if is || same != got {
					t.Errorf("P14.1: Drop(%d) of %v: %v, %v", k, want, rows(same), is)
				}
			}
			for at := range n {
				left, is := got.Drop(num(2 * at))
				if !is {
					t.Errorf("P14.1: Drop(%d) of %v: %v", 2*at, want, is)
				}
				check(t, "P14.1: Drop", left, slices.Delete(slices.Clone(want), at, at+1), num(2*at))
			}
			down, up := got, got
			for at := range n {
				var is, was bool
				up, is = up.Drop(num(2 * at))
				down, was = down.Drop(num(2 * (n - 1 - at)))
				if !is || !was {
					t.Errorf("P14.1: Drop till nothing is left: %v, %v", is, was)
				}
				check(t, "P14.1: Drop from the first key on", up, want[at+1:])
				check(t, "P14.1: Drop from the last key on", down, want[:n-1-at])
			}
			check(t, "P14.3: behind all Drops", got, want)
		}
	}
}

func TestPut(t *testing.T) {
	l := list[tag, string]{{tag{10, "a"}, "1"}, {tag{20, "a"}, "2"}, {tag{30, "a"}, "3"}}
	got := tableOf(l)
	for _, c := range []struct {
		which string
		k     tag
		v     string
		want  list[tag, string]
	}{
		{"ahead of all", tag{9, "b"}, "x", list[tag, string]{{tag{9, "b"}, "x"}, l[0], l[1], l[2]}},
		{"far ahead of all", tag{-1 << 40, ""}, "x", list[tag, string]{{tag{-1 << 40, ""}, "x"}, l[0], l[1], l[2]}},
		{"behind all", tag{31, "b"}, "x", list[tag, string]{l[0], l[1], l[2], {tag{31, "b"}, "x"}}},
		{"far behind all", tag{1 << 40, ""}, "", list[tag, string]{l[0], l[1], l[2], {tag{1 << 40, ""}, ""}}},
		{"between two", tag{15, "b"}, "x", list[tag, string]{l[0], {tag{15, "b"}, "x"}, l[1], l[2]}},
		{"between the other two", tag{29, "b"}, "2", list[tag, string]{l[0], l[1], {tag{29, "b"}, "2"}, l[2]}},
		{"the first key with another value", tag{10, "a"}, "x", list[tag, string]{{tag{10, "a"}, "x"}, l[1], l[2]}},
		{"the second key with another value", tag{20, "a"}, "x", list[tag, string]{l[0], {tag{20, "a"}, "x"}, l[2]}},
		{"the last key with another value", tag{30, "a"}, "", list[tag, string]{l[0], l[1], {tag{30, "a"}, ""}}},
		{"a key with the same value", tag{20, "a"}, "2", l},
		{"the first key with another mark", tag{10, "b"}, "1", list[tag, string]{{tag{10, "b"}, "1"}, l[1], l[2]}},
		{"the second key with another mark", tag{20, ""}, "2", list[tag, string]{l[0], {tag{20, ""}, "2"}, l[2]}},
		{"the last key with another mark and value", tag{30, "b"}, "x", list[tag, string]{l[0], l[1], {tag{30, "b"}, "x"}}},
	} {
		check(t, "P14.1: Put: "+c.which, got.Put(c.k, c.v), c.want, tag{10, "q"}, tag{20, "q"}, tag{30, "q"}, tag{11, "a"})
		check(t, "P14.3: behind Put: "+c.which, got, l, c.k)
	}
}

func TestGet(t *testing.T) {
	got := tableOf(list[tag, int]{{tag{30, "c"}, 3}, {tag{10, "a"}, 1}, {tag{40, ""}, 0}, {tag{20, "b"}, 2}})
	for k, want := range map[tag]pair[int, bool]{
		{10, "a"}: {1, true}, {20, "b"}: {2, true}, {30, "c"}: {3, true}, {40, ""}: {0, true},
		{10, "z"}: {1, true}, {20, ""}: {2, true}, {30, "a"}: {3, true}, {40, "x"}: {0, true},
		{9, "a"}: {}, {-10, ""}: {}, {0, ""}: {}, {11, "a"}: {}, {15, ""}: {}, {19, "b"}: {}, {21, "b"}: {}, {29, "c"}: {}, {31, "c"}: {}, {39, ""}: {}, {41, ""}: {}, {1 << 50, "a"}: {},
	} {
		if v, is := got.Get(k); v != want.k || is != want.v {
			t.Errorf("P14.1: Get(%#v): %d, %v, not %d, %v", k, v, is, want.k, want.v)
		}
	}
}

func TestDrop(t *testing.T) {
	l := list[tag, int]{{tag{10, "a"}, 1}, {tag{20, "b"}, 2}, {tag{30, "c"}, 3}, {tag{40, "d"}, 4}}
	got := tableOf(l)
	for at, p := range l {
		for _, mark := range []string{p.k.mark, "", "z"} {
			left, is := got.Drop(tag{p.k.at, mark})
			if !is {
				t.Errorf("P14.1: Drop(%#v): false", p.k)
			}
			check(t, "P14.1: Drop of a key that is there", left, slices.Delete(slices.Clone(l), at, at+1), p.k)
			again, is := left.Drop(p.k)
			if is || again != left {
				t.Errorf("P14.1: Drop(%#v) twice: %v, %v", p.k, rows(again), is)
			}
			check(t, "P14.1: put in again", left.Put(tag{p.k.at, mark}, 9), l.put(tag{p.k.at, mark}, 9))
			check(t, "P14.3: behind Drop", got, l)
		}
	}
	for _, at := range []int{-1 << 40, 0, 9, 11, 15, 19, 21, 29, 31, 39, 41, 1 << 40} {
		same, is := got.Drop(tag{at, "a"})
		if is || same != got {
			t.Errorf("P14.1: Drop(%d): %v, %v", at, rows(same), is)
		}
		check(t, "P14.1: Drop of a key that is not there", same, l)
	}
}

func TestKeys(t *testing.T) {
	for n := range 40 {
		l := list[num, int]{}
		for at := range n {
			l = append(l, pair[num, int]{num(at), -at})
		}
		got := tableOf(l)
		keys := got.Keys()
		if len(keys) != got.Len() || len(keys) != n {
			t.Errorf("P14.1: Keys of %d keys: %v", n, keys)
		}
		for at, k := range keys {
			if k != num(at) {
				t.Errorf("P14.1: Keys of %d keys: %v", n, keys)
			}
			keys[at] = 99
		}
		others := append(got.Keys(), 98, 97)
		slices.Reverse(others)
		_ = append(keys[:0], 5, 4, 3)
		check(t, "P14.3: behind writing into Keys", got, l)
	}
}

func TestAll(t *testing.T) {
	for n := range 40 {
		want := list[num, int]{}
		for at := range n {
			want = append(want, pair[num, int]{num(at), -at})
		}
		got := tableOf(want)
		for most := range n + 2 {
			var told list[num, int]
			got.All(func(k num, v int) bool {
				told = append(told, pair[num, int]{k, v})
				return len(told) <= most
			})
			if !slices.Equal(told, want[:min(n, most+1)]) {
				t.Errorf("P14.1: All of %d keys, stopped at %d: %v", n, most, told)
			}
			told = nil
			for k, v := range got.All {
				if len(told) == most {
					break
				}
				told = append(told, pair[num, int]{k, v})
			}
			if !slices.Equal(told, want[:min(n, most)]) {
				t.Errorf("P14.1: a range that breaks at %d of %d keys: %v", most, n, told)
			}
		}
		check(t, "P14.3: behind All", got, want)
	}
}

func TestRange(t *testing.T) {
	got := tableOf(list[num, string]{{2, "b"}, {1, "a"}, {3, "c"}})
	first := func() (num, string) {
		for k, v := range got.All {
			return k, v
		}
		return 0, ""
	}
	if k, v := first(); k != 1 || v != "a" {
		t.Errorf("P14.1: a range that returns: %d, %q", k, v)
	}
	said := ""
	for k, v := range got.All {
		if k == 2 {
			continue
		}
		said += v
	}
	if said != "ac" {
		t.Errorf("P14.1: a range that goes on: %q", said)
	}
	said = ""
outer:
	for k, v := range got.All {
		said += v + ":"
		for o, w := range got.All {
			if k == 3 {
				break outer
			}
			if o > k {
				continue outer
			}
			said += w
		}
	}
	if said != "a:ab:abc:" {
		t.Errorf("P14.1: a range within another one: %q", said)
	}
	said = ""
	for k, v := range got.All {
		got = got.Put(k+10, v+v)
		got, _ = got.Drop(k)
		said += v
	}
	if said != "abc" {
		t.Errorf("P14.3: a range of a table that is told anew: %q", said)
	}
	check(t, "P14.3: what a range told anew", got, list[num, string]{{11, "aa"}, {12, "bb"}, {13, "cc"}})
}

func TestMergeExamples(t *testing.T) {
	var none Table[tag, string]
	a := tableOf(list[tag, string]{{tag{1, "a"}, "1"}, {tag{3, "a"}, "3"}, {tag{5, "a"}, "5"}})
	b := tableOf(list[tag, string]{{tag{0, "b"}, "p"}, {tag{3, "b"}, "q"}, {tag{4, "b"}, "r"}, {tag{6, "b"}, "s"}})
	check(t, "P14.2: two zero tables", Merge(none, none, both), nil)
	check(t, "P14.2: a zero table and another", Merge(none, a, both), rows(a))
	check(t, "P14.2: a table and a zero one", Merge(a, none, both), rows(a))
	check(t, "P14.2: two tables", Merge(a, b, both), list[tag, string]{{tag{0, "b"}, "p"}, {tag{1, "a"}, "1"}, {tag{3, "a"}, "(3+q)"}, {tag{4, "b"}, "r"}, {tag{5, "a"}, "5"}, {tag{6, "b"}, "s"}})
	check(t, "P14.2: two tables turned", Merge(b, a, both), list[tag, string]{{tag{0, "b"}, "p"}, {tag{1, "a"}, "1"}, {tag{3, "b"}, "(q+3)"}, {tag{4, "b"}, "r"}, {tag{5, "a"}, "5"}, {tag{6, "b"}, "s"}})
	check(t, "P14.2: a table and itself", Merge(a, a, both), list[tag, string]{{tag{1, "a"}, "(1+1)"}, {tag{3, "a"}, "(3+3)"}, {tag{5, "a"}, "(5+5)"}})
	nothing := func(x, y string) string {
		t.Errorf("P14.2: pick of %q and %q, which are of two keys", x, y)
		return ""
	}
	ahead, behind := tableOf(list[tag, string]{{tag{1, "a"}, "1"}, {tag{2, "a"}, "2"}}), tableOf(list[tag, string]{{tag{3, "b"}, "3"}, {tag{4, "b"}, "4"}})
	want := list[tag, string]{{tag{1, "a"}, "1"}, {tag{2, "a"}, "2"}, {tag{3, "b"}, "3"}, {tag{4, "b"}, "4"}}
	check(t, "P14.2: one ahead of the other", Merge(ahead, behind, nothing), want)
	check(t, "P14.2: one behind the other", Merge(behind, ahead, nothing), want)
	even, odd := tableOf(list[tag, string]{{tag{1, "a"}, "1"}, {tag{3, "b"}, "3"}}), tableOf(list[tag, string]{{tag{2, "a"}, "2"}, {tag{4, "b"}, "4"}})
	check(t, "P14.2: one between the other", Merge(even, odd, nothing), want)
	check(t, "P14.2: one between the other, turned", Merge(odd, even, nothing), want)
}

// TestMerge takes any two parts of six keys, put in rising and falling.
func TestMerge(t *testing.T) {
	for x := range 64 {
		for y := range 64 {
			a, b := part(x, "a"), part(y, "b")
			down := slices.Clone(b)
			slices.Reverse(down)
			p, q := tableOf(a), tableOf(down)
			var picks []string
			got := Merge(p, q, func(x, y string) string {
				picks = append(picks, x+y)
				return both(x, y)
			})
			check(t, "P14.2: Merge", got, mergeOf(a, b, both), tag{0, "c"}, tag{5, "c"}, tag{6, "a"}, tag{-1, "b"})
			var want []string
			for _, k := range part(x&y, "") {
				want = append(want, "a"+k.v+"b"+k.v)
			}
			slices.Sort(picks)
			if !slices.Equal(picks, want) {
				t.Errorf("P14.2: picks of %v and %v: %q", a, b, picks)
			}
			check(t, "P14.3: the first one behind Merge", p, a)
			check(t, "P14.3: the second one behind Merge", q, b)
		}
	}
}

// TestMergeOrder takes any three parts of four keys, in any order, and put together in either way.
func TestMergeOrder(t *testing.T) {
	less := func(x, y int) int { return min(x, y) }
	more := func(x, y int) int { return max(x, y) }
	sum := func(x, y int) int { return x + y }
	tables := func(salt int) (row []Table[num, int]) {
		for bits := range 16 {
			var l list[num, int]
			for at := range 4 {
				if bits>>at&1 != 0 {
					l = append(l, pair[num, int]{num(at), at*salt%7 + salt})
				}
			}
			row = append(row, tableOf(l))
		}
		return row
	}
	for _, pick := range []func(x, y int) int{less, more, sum} {
		for _, a := range tables(3) {
			for _, b := range tables(5) {
				ab := Merge(a, b, pick)
				check(t, "P14.3: Merge in either order", Merge(b, a, pick), rows(ab))
				for _, c := range tables(6) {
					abc := rows(Merge(ab, c, pick))
					for at, other := range []Table[num, int]{Merge(a, Merge(b, c, pick), pick), Merge(Merge(c, a, pick), b, pick), Merge(Merge(c, b, pick), a, pick), Merge(b, Merge(c, a, pick), pick)} {
						if !slices.Equal(rows(other), abc) {
							t.Errorf("P14.3: Merge of three, put together in another way (%d): %v, not %v", at, rows(other), abc)
						}
					}
				}
			}
			if pick(1, 2) < 3 {
				check(t, "P14.3: Merge with itself", Merge(a, a, pick), rows(a))
			}
		}
	}
}

// TestApart tells two tables from one, in each of the ways, and looks at all of them again.
func TestApart(t *testing.T) {
	for n := range 20 {
		l := list[tag, int]{}
		for at := range n {
			l = append(l, pair[tag, int]{tag{2 * at, "a"}, at})
		}
		got := tableOf(l)
		for x := -1; x <= 2*n; x++ {
			one, other := got.Put(tag{x, "b"}, 100), got.Put(tag{x, "c"}, 200)
			left, had := got.Drop(tag{x, "d"})
			far, near := one.Put(tag{1000, ""}, 1), one.Put(tag{-1000, ""}, 2)
			merged := Merge(one, other, func(x, y int) int { return x - y })
			after := merged.Put(tag{x, "e"}, 300).Put(tag{0, "e"}, 301).Put(tag{1001, "e"}, 302)
			gone, _ := l.drop(tag{x, ""})
			check(t, "P14.3: the table itself", got, l, tag{x, ""})
			check(t, "P14.3: one Put", one, l.put(tag{x, "b"}, 100))
			check(t, "P14.3: another Put of that key", other, l.put(tag{x, "c"}, 200))
			check(t, "P14.3: a Drop beside Puts", left, gone, tag{x, ""})
			check(t, "P14.3: a Put behind a Put", far, l.put(tag{x, "b"}, 100).put(tag{1000, ""}, 1))
			check(t, "P14.3: another Put behind a Put", near, l.put(tag{x, "b"}, 100).put(tag{-1000, ""}, 2))
			check(t, "P14.3: a Merge", merged, l.mapped(0).put(tag{x, "b"}, -100))
			check(t, "P14.3: Puts behind a Merge", after, l.mapped(0).put(tag{x, "e"}, 300).put(tag{0, "e"}, 301).put(tag{1001, "e"}, 302))
			if had != (x >= 0 && x%2 == 0 && x < 2*n) {
				t.Errorf("P14.1: Drop(%d) of %d keys: %v", x, n, had)
			}
		}
	}
}

// mapped is l with v in place of all values.
func (l list[K, V]) mapped(v V) list[K, V] {
	row := slices.Clone(l)
	for at := range row {
		row[at].v = v
	}
	return row
}

// walk makes a row of Puts, Drops and Merges of some keys, holds each table that is told against a plain list, and looks
// at all of them again at its end.
func walk[K key[K], V comparable](t *testing.T, pick func(n int) int, steps int, keys []K, values []V) {
	t.Helper()
	tables, lists := []Table[K, V]{{}}, []list[K, V]{nil}
	for range steps {
		at, k, v := len(tables)-1, keys[pick(len(keys))], values[pick(len(values))]
		if pick(4) == 0 {
			at = pick(len(tables))
		}
		from, l := tables[at], lists[at]
		switch pick(8) {
		case 0:
			other := pick(len(tables))
			first := pick(2) == 0
			choose := func(x, y V) V {
				if first {
					return x
				}
				return y
			}
			from, l = Merge(from, tables[other], choose), mergeOf(l, lists[other], choose)
		case 1, 2, 3:
			var had, has bool
			from, had = from.Drop(k)
			l, has = l.drop(k)
			if had != has {
				t.Errorf("P14.1: Drop(%#v) of %#v: %v", k, lists[at], had)
			}
		default:
			from, l = from.Put(k, v), l.put(k, v)
		}
		check(t, "P14.1: what is told", from, l, keys[pick(len(keys))])
		tables, lists = append(tables, from), append(lists, l)
	}
	for at := range tables {
		check(t, "P14.3: what was told", tables[at], lists[at])
	}
}

// kinds are keys and values of several types, told by a maker of numbers.
var kinds = map[string]func(t *testing.T, pick func(n int) int, steps int){
	"numbers": func(t *testing.T, pick func(n int) int, steps int) {
		walk(t, pick, steps, []num{0, 1, -1, 2, 3, 4, 5, 6, 7, 8, 9, 1000, math.MinInt, math.MaxInt, math.MinInt + 1, math.MaxInt - 1}, []string{"", "a", "b"})
	},
	"texts": func(t *testing.T, pick func(n int) int, steps int) {
		walk(t, pick, steps, []text{"", "a", "A", "ab", "aa", "b", "\x00", "\xff", "a\x00", "~"}, []bool{false, true})
	},
	"tags": func(t *testing.T, pick func(n int) int, steps int) {
		keys := []tag{}
		for at := range 24 {
			keys = append(keys, tag{at / 2, string(rune('a' + at%2))})
		}
		walk(t, pick, steps, keys, []int{0, 1, 2, 3})
	},
	"spots": func(t *testing.T, pick func(n int) int, steps int) {
		keys := []spot{}
		for at := range 32 {
			keys = append(keys, spot{int8(at%4 - 2), []string{"", "x"}[at/4%2], [2]bool{at/8%2 == 1, at/16 == 1}})
		}
		walk(t, pick, steps, keys, []spot{{}, {x: 1}, {name: "v"}})
	},
	"pointers": func(t *testing.T, pick func(n int) int, steps int) {
		walk(t, pick, steps, []num{1, 2, 3, 4, 5, 6, 7, 8, 9, 10, 11, 12, 13, 14, 15, 16, 17, 18, 19, 20, 21, 22, 23, 24, 25, 26, 27, 28, 29, 30}, []*int{nil, new(int), new(int)})
	},
}

func TestWalks(t *testing.T) {
	for name, kind := range kinds {
		r := rand.New(rand.NewSource(14))
		t.Run(name, func(t *testing.T) {
			for range 60 {
				kind(t, r.Intn, 60)
			}
		})
	}
}

// TestMany puts many keys in, rising, falling and mixed, and drops them: no table is much deeper than it must be.
func TestMany(t *testing.T) {
	const many = 1 << 15
	mixed := rand.New(rand.NewSource(1)).Perm(many)
	for name, place := range map[string]func(at int) int{
		"rising":  func(at int) int { return at },
		"falling": func(at int) int { return many - 1 - at },
		"mixed":   func(at int) int { return mixed[at] },
		"zigzag":  func(at int) int { return at/2 + at%2*(many-1-at/2*2) },
	} {
		var got Table[num, int]
		for at := range many {
			got = got.Put(num(place(at)), place(at)+1)
		}
		half := got
		for at := range many / 2 {
			half, _ = half.Drop(num(2 * at))
		}
		if got.Len() != many || half.Len() != many/2 || len(got.Keys()) != many {
			t.Fatalf("P14.1: %s: Len: %d, %d", name, got.Len(), half.Len())
		}
		next := 0
		for k, v := range got.All {
			if x, is := half.Get(k); int(k) != next || v != next+1 || is != (next%2 == 1) || is && x != v {
				t.Fatalf("P14.1: %s: %d has %d at %d", name, k, v, next)
			}
			next++
		}
		if next != many || got.top.deep() > 36 || half.top.deep() > 34 {
			t.Errorf("P14.1: %s: %d keys are %d and %d deep", name, next, got.top.deep(), half.top.deep())
		}
		checkNode(t, "P14.1: many keys", got.top)
		checkNode(t, "P14.1: half of them", half.top)
		again := Merge(half, got, func(x, y int) int { return x + y })
		checkNode(t, "P14.2: many keys", again.top)
		for k, v := range again.All {
			if want := int(k) + 1; v != want && (k%2 == 0 || v != 2*want) {
				t.Fatalf("P14.2: %s: %d has %d", name, k, v)
			}
		}
		for at := range many {
			got, _ = got.Drop(num(place(at)))
		}
		if got.Len() != 0 || half.Len() != many/2 || again.Len() != many {
			t.Errorf("P14.3: %s: Len: %d, %d, %d", name, got.Len(), half.Len(), again.Len())
		}
	}
}

func (n *node[K, V]) deep() int {
	if n == nil {
		return 0
	}
	return 1 + max(n.sides[ahead].deep(), n.sides[behind].deep())
}

// TestNoFunctions hands in no function: neither call panics.
func TestNoFunctions(t *testing.T) {
	var none Table[tag, string]
	a, b := tableOf(part(6, "a")), tableOf(part(3, "b"))
	none.All(nil)
	a.All(nil)
	check(t, "P14.2: no pick", Merge(a, b, nil), list[tag, string]{{tag{0, "b"}, "b0"}, {tag{1, "a"}, "a1"}, {tag{2, "a"}, "a2"}})
	check(t, "P14.2: no pick and nothing", Merge(none, none, nil), nil)
}

// loose is a key whose Cmp is no order, and hangs on how often it is asked.
type loose struct {
	asked *int
	row   string
}

func (k loose) Cmp(o loose) int {
	*k.asked++
	return int(k.row[*k.asked%len(k.row)]) - '1'
}

// TestLoose takes keys that are in no order: each call ends, and none panics.
func TestLoose(t *testing.T) {
	r := rand.New(rand.NewSource(3))
	for _, row := range []string{"0", "1", "2", "02", "20", "012", "0012", "2210", "00200", "2000002", "22202222", "0000100002222"} {
		k := loose{new(int), row}
		var one, other Table[loose, int]
		for at := range 300 {
			switch r.Intn(4) {
			case 0:
				one, _ = one.Drop(k)
			case 1:
				one.Get(k)
				other = other.Put(k, at)
			default:
				one = one.Put(k, at)
			}
			if at%50 == 0 {
				one = Merge(one, other, func(x, y int) int { return x })
			}
			if n := len(one.Keys()); n != one.Len() {
				t.Errorf("P14.1: Keys are %d, and Len %d", n, one.Len())
			}
		}
	}
}

// FuzzTable takes bytes as the choices of a walk.
func FuzzTable(f *testing.F) {
	f.Add([]byte("put and drop"))
	f.Add([]byte{0, 1, 2, 3, 4, 5, 6, 7, 8, 9, 8, 7, 6, 5, 4, 3, 2, 1, 0})
	f.Add([]byte("\xff\xfe\x00\x00\x10\x20\x30\x40\x50\x60\x70\x80"))
	f.Fuzz(func(t *testing.T, b []byte) {
		at := 0
		pick := func(n int) int {
			if at == len(b) {
				return 0
			}
			at++
			return int(b[at-1]) % n
		}
		for _, name := range []string{"numbers", "tags", "texts"} {
			kinds[name](t, pick, min(len(b)/3, 60))
		}
	})
}
