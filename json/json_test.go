package json

import (
	"bytes"
	stdjson "encoding/json"
	"fmt"
	"math"
	"math/rand"
	"regexp"
	"slices"
	"strconv"
	"strings"
	"testing"
	"unicode/utf8"

	"cracknel/api"
	"cracknel/quote"
)

// one is the text of the byte c.
func one(c int) string { return string([]byte{byte(c)}) }

// null, num and so on are items of one kind each, and deep and so on texts of so many arrays or objects, one in the other.
func null(depth int) Item             { return Item{Depth: depth, Kind: Null} }
func num(depth, n int) Item           { return Item{Depth: depth, Kind: Number, N: n} }
func str(depth int, text string) Item { return Item{Depth: depth, Kind: String, Text: text} }
func arr(depth int) Item              { return Item{Depth: depth, Kind: Array} }
func obj(depth int) Item              { return Item{Depth: depth, Kind: Object} }
func (it Item) under(key string) Item { it.Key = key; return it }
func row(l ...Item) []Item            { return l }
func same(a, b []Item) bool           { return slices.Equal(a, b) }
func deep(n int, s string) string     { return strings.Repeat("[", n) + s + strings.Repeat("]", n) }
func deepKeys(n int, s string) string { return strings.Repeat(`{"a":`, n) + s + strings.Repeat("}", n) }
func deepMixed(n int, s string) string {
	return strings.Repeat(`[{"a":`, n/2) + s + strings.Repeat("}]", n/2)
}

// boxes is a row of n arrays, one in the other.
func boxes(n int) []Item {
	var l []Item
	for i := range n {
		l = append(l, arr(i))
	}
	return l
}

// holderOf is the place of the last item ahead of i with one Depth less, or -1.
func holderOf(l []Item, i int) int {
	for h := i - 1; h >= 0; h-- {
		if l[h].Depth == l[i].Depth-1 {
			return h
		}
	}
	return -1
}

// placed is whether the Depth of item i fits, by the chapter's words.
func placed(l []Item, i int) bool {
	if i == 0 {
		return l[0].Depth == 0
	}
	most := l[i-1].Depth
	if k := l[i-1].Kind; k == Array || k == Object {
		most++
	}
	return l[i].Depth >= 1 && l[i].Depth <= most
}

// named is whether the Key of item i fits, by the chapter's words.
func named(l []Item, i int) bool {
	h := holderOf(l, i)
	if i == 0 || l[h].Kind != Object {
		return l[i].Key == ""
	}
	for j := range l {
		if j != i && j > h && l[j].Depth == l[i].Depth && holderOf(l, j) == h && l[j].Key == l[i].Key {
			return false
		}
	}
	return utf8.ValidString(l[i].Key)
}

// rightOf is whether l is right, by the chapter's words, item by item.
func rightOf(l []Item) bool {
	for i, it := range l {
		if !placed(l, i) || !slices.Contains([]int{Null, False, True, Number, String, Array, Object}, it.Kind) {
			return false
		}
	}
	for i, it := range l {
		full := it.Kind == Array || it.Kind == Object
		if !named(l, i) || !utf8.ValidString(it.Text) || it.Text != "" && it.Kind != String || it.N != 0 && it.Kind != Number || it.Depth > 64 || full && it.Depth >= 64 {
			return false
		}
	}
	return len(l) > 0
}

// inQuotes is what a valid text is written as.
func inQuotes(s string) string {
	text, is := quote.Write(s)
	if !is {
		panic(s)
	}
	return text
}

// printOf is the text of the value at l[i], and the place behind its row, by the chapter's words; blank is written about each thing.
func printOf(l []Item, i int, blank func() string) (string, int) {
	it, next := l[i], i+1
	text := ""
	switch it.Kind {
	case Number:
		text = strconv.Itoa(it.N)
	case String:
		text = inQuotes(it.Text)
	case Array, Object:
		signs, parts := "[]", []string{}
		if it.Kind == Object {
			signs = "{}"
		}
		for next < len(l) && l[next].Depth > it.Depth {
			head := ""
			if it.Kind == Object {
				head = blank() + inQuotes(l[next].Key) + blank() + ":"
			}
			var part string
			part, next = printOf(l, next, blank)
			parts = append(parts, head+part)
		}
		text = signs[:1] + strings.Join(parts, ",") + blank() + signs[1:]
	default:
		text = map[int]string{Null: "null", False: "false", True: "true"}[it.Kind]
	}
	return blank() + text + blank(), next
}

func noBlank() string { return "" }

// plain is what a right row is printed as.
func plain(l []Item) string {
	text, _ := printOf(l, 0, noBlank)
	return text
}

var numeric = regexp.MustCompile(`^-?[0-9][-+.Ee0-9]*|^-[-+.Ee0-9]*`)

// parseOf reads s by the chapter's words, from the left, as a machine with a stack of what is open and a state of what is to come.
func parseOf(s string) ([]Item, api.Errno) {
	const (
		value = iota
		valueOrEnd
		key
		keyOrEnd
		colon
		behind
	)
	var l []Item
	var open []byte
	keys := []map[string]bool{}
	state, name := value, ""
	put := func(it Item) {
		it.Depth, it.Key = len(open), name
		l, name, state = append(l, it), "", behind
	}
	for {
		s = strings.TrimLeft(s, "\t\n\r ")
		if state == behind && len(open) == 0 {
			if s != "" {
				return nil, api.ErrJsonForm
			}
			return l, api.OK
		}
		if s == "" {
			return nil, api.ErrJsonForm
		}
		c := s[0]
		switch {
		case (state == valueOrEnd || state == keyOrEnd || state == behind) && c == open[len(open)-1]:
			open, keys, s, state = open[:len(open)-1], keys[:len(keys)-1], s[1:], behind
		case state == behind && c == ',':
			s, state = s[1:], value
			if open[len(open)-1] == '}' {
				state = key
			}
		case state == colon && c == ':':
			s, state = s[1:], value
		case state == key && c == 34 || state == keyOrEnd && c == 34:
			text, long, err := quote.Read(s)
			if err != api.OK {
				return nil, err
			}
			if keys[len(keys)-1][text] {
				return nil, api.ErrJsonTwice
			}
			keys[len(keys)-1][text] = true
			s, name, state = s[long:], text, colon
		case state != value && state != valueOrEnd:
			return nil, api.ErrJsonForm
		case c == '[' || c == '{':
			if len(open) == 64 {
				return nil, api.ErrJsonDepth
			}
			kind, end, next := Array, byte(']'), valueOrEnd
			if c == '{' {
				kind, end, next = Object, '}', keyOrEnd
			}
			put(Item{Kind: kind})
			open, keys, s, state = append(open, end), append(keys, map[string]bool{}), s[1:], next
		case c == 34:
			text, long, err := quote.Read(s)
			if err != api.OK {
				return nil, err
			}
			put(Item{Kind: String, Text: text})
			s = s[long:]
		case numeric.MatchString(s):
			body := numeric.FindString(s)
			n, err := strconv.ParseInt(body, 10, 64)
			if err != nil || strconv.FormatInt(n, 10) != body {
				return nil, api.ErrJsonNumber
			}
			put(Item{Kind: Number, N: int(n)})
			s = s[len(body):]
		case strings.HasPrefix(s, "null"):
			put(Item{Kind: Null})
			s = s[4:]
		case strings.HasPrefix(s, "true"):
			put(Item{Kind: True})
			s = s[4:]
		case strings.HasPrefix(s, "false"):
			put(Item{Kind: False})
			s = s[5:]
		default:
			return nil, api.ErrJsonForm
		}
	}
}

// checkRight holds Right and Print of l against the chapter's words, and looks whether l stays as it was.
func checkRight(t *testing.T, l []Item) {
	t.Helper()
	was := slices.Clone(l)
	want, text := rightOf(l), ""
	if want {
		text = plain(l)
	}
	if got := Right(l); got != want {
		t.Errorf("P8.1: Right(%v) = %v, want %v", l, got, want)
	}
	if got := Print(l); got != text {
		t.Errorf("P8.2: Print(%v) = %q, want %q", l, got, text)
	}
	if !same(l, was) {
		t.Errorf("R5: %v became %v", was, l)
	}
	if !want {
		return
	}
	if back, e := Parse(text); e != api.OK || !same(back, l) {
		t.Errorf("P8.4: Parse(%q) = %v, %d, want %v", text, back, e, l)
	}
}

// checkParse holds Parse of s against the chapter's words, and looks what follows.
func checkParse(t *testing.T, s string) {
	t.Helper()
	want, no := parseOf(s)
	got, e := Parse(s)
	if e != no || !same(got, want) {
		t.Errorf("P8.3: Parse(%q) = %v, %d, want %v, %d", s, got, e, want, no)
	}
	if e != api.OK {
		return
	}
	text := Print(got)
	if !Right(got) || text == "" {
		t.Errorf("P8.4: Parse(%q) = %v is not right", s, got)
	}
	if back, e := Parse(text); e != api.OK || !same(back, got) {
		t.Errorf("P8.4: Parse(%q) = %v, %d, want %v", text, back, e, got)
	}
	if !stdjson.Valid([]byte(s)) {
		t.Errorf("P8.3: Parse(%q) reads what is no JSON", s)
	}
}

// checkError looks whether Parse of s tells that error, and nothing else.
func checkError(t *testing.T, s string, no api.Errno) {
	t.Helper()
	if l, e := Parse(s); e != no || len(l) != 0 {
		t.Errorf("P8.3: Parse(%q) = %v, %d, want %d alone", s, l, e, no)
	}
	checkParse(t, s)
}

func TestKinds(t *testing.T) {
	if l := []int{Null, False, True, Number, String, Array, Object}; !slices.Equal(l, []int{1, 2, 3, 4, 5, 6, 7}) {
		t.Errorf("P8.1: the kinds are %v", l)
	}
}

func TestErrors(t *testing.T) {
	for e, no := range map[api.Errno]int{api.ErrJsonForm: 80, api.ErrJsonDepth: 81, api.ErrJsonTwice: 82, api.ErrJsonNumber: 83} {
		if int(e) != no {
			t.Errorf("P8.3: error %d, want %d", e, no)
		}
	}
}

// TestExamples are those of the chapter, and of DOC.md.
func TestExamples(t *testing.T) {
	l, e := Parse(`{"a": [1, "b"]}`)
	if want := row(obj(0), arr(1).under("a"), num(2, 1), str(2, "b")); e != api.OK || !same(l, want) {
		t.Errorf("P8.3: %v, %d", l, e)
	}
	if s := Print(l); s != `{"a":[1,"b"]}` {
		t.Errorf("P8.2: %q", s)
	}
	checkError(t, "[1.5]", api.ErrJsonNumber)
	checkError(t, "[01]", api.ErrJsonNumber)
	checkError(t, "[-0]", api.ErrJsonNumber)
	checkError(t, `{"a":1,"a":2}`, api.ErrJsonTwice)
}

// printed are right rows, and what is printed of each.
func printed() []struct {
	l []Item
	s string
} {
	return []struct {
		l []Item
		s string
	}{
		{row(null(0)), "null"},
		{row(Item{Kind: False}), "false"},
		{row(Item{Kind: True}), "true"},
		{row(num(0, 0)), "0"},
		{row(num(0, 7)), "7"},
		{row(num(0, -1)), "-1"},
		{row(num(0, math.MaxInt)), "9223372036854775807"},
		{row(num(0, math.MinInt)), "-9223372036854775808"},
		{row(str(0, "")), `""`},
		{row(str(0, "null")), `"null"`},
		{row(str(0, "a\"\\/\n\x01ä€\U0001f600")), `"a\"\\/\n\u0001ä€😀"`},
		{row(arr(0)), "[]"},
		{row(obj(0)), "{}"},
		{row(arr(0), null(1)), "[null]"},
		{row(arr(0), null(1), Item{Depth: 1, Kind: False}, Item{Depth: 1, Kind: True}, num(1, 5), str(1, "x"), arr(1), obj(1)), `[null,false,true,5,"x",[],{}]`},
		{row(obj(0), null(1).under("a")), `{"a":null}`},
		{row(obj(0), null(1).under("")), `{"":null}`},
		{row(obj(0), null(1)), `{"":null}`},
		{row(obj(0), null(1).under("b"), num(1, -3).under("a"), str(1, "a").under(""), arr(1).under("c"), obj(1).under("d")), `{"b":null,"a":-3,"":"a","c":[],"d":{}}`},
		{row(obj(0), null(1).under("\"\t\x00é\U0010ffff")), `{"\"\t\u0000é` + "\U0010ffff" + `":null}`},
		{row(arr(0), arr(1), arr(2)), "[[[]]]"},
		{row(arr(0), arr(1), arr(1)), "[[],[]]"},
		{row(arr(0), arr(1), arr(2), null(3), null(1)), "[[[null]],null]"},
		{row(arr(0), arr(1), null(2), arr(1), null(2)), "[[null],[null]]"},
		{row(arr(0), obj(1), null(2).under("a"), obj(1), null(2).under("a")), `[{"a":null},{"a":null}]`},
		{row(obj(0), obj(1).under("a"), obj(2).under("a"), obj(3).under("a")), `{"a":{"a":{"a":{}}}}`},
		{row(obj(0), obj(1).under("a"), null(2).under("b"), null(1).under("b")), `{"a":{"b":null},"b":null}`},
		{row(obj(0), arr(1).under("a"), obj(2), arr(3).under("a"), num(4, 1), num(4, 1), num(1, 2).under("b")), `{"a":[{"a":[1,1]}],"b":2}`},
		{row(arr(0), arr(1), arr(2), arr(3), arr(4), null(5), obj(2), null(3).under("k"), null(1)), `[[[[[null]]],{"k":null}],null]`},
		{row(obj(0), obj(1).under("x"), null(2).under("x"), obj(1).under("y"), null(2).under("x"), null(2).under("y")), `{"x":{"x":null},"y":{"x":null,"y":null}}`},
	}
}

func TestPrinted(t *testing.T) {
	for _, x := range printed() {
		if !Right(x.l) {
			t.Errorf("P8.1: %v is not right", x.l)
		}
		if s := Print(x.l); s != x.s {
			t.Errorf("P8.2: Print(%v) = %q, want %q", x.l, s, x.s)
		}
		if l, e := Parse(x.s); e != api.OK || !same(l, x.l) {
			t.Errorf("P8.3: Parse(%q) = %v, %d, want %v", x.s, l, e, x.l)
		}
		checkRight(t, x.l)
		checkParse(t, x.s)
	}
}

// TestWrongRows has for each part of P8.1 a row that breaks it.
func TestWrongRows(t *testing.T) {
	for name, l := range map[string][]Item{
		"none":                          nil,
		"empty":                         {},
		"Kind 0":                        row(Item{}),
		"Kind below the first":          row(Item{Kind: Null - 1}),
		"Kind below 0":                  row(Item{Kind: -1}),
		"the least Kind":                row(Item{Kind: math.MinInt}),
		"Kind above the last":           row(Item{Kind: Object + 1}),
		"the greatest Kind":             row(Item{Kind: math.MaxInt}),
		"Kind 0 of a member":            row(arr(0), Item{Depth: 1}),
		"Kind above of a member":        row(arr(0), Item{Depth: 1, Kind: Object + 1}),
		"first of Depth 1":              row(null(1)),
		"first of Depth -1":             row(null(-1)),
		"first array of Depth 1":        row(arr(1), null(2)),
		"first with a Key":              row(null(0).under("a")),
		"first object with a Key":       row(obj(0).under("a"), null(1).under("b")),
		"second of Depth 0":             row(null(0), null(0)),
		"second of Depth 0, array":      row(arr(0), null(0)),
		"third of Depth 0":              row(arr(0), null(1), null(0)),
		"Depth below 0":                 row(arr(0), null(-1)),
		"the least Depth":               row(arr(0), null(math.MinInt)),
		"the greatest Depth":            row(arr(0), null(math.MaxInt)),
		"two more behind an array":      row(arr(0), null(2)),
		"two more behind an object":     row(obj(0), null(2).under("a")),
		"one more behind null":          row(null(0), null(1)),
		"one more behind false":         row(arr(0), Item{Depth: 1, Kind: False}, null(2)),
		"one more behind true":          row(arr(0), Item{Depth: 1, Kind: True}, null(2)),
		"one more behind a number":      row(arr(0), num(1, 1), null(2)),
		"one more behind a string":      row(arr(0), str(1, "a"), null(2)),
		"one more, an array is ahead":   row(arr(0), arr(1), null(1), null(2)),
		"one more, fallen back":         row(arr(0), arr(1), null(2), null(1), null(2)),
		"a Key in an array":             row(arr(0), null(1).under("a")),
		"a Key in an array of objects":  row(obj(0), arr(1).under("a"), null(2).under("b")),
		"a Key behind an object":        row(arr(0), obj(1), null(1).under("a")),
		"a Key that is not valid":       row(obj(0), null(1).under("\xff")),
		"a Key cut short":               row(obj(0), null(1).under("\xc3")),
		"a Key twice":                   row(obj(0), null(1).under("a"), null(1).under("a")),
		"the empty Key twice":           row(obj(0), null(1), null(1)),
		"a Key twice, others between":   row(obj(0), null(1).under("a"), null(1).under("b"), null(1).under("a")),
		"a Key twice, deeper ones too":  row(obj(0), obj(1).under("a"), null(2).under("a"), null(1).under("a")),
		"a Key twice, deep":             row(arr(0), obj(1), null(2).under("a"), arr(2).under("b"), null(3), null(2).under("a")),
		"Text that is not valid":        row(str(0, "\xff")),
		"Text of the gap":               row(str(0, "\xed\xa0\x80")),
		"Text of null":                  row(Item{Kind: Null, Text: "a"}),
		"Text of false":                 row(Item{Kind: False, Text: "a"}),
		"Text of true":                  row(Item{Kind: True, Text: "a"}),
		"Text of a number":              row(Item{Kind: Number, Text: "a"}),
		"Text of an array":              row(Item{Kind: Array, Text: "a"}),
		"Text of an object":             row(Item{Kind: Object, Text: "a"}),
		"N of null":                     row(Item{Kind: Null, N: 1}),
		"N of false":                    row(Item{Kind: False, N: -1}),
		"N of true":                     row(Item{Kind: True, N: 1}),
		"N of a string":                 row(Item{Kind: String, N: 1}),
		"N of an array":                 row(Item{Kind: Array, N: 1}),
		"N of an object":                row(Item{Kind: Object, N: math.MinInt}),
		"an array at MaxDepth":          append(boxes(64), arr(64)),
		"an object at MaxDepth":         append(boxes(64), obj(64)),
		"one array too many":            boxes(65),
		"a value beyond MaxDepth":       append(boxes(65), null(65)),
		"a value beyond, alone":         append(boxes(64), null(65)),
		"all right but the last":        append(boxes(3), null(3), null(0)),
		"an array beside one, too deep": append(boxes(64), null(64), arr(64)),
	} {
		if Right(l) {
			t.Errorf("P8.1: %s: %v is right", name, l)
		}
		if s := Print(l); s != "" {
			t.Errorf("P8.2: %s: Print = %q", name, s)
		}
		checkRight(t, l)
	}
}

func TestDeepRows(t *testing.T) {
	for n := range 70 {
		for _, last := range []Item{null(n), num(n, 1), str(n, "a"), arr(n), obj(n)} {
			l := append(boxes(n), last)
			most := api.MaxDepth
			if last.Kind == Array || last.Kind == Object {
				most--
			}
			if got := Right(l); got != (n <= most) {
				t.Errorf("P8.1: at %d, Kind %d: %v", n, last.Kind, got)
			}
			checkRight(t, l)
			objects := slices.Clone(l)
			for i := range objects {
				if i < n {
					objects[i].Kind = Object
				}
				if i > 0 {
					objects[i].Key = "k"
				}
			}
			if got := Right(objects); got != (n <= most) {
				t.Errorf("P8.1: in objects at %d, Kind %d: %v", n, last.Kind, got)
			}
			checkRight(t, objects)
		}
	}
	for fall := 1; fall <= 64; fall++ {
		l := append(boxes(64), null(64), null(fall))
		if !Right(l) || Print(l) != deep(64, "null")[:132-fall]+",null"+strings.Repeat("]", fall) {
			t.Errorf("P8.2: a fall to %d: %q", fall, Print(l))
		}
		checkRight(t, l)
	}
}

// each calls do with all lists of up to most of the parts.
func each[T any](most int, parts []T, do func([]T)) {
	var more func(l []T)
	more = func(l []T) {
		do(l)
		if len(l) == most {
			return
		}
		for _, p := range parts {
			more(append(l, p))
		}
	}
	more(make([]T, 0, most))
}

// TestAllShortRows are all rows of up to five items that differ in what hangs on other items.
func TestAllShortRows(t *testing.T) {
	var parts []Item
	for depth := range 4 {
		for _, kind := range []int{Null, Array, Object} {
			for _, key := range []string{"", "a"} {
				if depth > 0 || key == "" {
					parts = append(parts, Item{Depth: depth, Kind: kind, Key: key})
				}
			}
		}
	}
	each(4, parts, func(l []Item) { checkRight(t, l) })
	parts = slices.DeleteFunc(parts, func(it Item) bool { return it.Depth == 0 || it.Depth == 3 })
	for _, first := range []Item{arr(0), obj(0)} {
		each(4, parts, func(l []Item) { checkRight(t, slices.Concat(row(first), l)) })
	}
}

// TestAllItems are all rows of one and two items with anything in them.
func TestAllItems(t *testing.T) {
	var parts []Item
	for _, depth := range []int{-1, 0, 1, 2} {
		for kind := Null - 1; kind <= Object+1; kind++ {
			for _, key := range []string{"", "a", "\xff"} {
				for _, text := range []string{"", "b", "\xff"} {
					for _, n := range []int{0, 1} {
						parts = append(parts, Item{depth, kind, key, text, n})
					}
				}
			}
		}
	}
	each(1, parts, func(l []Item) { checkRight(t, l) })
	for kind := Null; kind <= Object; kind++ {
		each(1, parts, func(l []Item) { checkRight(t, append(row(Item{Kind: kind}), l...)) })
		each(1, parts, func(l []Item) { checkRight(t, append(row(obj(0), Item{Depth: 1, Kind: kind}), l...)) })
	}
}

// TestParsed are texts, and the rows that they are.
func TestParsed(t *testing.T) {
	for _, x := range []struct {
		s string
		l []Item
	}{
		{" null\t", row(null(0))},
		{"\n\r [ \t] \r", row(arr(0))},
		{" { } ", row(obj(0))},
		{"[ 1 , 2 ,\n3 ]", row(arr(0), num(1, 1), num(1, 2), num(1, 3))},
		{"{ \"a\"\r:\t1 ,\n\"b\" : 2 }", row(obj(0), num(1, 1).under("a"), num(1, 2).under("b"))},
		{`"\u0061\ud83d\ude00\/"`, row(str(0, "a\U0001f600/"))},
		{`{"\u0061":1,"A":2}`, row(obj(0), num(1, 1).under("a"), num(1, 2).under("A"))},
		{`[{"a":1},{"a":2}]`, row(arr(0), obj(1), num(2, 1).under("a"), obj(1), num(2, 2).under("a"))},
		{`{"a":{"a":{}},"b":[{"a":0}]}`, row(obj(0), obj(1).under("a"), obj(2).under("a"), arr(1).under("b"), obj(2), num(3, 0).under("a"))},
		{"[-9223372036854775808,9223372036854775807,0,-1]", row(arr(0), num(1, math.MinInt), num(1, math.MaxInt), num(1, 0), num(1, -1))},
		{`["[","]","{","}",",",":"," "]`, row(arr(0), str(1, "["), str(1, "]"), str(1, "{"), str(1, "}"), str(1, ","), str(1, ":"), str(1, " "))},
		{`{"":[[]],"{":{}}`, row(obj(0), arr(1), arr(2), obj(1).under("{"))},
	} {
		if l, e := Parse(x.s); e != api.OK || !same(l, x.l) {
			t.Errorf("P8.3: Parse(%q) = %v, %d, want %v", x.s, l, e, x.l)
		}
		checkParse(t, x.s)
	}
}

// TestForm are texts that have not the form of a value.
func TestForm(t *testing.T) {
	for _, s := range []string{
		"", " ", "\t\n\r ", "\x00", "\v", "\f", "\xa0", "\ufeff1", "x", "'a'", "+1", ".5", "e5", "E", "N", "]", "}", ",", ":", "\\",
		"n", "nu", "nul", "Null", "NULL", "nUll", "nullx", "nulll", "null0", "null null", "t", "tru", "True", "TRUE", "truee", "true1", "f", "fals", "False", "FALSE", "falsee", "nul l", "tr ue", "undefined", "NaN", "Infinity",
		"1 2", "1,", "1,2", "1:", "1]", "1}", "1[", "1{}", "1x", "1\"\"", "1\x00", "[]]", "[][]", "[],", "{}}", "{},", "{}{}", "\"\"\"\"", "\"\"x", "null,", "null]", "1/1", "1//", "1/**/",
		"[", "[ ", "[1", "[1 ", "[1,", "[1, ", "[[]", "[,]", "[,1]", "[1,]", "[1,,2]", "[,", "[1 2]", "[1 null]", "[1:2]", "[:]", "[1}", "[}", "[{]}", "[\"a\":1]", "[1;2]", "[\"a\"\"b\"]", "[]1", "[[]1]", "[1[]]", "[nullx]", "[x]", "[)",
		"{", "{ ", "{1", "{1:2}", "{null:1}", "{a:1}", "{'a':1}", "{[]:1}", "{,}", "{:}", "{]", "{,\"a\":1}", "{\"a\"", "{\"a\" ", "{\"a\"}", "{\"a\",", "{\"a\"]", "{\"a\" 1}", "{\"a\"\"b\"}", "{\"a\":", "{\"a\": ", "{\"a\":}", "{\"a\":,}", "{\"a\":]}", "{\"a\"::1}", "{\"a\":1", "{\"a\":1 ", "{\"a\":1]", "{\"a\":1:2}", "{\"a\":1,", "{\"a\":1, ", "{\"a\":1,}", "{\"a\":1,,}", "{\"a\":1,,\"b\":2}", "{\"a\":1 \"b\":2}", "{\"a\":1,2}", "{\"a\":1,\"b\"}", "{\"a\":1,b:2}", "{\"a\":x}", "{\"a\":+1}", "{\"a\"=1}", "{{}}", "{\"a\":1}}", "{\"a\":1}]", "{\"a\":{}", "{\"a\":[}]",
		strings.Repeat("[", 64), strings.Repeat("[", 64) + "]", deep(64, "")[:127], deep(64, "") + "]", strings.Repeat(`{"a":`, 64), strings.Repeat(`{"a":`, 63) + "{",
	} {
		checkError(t, s, api.ErrJsonForm)
	}
}

func TestNumbers(t *testing.T) {
	about := []string{"%s", " %s ", "[%s]", "[1,%s]", "[%s,1]", "[ %s , 1 ]", `{"a":%s}`, `{"a": %s ,"b":1}`, "[[%s]]"}
	for _, s := range []string{
		"-", "--1", "-+1", "-.5", "-e", "-E5", "-0", "-00", "-01", "00", "01", "007", "0.0", "0.", "0e0", "1.5", "1.", "1.0", "-1.0", "1e3", "1E3", "1e", "1E", "1e+3", "1e-3", "1+", "1+1", "1-1", "1-", "1--", "12.34e56", "1..", "0-", "0+",
		"9223372036854775808", "-9223372036854775809", "18446744073709551616", "18446744073709551617", "-18446744073709551615", "99999999999999999999999999", "09223372036854775807", strings.Repeat("1", 1000), "0" + strings.Repeat("0", 1000),
	} {
		for _, a := range about {
			checkError(t, fmt.Sprintf(a, s), api.ErrJsonNumber)
		}
		// It is told ahead of whatever is wrong behind it.
		checkError(t, s+"x", api.ErrJsonNumber)
		checkError(t, s+`"`, api.ErrJsonNumber)
		checkError(t, s+" 1", api.ErrJsonNumber)
	}
	for _, n := range []int{0, 1, 9, 10, 99, 100, -1, -9, -10, 1<<31 - 1, 1 << 31, 1 << 32, -1 << 31, math.MaxInt, math.MaxInt - 1, math.MinInt, math.MinInt + 1} {
		s := strconv.Itoa(n)
		if l, e := Parse(s); e != api.OK || !same(l, row(num(0, n))) {
			t.Errorf("P8.3: Parse(%s) = %v, %d", s, l, e)
		}
		for _, a := range about {
			checkParse(t, fmt.Sprintf(a, s))
		}
		checkError(t, s+"x", api.ErrJsonForm)
		checkError(t, "["+s+" "+s+"]", api.ErrJsonForm)
		checkError(t, s+"\x00", api.ErrJsonForm)
	}
	checkError(t, "0x1", api.ErrJsonForm)
	checkError(t, "1_0", api.ErrJsonForm)
	// No digit of another script begins a number, or goes on with one.
	checkError(t, "\u0661", api.ErrJsonForm)
	checkError(t, "1\u0661", api.ErrJsonForm)
}

// TestQuotes has each error of layer 7, as a value and as a Key.
func TestQuotes(t *testing.T) {
	for s, no := range map[string]api.Errno{
		`"`: api.ErrQuoteShort, `"a`: api.ErrQuoteShort, `"\"`: api.ErrQuoteShort, `"\\\"`: api.ErrQuoteShort,
		"\"\n\"": api.ErrQuoteByte, "\"a\x00\"": api.ErrQuoteByte, "\"\x1f\"": api.ErrQuoteByte, "\"\t\"": api.ErrQuoteByte,
		`"\x"`: api.ErrQuoteEscape, `"\u12"`: api.ErrQuoteEscape, `"\ud800"`: api.ErrQuoteEscape, `"\udc00"`: api.ErrQuoteEscape, `"\`: api.ErrQuoteEscape, `"\U0061"`: api.ErrQuoteEscape,
		"\"\xff\"": api.ErrQuoteUtf, "\"\xc3\"": api.ErrQuoteUtf, "\"\xed\xa0\x80\"": api.ErrQuoteUtf,
	} {
		for _, ahead := range []string{"", " ", "[", "[1,", "[ [],", `{"a":`, `{"a": `, "{", "{ ", `{"a":1,`, `{"a":1 , `, `[{`, deep(63, "")[:63], strings.Repeat("[", 63) + "{", strings.Repeat("[", 64)} {
			checkError(t, ahead+s, no)
		}
	}
	for _, s := range []string{`"a"`, `""`, `"\u0000"`, `"é"`, `"\ud83d\ude00"`, "\"\x7f\""} {
		for _, form := range []string{"%s", "[%s]", `{"k":%s}`, `{%s:1}`, `{"k":1,%s:2}`, `{%s:%s}`} {
			checkParse(t, strings.ReplaceAll(form, "%s", s))
		}
	}
	// What is in quotes is no form of its own, and not taken where no value may begin.
	checkError(t, `[1"a]`, api.ErrJsonForm)
	checkError(t, `{"a""\x":1}`, api.ErrJsonForm)
	checkError(t, `null"`, api.ErrJsonForm)
	checkError(t, `"a""`, api.ErrJsonForm)
	checkError(t, `{1"`, api.ErrJsonForm)
}

func TestTwice(t *testing.T) {
	for _, s := range []string{
		`{"a":1,"a":2}`, `{"a":1,"a":1}`, `{"":1,"":2}`, `{"a":1,"b":2,"a":3}`, `{"a":{},"a":{}}`, `{"a":[1,2],"a":1}`, `{"a":{"a":1},"a":2}`,
		`{"a":1,"\u0061":2}`, `{"\u0061":1,"a":2}`, `{"/":1,"\/":2}`, `{"\n":1,"\u000a":2}`, `{"\u00E9":1,"é":2}`, `{"é":1,"\u00e9":2}`, `{"\ud83d\ude00":1,"😀":2}`, `{"\u000A":1,"\u000a":2}`,
		`[{"a":1,"a":2}]`, `{"b":{"a":1,"a":2}}`, `{"a":{"b":1,"b":2}}`, `[{"a":1},{"a":1,"a":2}]`,
		// Told as soon as the Key is read, whatever is behind it.
		`{"a":1,"a"`, `{"a":1,"a"}`, `{"a":1,"a"x`, `{"a":1,"a":`, `{"a":1,"a":x`, `{"a":1,"a":01}`, `{"a":1,"a":"\x"}`, `{"a":1,"a":1,,`, `{ "a" : 1 , "a" ]`, `{"a":1,"a",`, `{"a":1,"a""`,
	} {
		checkError(t, s, api.ErrJsonTwice)
	}
	for _, s := range []string{`{"a":1,"A":2}`, `{"a":1,"a ":2}`, `{"a":1,"":2}`, `{"é":1,"e\u0301":2}`, `{"a":{"a":1}}`, `{"a":[{"a":1},{"a":2}]}`, `[{"a":1},{"a":2}]`, `{"a":"a","b":"a"}`, `{"a\u0000":1,"a":2}`, `{"1":1,"01":2}`} {
		if _, e := Parse(s); e != api.OK {
			t.Errorf("P8.3: Parse(%q): %d", s, e)
		}
		checkParse(t, s)
	}
}

// TestFirst has several errors in one text: the first one from the left is told.
func TestFirst(t *testing.T) {
	for s, no := range map[string]api.Errno{
		`[01,x]`: api.ErrJsonNumber, `[x,01]`: api.ErrJsonForm, `["\x",01]`: api.ErrQuoteEscape, `[01,"\x"]`: api.ErrJsonNumber,
		`{"a":01,"a":1}`: api.ErrJsonNumber, `{"a":1,"a":01}`: api.ErrJsonTwice, `{"a":1 "a":1}`: api.ErrJsonForm, `{"a":1,a:01}`: api.ErrJsonForm,
		`{"a" 01}`: api.ErrJsonForm, `{"a":1,"a"01}`: api.ErrJsonTwice, `{"\x" 1}`: api.ErrQuoteEscape, `{"a":1,"\x"`: api.ErrQuoteEscape,
		`1 01`: api.ErrJsonForm, `01 x`: api.ErrJsonNumber, `null 01`: api.ErrJsonForm, `[1 01]`: api.ErrJsonForm, `[1,01`: api.ErrJsonNumber,
		`{"a":1,"a":2`: api.ErrJsonTwice, `{"a":[01],"a":1}`: api.ErrJsonNumber, `{"a":[1,"a":1}`: api.ErrJsonForm,
		strings.Repeat("[", 65) + "01":                      api.ErrJsonDepth,
		strings.Repeat("[", 64) + "01":                      api.ErrJsonNumber,
		strings.Repeat("[", 64) + "x":                       api.ErrJsonForm,
		strings.Repeat("[", 64) + `"`:                       api.ErrQuoteShort,
		strings.Repeat("[", 64) + "1" + "[":                 api.ErrJsonForm,
		strings.Repeat("[", 64) + "1,[":                     api.ErrJsonDepth,
		strings.Repeat("[", 64) + "1,{":                     api.ErrJsonDepth,
		strings.Repeat("[", 64) + " {":                      api.ErrJsonDepth,
		strings.Repeat("[", 63) + "{[":                      api.ErrJsonForm,
		strings.Repeat("[", 63) + `{"a":[`:                  api.ErrJsonDepth,
		strings.Repeat("[", 63) + `{"a":1,"a":[`:            api.ErrJsonTwice,
		strings.Repeat("[", 63) + `{"a":1,"b":{`:            api.ErrJsonDepth,
		"[01," + strings.Repeat("[", 65):                    api.ErrJsonNumber,
		"[1" + strings.Repeat("[", 65):                      api.ErrJsonForm,
		"[" + deep(63, "") + "," + deep(64, ""):             api.ErrJsonDepth,
		"[" + deep(63, "") + "," + deep(63, "") + "," + "x": api.ErrJsonForm,
	} {
		checkError(t, s, no)
	}
}

func TestDeepTexts(t *testing.T) {
	for n := range 140 {
		for name, s := range map[string]string{"arrays": deep(n, "null"), "objects": deepKeys(n, "null"), "both": deepMixed(n, "null"), "blanks": strings.Repeat(" [\n", n) + " 1 " + strings.Repeat("\t]\r", n)} {
			l, e := Parse(s)
			if n <= 64 && (e != api.OK || l[len(l)-1].Depth != len(l)-1) || n > 65 && (e != api.ErrJsonDepth || l != nil) {
				t.Errorf("P8.3: %s, %d of them: %d", name, n, e)
			}
			checkParse(t, s)
		}
		for _, s := range []string{strings.Repeat("[", n), strings.Repeat(`{"a":`, n), strings.Repeat(`[{"a":`, n), deep(n, ""), deep(n, "{}"), deep(n, "[],{}"), deep(n, `"a"`), deepKeys(n, "[]"), deepKeys(n, "{}"), strings.Repeat("]", n)} {
			checkParse(t, s)
		}
	}
	checkError(t, deep(65, ""), api.ErrJsonDepth)
	checkError(t, deep(64, "{}"), api.ErrJsonDepth)
	checkError(t, deepKeys(64, "[]"), api.ErrJsonDepth)
	checkError(t, strings.Repeat("[", 100000), api.ErrJsonDepth)
	// What has been closed is open no more.
	s := "[" + strings.Repeat(deep(63, "1")+",", 50) + deepKeys(63, "1") + "]"
	if l, e := Parse(s); e != api.OK || len(l) != 1+51*64 {
		t.Errorf("P8.3: %d items, %d", len(l), e)
	}
	checkParse(t, s)
}

// things are values cut into what blanks may stand about.
func things() [][]string {
	return [][]string{
		{"null"}, {"true"}, {"-5"}, {`"a b"`}, {"[", "]"}, {"{", "}"},
		{"[", "1", ",", `"x"`, ",", "[", "]", ",", "false", "]"},
		{"{", `"a"`, ":", "1", ",", `"b c"`, ":", "{", "}", ",", `""`, ":", "[", "{", `"a"`, ":", "null", "}", "]", "}"},
	}
}

// TestBlanks sets each byte ahead of and behind each value, Key and sign.
func TestBlanks(t *testing.T) {
	for _, parts := range things() {
		want, e := Parse(strings.Join(parts, ""))
		if e != api.OK {
			t.Fatalf("P8.3: %v: %d", parts, e)
		}
		for at := range len(parts) + 1 {
			ahead, behind := strings.Join(parts[:at], ""), strings.Join(parts[at:], "")
			for c := range 256 {
				s := ahead + one(c) + behind
				checkParse(t, s)
				if c < 33 {
					_, e := Parse(s)
					blank := c == 9 || c == 10 || c == 13 || c == 32
					if blank != (e == api.OK) || !blank && e != api.ErrJsonForm {
						t.Errorf("P8.3: %q: %d", s, e)
					}
				}
			}
			for _, b := range []string{"\t", "\n", "\r", " ", "  ", "\r\n\t ", " \t\n\r \t\n\r"} {
				if l, e := Parse(ahead + b + behind); e != api.OK || !same(l, want) {
					t.Errorf("P8.4: %q: %v, %d, want %v", ahead+b+behind, l, e, want)
				}
			}
			checkParse(t, ahead+"\ufeff"+behind)
			checkParse(t, ahead+"\u00a0"+behind)
			checkParse(t, ahead+"\u2028"+behind)
			checkParse(t, ahead+"//\n"+behind)
		}
		for _, b := range []string{"\t", "\n", "\r", " ", "\n \t\r"} {
			if l, e := Parse(b + strings.Join(parts, b) + b); e != api.OK || !same(l, want) {
				t.Errorf("P8.4: blanks everywhere: %v, %d, want %v", l, e, want)
			}
		}
	}
}

// seeds are texts whose every byte is turned below.
func seeds() []string {
	return []string{
		"null", "true", "false", "-12", "0", `"a\n\u0041"`, "[]", "{}", "[1,-2]", `{"a":1}`, `{"a":1,"b":2}`, `{"a":1,"a":2}`, "[[],{}]", `{"a":{"a":[null,true,false]},"":""}`,
		` [ { "a" : 1 , "b" : [ ] } ] `, `["\ud83d\ude00","é"]`, "9223372036854775807", "-9223372036854775808", deep(64, "1"), deep(65, "1"), deepKeys(64, ""),
	}
}

// TestTurned cuts, leaves out, doubles, puts in and changes each byte of the seeds.
func TestTurned(t *testing.T) {
	for _, s := range seeds() {
		for at := range len(s) + 1 {
			checkParse(t, s[:at])
			checkParse(t, s[at:])
			for c := range 256 {
				if len(s) > 60 && strings.IndexByte("[]{},:\"\\ -+.eE01nx\x00\xff", byte(c)) < 0 {
					continue
				}
				checkParse(t, s[:at]+one(c)+s[at:])
				if at < len(s) {
					checkParse(t, s[:at]+one(c)+s[at+1:])
				}
			}
			if at < len(s) {
				checkParse(t, s[:at]+s[at+1:])
				checkParse(t, s[:at]+s[at:at+1]+s[at:])
			}
		}
	}
}

// TestAllShortTexts are all short texts out of parts of account.
func TestAllShortTexts(t *testing.T) {
	try := func(l []string) { checkParse(t, strings.Join(l, "")) }
	each(5, []string{"[", "]", "{", "}", ",", ":", `"a"`, "1", " "}, try)
	each(5, []string{`{"a":`, `"a":`, `"b":`, "1", ",", "}", "[", "]"}, try)
	each(4, []string{"-", "0", "1", "+", ".", "e", "E", " ", ",", "[", "]", "x"}, try)
	each(4, []string{"n", "ull", "null", "tr", "ue", "fal", "se", " ", ",", "[", "]"}, try)
	each(5, []string{`"`, `\`, "a", `\u0061`, "[", "]", ":", "\xff", "\n"}, try)
}

// anyText is a text of a few letters, at times of no letters at all.
func anyText(r *rand.Rand, valid bool) string {
	pool := []string{"", "a", "b", "a", "A", "\"", "\\", "/", "\n", "\x00", "\x7f", "é", "€", "😀", "\u2028", "\ufffd"}
	if !valid {
		pool = append(pool, "\xff", "\xc3", "\xed\xa0\x80")
	}
	s := ""
	for range r.Intn(4) {
		s += pool[r.Intn(len(pool))]
	}
	return s
}

// anyRow is a right row, whose first item is of that Depth and Key.
func anyRow(r *rand.Rand, depth, room int, key string) []Item {
	it := Item{Depth: depth, Kind: Null + r.Intn(7), Key: key}
	if r.Intn(3) > 0 {
		it.Kind = Array + r.Intn(2)
	}
	if room == 0 && it.Kind >= Array {
		it.Kind = True
	}
	l := []Item{it}
	switch it.Kind {
	case Number:
		l[0].N = []int{r.Intn(20) - 10, int(r.Uint64()), math.MinInt, math.MaxInt}[r.Intn(4)]
	case String:
		l[0].Text = anyText(r, true)
	case Array:
		for range r.Intn(4) {
			l = append(l, anyRow(r, depth+1, room-1, "")...)
		}
	case Object:
		keys := map[string]bool{}
		for range r.Intn(4) {
			if k := anyText(r, true); !keys[k] {
				keys[k] = true
				l = append(l, anyRow(r, depth+1, room-1, k)...)
			}
		}
	}
	return l
}

// TestAnyRows are rows of any kind, and what becomes of them when one thing is turned.
func TestAnyRows(t *testing.T) {
	r := rand.New(rand.NewSource(8))
	blank := func() string {
		return strings.Repeat([]string{"", "", " ", "\t", "\n", "\r"}[r.Intn(6)], r.Intn(3))
	}
	for range 20000 {
		l := anyRow(r, 0, 5, "")
		if !Right(l) {
			t.Errorf("P8.1: %v is not right", l)
		}
		checkRight(t, l)
		s, _ := printOf(l, 0, blank)
		if got, e := Parse(s); e != api.OK || !same(got, l) {
			t.Errorf("P8.4: Parse(%q) = %v, %d, want %v", s, got, e, l)
		}
		checkParse(t, s)
		at := r.Intn(len(s))
		checkParse(t, s[:at]+s[at+1:])
		checkParse(t, s[:at]+one(r.Intn(256))+s[at:])
		turned := slices.Clone(l)
		it := &turned[r.Intn(len(l))]
		switch r.Intn(6) {
		case 0:
			it.Depth += r.Intn(5) - 2
		case 1:
			it.Kind = r.Intn(9)
		case 2:
			it.Key = anyText(r, false)
		case 3:
			it.Text = anyText(r, false)
		case 4:
			it.N = r.Intn(3)
		case 5:
			at := r.Intn(len(l))
			turned = slices.Delete(turned, at, at+1)
		}
		checkRight(t, turned)
	}
}

// tokensOf are the tokens of a text, by the library.
func tokensOf(s string) []any {
	var l []any
	d := stdjson.NewDecoder(strings.NewReader(s))
	d.UseNumber()
	for {
		x, err := d.Token()
		if err != nil {
			return l
		}
		l = append(l, x)
	}
}

// TestLibrary holds what is printed against the library's tokens of it.
func TestLibrary(t *testing.T) {
	r := rand.New(rand.NewSource(88))
	for range 5000 {
		l := anyRow(r, 0, 4, "")
		var want []any
		for i, it := range l {
			for d := depthAhead(l, i); d > it.Depth; d-- {
				want = append(want, endOf(l, i, d-1))
			}
			if h := holderOf(l, i); i > 0 && l[h].Kind == Object {
				want = append(want, it.Key)
			}
			want = append(want, map[int]any{Null: nil, False: false, True: true, Number: stdjson.Number(strconv.Itoa(it.N)), String: it.Text, Array: stdjson.Delim('['), Object: stdjson.Delim('{')}[it.Kind])
		}
		for d := depthAhead(l, len(l)); d > 0; d-- {
			want = append(want, endOf(l, len(l), d-1))
		}
		if got := tokensOf(Print(l)); !slices.Equal(got, want) {
			t.Errorf("P8.2: %v: %v, want %v", l, got, want)
		}
	}
}

// depthAhead is how many arrays and objects are open behind the item ahead of i.
func depthAhead(l []Item, i int) int {
	if i == 0 {
		return 0
	}
	d := l[i-1].Depth
	if l[i-1].Kind >= Array {
		d++
	}
	return d
}

// endOf is the closing sign of the last item ahead of i with that Depth.
func endOf(l []Item, i, depth int) stdjson.Delim {
	for i--; l[i].Depth != depth; i-- {
	}
	if l[i].Kind == Object {
		return '}'
	}
	return ']'
}

// TestOwn looks whether answers are the caller's own, and the same each time.
func TestOwn(t *testing.T) {
	s := `{"a":[1,"b",{"c":null}],"d":[]}`
	first, _ := Parse(s)
	want := slices.Clone(first)
	for i := range first {
		first[i] = Item{-1, -1, "x", "y", 5}
	}
	_ = append(first[:0], Item{})
	second, e := Parse(s)
	if e != api.OK || !same(second, want) {
		t.Errorf("R6: %v, %d, want %v", second, e, want)
	}
	if Print(second) != s || Print(second) != s || !same(second, want) {
		t.Errorf("R7: Print(%v) = %q", second, Print(second))
	}
	// A list with room behind it, of which only the beginning is handed in.
	long := append(slices.Clone(want), Item{-5, -5, "k", "t", 5})
	if !Right(long[:len(want)]) || long[len(want)] != (Item{-5, -5, "k", "t", 5}) {
		t.Errorf("R5: %v", long)
	}
}

// TestLong are long texts and rows: each is gone through but once.
func TestLong(t *testing.T) {
	const n = 300000
	l, e := Parse("[" + strings.Repeat("1,", n) + "1]")
	if e != api.OK || len(l) != n+2 || !Right(l) || len(Print(l)) != 2*n+3 {
		t.Errorf("P8.3: %d items, %d", len(l), e)
	}
	var text bytes.Buffer
	text.WriteString("{")
	for i := range n {
		fmt.Fprintf(&text, `"k%d":{},`, i)
	}
	l, e = Parse(text.String() + `"k":0}`)
	if e != api.OK || len(l) != n+2 || !Right(l) || Print(l) != text.String()+`"k":0}` {
		t.Errorf("P8.3: %d items, %d", len(l), e)
	}
	checkLong(t, text.String()+`"k0":0}`, api.ErrJsonTwice)
	checkLong(t, text.String()+"}", api.ErrJsonForm)
	checkLong(t, strings.Repeat(" ", n), api.ErrJsonForm)
	checkLong(t, strings.Repeat("1", n), api.ErrJsonNumber)
	checkLong(t, "["+strings.Repeat("[],", n), api.ErrJsonForm)
	checkLong(t, "["+strings.Repeat(`"a",`, n)+`"`, api.ErrQuoteShort)
	checkLong(t, strings.Repeat("[", n), api.ErrJsonDepth)
	checkLong(t, strings.Repeat(`{"a":`, n), api.ErrJsonDepth)
	if l, e := Parse(strings.Repeat(" \n", n) + `"` + strings.Repeat("a", n) + `"` + strings.Repeat("\t\r", n)); e != api.OK || len(l) != 1 || len(l[0].Text) != n {
		t.Errorf("P8.3: %d", e)
	}
}

// checkLong looks for the error of a text that is too long to be told.
func checkLong(t *testing.T, s string, no api.Errno) {
	t.Helper()
	if l, e := Parse(s); e != no || l != nil {
		t.Errorf("P8.3: %d items, %d, want %d", len(l), e, no)
	}
}

func FuzzParse(f *testing.F) {
	for _, s := range seeds() {
		f.Add(s)
	}
	f.Fuzz(func(t *testing.T, s string) { checkParse(t, s) })
}
