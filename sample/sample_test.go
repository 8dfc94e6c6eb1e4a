package sample

import (
	"math/rand"
	"slices"
	"testing"
)

func TestTexts(t *testing.T) {
	if got, want := Texts(2, "a", "bc"), []string{"", "a", "bc", "aa", "abc", "bca", "bcbc"}; !slices.Equal(got, want) {
		t.Errorf("Texts of two: %q", got)
	}
	for most, want := range []int{1, 4, 13, 40, 121} {
		if got := Texts(most, "a", "b", "c"); len(got) != want || len(slices.Compact(got)) != want || !slices.IsSortedFunc(got, func(a, b string) int { return len(a) - len(b) }) {
			t.Errorf("Texts of %d: %q", most, got)
		}
	}
	if got := Texts(5); !slices.Equal(got, []string{""}) {
		t.Errorf("Texts of no pieces: %q", got)
	}
}

func TestSome(t *testing.T) {
	picks := []int{3, 1, 0, 1}
	pick := func(n int) int {
		first := picks[0]
		picks = picks[1:]
		return first % n
	}
	if got := Some(pick, 5, "a", "bc"); got != "bcabc" || len(picks) != 0 {
		t.Errorf("Some: %q", got)
	}
	all := Texts(3, "a", "bc")
	r := rand.New(rand.NewSource(0))
	found := map[string]bool{}
	for range 1000 {
		found[Some(r.Intn, 3, "a", "bc")] = true
	}
	for _, s := range all {
		if !found[s] {
			t.Errorf("Some is never %q", s)
		}
	}
	if len(found) != len(all) {
		t.Errorf("Some is %d texts, not %d", len(found), len(all))
	}
}

func TestBytes(t *testing.T) {
	row := Bytes()
	if len(row) != 256 || !slices.IsSorted(row) {
		t.Fatalf("Bytes: %q", row)
	}
	for c, b := range row {
		if len(b) != 1 || b[0] != byte(c) {
			t.Errorf("Bytes at %d: %q", c, b)
		}
	}
}
