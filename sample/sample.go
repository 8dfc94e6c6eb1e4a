// Package sample makes texts for the tests of the other packages; the program itself calls nothing of it.
package sample

import "strings"

// Texts lists all that are at most so many of the pieces, one behind the other.
func Texts(most int, pieces ...string) []string {
	all := []string{""}
	from := 0
	for range most {
		end := len(all)
		for _, s := range all[from:end] {
			for _, piece := range pieces {
				all = append(all, s+piece)
			}
		}
		from = end
	}
	return all
}

// Some puts up to so many of the pieces one behind the other; pick tells a number from 0 to n - 1, and by it how many
// they are, and which.
func Some(pick func(n int) int, most int, pieces ...string) string {
	var s strings.Builder
	for range pick(most + 1) {
		s.WriteString(pieces[pick(len(pieces))])
	}
	return s.String()
}

// Bytes lists the texts of one byte, rising.
func Bytes() []string {
	row := make([]string, 256)
	for c := range row {
		row[c] = string([]byte{byte(c)})
	}
	return row
}
