package distinct_test

import (
	"slices"
	"testing"

	"tollbar/distinct"
)

// All of every row of at most five numbers from 0 to 3, against each pair of them.
func TestEveryRow(t *testing.T) {
	rows := [][]int{nil}
	for i := 0; i < len(rows); i++ {
		row := rows[i]
		if len(row) < 5 {
			for n := range 4 {
				rows = append(rows, append(slices.Clone(row), n))
			}
		}
		want := true
		for a := range row {
			for b := range a {
				want = want && row[a] != row[b]
			}
		}
		ahead := slices.Clone(row)
		if got := distinct.All(row); got != want || !slices.Equal(row, ahead) {
			t.Errorf("All(%v) = %v", ahead, got)
		}
	}
}

// Texts and structs are held against each other too.
func TestKinds(t *testing.T) {
	type pair struct {
		a int
		b string
	}
	if !distinct.All([]string{"", "a", "A", "a "}) || distinct.All([]string{"", "a", ""}) {
		t.Error("texts")
	}
	if !distinct.All([]pair{{1, "a"}, {1, "b"}, {2, "a"}}) || distinct.All([]pair{{1, "a"}, {2, "a"}, {1, "a"}}) {
		t.Error("structs")
	}
	if !distinct.All[string](nil) || !distinct.All([]string{}) {
		t.Error("nothing")
	}
}
