package eras_test

import (
	"slices"
	"testing"

	"gnomon/api"
	"gnomon/eras"
)

func TestSpans(t *testing.T) { // each era holds from where the one ahead ends
	l := []api.Era{{Format: "A", Until: 5}, {Format: "B", Until: 9}, {Format: "C", Until: api.EndTime}}
	var from []int
	var told []api.Era
	for f, era := range eras.Spans(l) {
		from, told = append(from, f), append(told, era)
	}
	if !slices.Equal(from, []int{0, 5, 9}) || !slices.Equal(told, l) {
		t.Errorf("from %v: %v", from, told)
	}
}

func TestSpansLeft(t *testing.T) { // whoever leaves the loop is told no more
	n := 0
	for range eras.Spans(make([]api.Era, 3)) {
		n++
		if n == 2 {
			break
		}
	}
	if n != 2 {
		t.Errorf("%d eras, want 2", n)
	}
}

func TestSpansOfNone(t *testing.T) {
	for from, era := range eras.Spans(nil) {
		t.Errorf("from %d: %v", from, era)
	}
}
