// Package eras goes through the eras of a zone; zones, what holds and turns share it.
package eras

import (
	"iter"

	"gnomon/api"
)

// LetterFor stands in an era's format for a rule's letter.
const LetterFor = "%s"

// Spans goes through eras, each with the time from which on it holds: where the one ahead ends.
func Spans(l []api.Era) iter.Seq2[int, api.Era] {
	return func(yield func(from int, era api.Era) bool) {
		from := 0
		for _, era := range l {
			if !yield(from, era) {
				return
			}
			from = era.Until
		}
	}
}
