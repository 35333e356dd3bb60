// Package blobname is the names under which nodes put segments into deep storage.
package blobname

import (
	"strconv"
	"strings"
)

// base makes numbers as short as digits and letters can.
const base = 36

// Of is the name of bytes: who puts them there, the numbers that he knows them by, and the bytes' own mark, lest what
// was put there by the same numbers, and never published, is met as something else.
func Of(who string, b []byte, numbers ...uint64) string {
	words := []string{who}
	for _, number := range numbers {
		words = append(words, strconv.FormatUint(number, base))
	}
	words = append(words, strconv.FormatUint(markOf(b), base))
	return strings.Join(words, ".")
}

// markOf is 64 bits that hang on each of the bytes (Fowler, Noll and Vo's 1a).
func markOf(b []byte) uint64 {
	mark := uint64(14695981039346656037)
	for _, c := range b {
		mark = (mark ^ uint64(c)) * 1099511628211
	}
	return mark
}
