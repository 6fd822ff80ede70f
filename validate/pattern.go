package validate

import (
	"slices"
	"strconv"
	"strings"

	"calque/api"
)

// kinds are the kinds of fields, in the order of a skeleton.
const kinds = "yMEd"

// mostPlaces is the greatest number of places of a pattern.
const mostPlaces = 9

// Fields returns the fields of a skeleton.
func Fields(skeleton string) ([]string, api.Errno) {
	var l []string
	rest := skeleton
	for _, kind := range kinds {
		behind := strings.TrimLeft(rest, string(kind))
		if len(behind) < len(rest) {
			l = append(l, rest[:len(rest)-len(behind)])
		}
		rest = behind
	}
	if len(l) == 0 || rest != "" || !all(l, isField) {
		return nil, api.ErrSyntax
	}
	return l, api.OK
}

// isField reports whether a string is a field.
func isField(s string) bool {
	switch s {
	case "y", "M", "MM", "MMM", "E", "d", "dd":
		return true
	}
	return false
}

// Date reports whether a string is a skeleton, and another one a date pattern that fits it.
func Date(skeleton, pattern string) bool {
	l, e := Fields(skeleton)
	runs := strings.FieldsFunc(pattern, func(c rune) bool { return !isLetter(c) })
	return e == api.OK && all(runs, isField) && slices.Equal(kindsOf(runs), kindsOf(l))
}

// isLetter reports whether a character belongs to a field, if it is one of a date pattern.
func isLetter(c rune) bool {
	return 'A' <= c && c <= 'Z' || 'a' <= c && c <= 'z'
}

// kindsOf returns the kinds of fields in one order, so that those of a skeleton, which differ, are never equal to ones of which two are the same.
func kindsOf(fields []string) []byte {
	var l []byte
	for _, field := range fields {
		l = append(l, field[0])
	}
	slices.Sort(l)
	return l
}

// Pattern reports whether a string has each of the places {0} to {n-1} exactly once, and no other braces.
func Pattern(s string, n int) bool {
	if n < 1 || n > mostPlaces || strings.Count(s, "{") != n || strings.Count(s, "}") != n {
		return false
	}
	// There are n braces of each kind, so if all places are there, each of them is there once, and nothing else.
	for i := range n {
		if !strings.Contains(s, "{"+strconv.Itoa(i)+"}") {
			return false
		}
	}
	return true
}
