// Package json is layer 1: values, read and printed. See the chapter 01-json of the document.
package json

import (
	"slices"
	"unicode/utf8"

	"muniment/api"
)

// The document promises nothing of values deeper than 1000; a value whose lists hold themselves has no end, and Same must have one.
const deepest = 10000

// Formed tells whether v keeps to all rules and limits of values.
func Formed(v api.Value) bool {
	return formed(v, api.MaxDepth)
}

// formed counts the levels down, so that it looks no deeper than a formed value goes.
func formed(v api.Value, levels int) bool {
	if levels == 0 {
		return false
	}
	switch v.Kind {
	case api.Null, api.False, api.True:
		return v.N == 0 && v.Text == "" && len(v.Names) == 0 && len(v.Items) == 0
	case api.Int:
		return v.Text == "" && len(v.Names) == 0 && len(v.Items) == 0
	case api.String:
		return v.N == 0 && formedText(v.Text) && len(v.Names) == 0 && len(v.Items) == 0
	case api.Array:
		return v.N == 0 && v.Text == "" && len(v.Names) == 0 && formedItems(v.Items, levels-1)
	case api.Object:
		return v.N == 0 && v.Text == "" && len(v.Names) == len(v.Items) && formedItems(v.Items, levels-1) && formedNames(v.Names)
	}
	return false
}

func formedText(s string) bool {
	return len(s) <= api.MaxString && utf8.ValidString(s)
}

func formedItems(l []api.Value, levels int) bool {
	if len(l) > api.MaxMembers {
		return false
	}
	for _, item := range l {
		if !formed(item, levels) {
			return false
		}
	}
	return true
}

func formedNames(l []string) bool {
	for i, name := range l {
		if !formedText(name) || i > 0 && l[i-1] >= name {
			return false
		}
	}
	return true
}

// Depth answers how deep v is, at most MaxDepth + 1.
func Depth(v api.Value) int {
	return depth(v, api.MaxDepth+1)
}

// depth stops at most, so that it ends whatever lies below.
func depth(v api.Value, most int) int {
	if v.Kind != api.Array && v.Kind != api.Object || most == 1 {
		return 1
	}
	found := 1
	for _, item := range v.Items {
		found = max(found, 1+depth(item, most-1))
		if found == most {
			break
		}
	}
	return found
}

// Same tells whether all fields of a and b are alike, formed or not.
func Same(a, b api.Value) bool {
	return same(a, b, deepest)
}

func same(a, b api.Value, levels int) bool {
	if levels == 0 || a.Kind != b.Kind || a.N != b.N || a.Text != b.Text || len(a.Items) != len(b.Items) || !slices.Equal(a.Names, b.Names) {
		return false
	}
	for i := range a.Items {
		if !same(a.Items[i], b.Items[i], levels-1) {
			return false
		}
	}
	return true
}
