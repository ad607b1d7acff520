// Package press: one grammar for bytes, gone both ways: see DOC.md.
package press

import (
	"press/api"
	"press/labels"
	"press/parts"
	"press/syntax"
	"press/values"
)

// Check tells whether a text is a grammar (P3).
func Check(grammar string) (api.Errno, int) {
	_, e, place := syntax.Read(grammar)
	return e, place
}

// Parse makes a tree of bytes (P4).
func Parse(grammar string, bytes string, fuel int, nodes int) (string, api.Errno, int) {
	g, e, place := syntax.Read(grammar)
	if e != api.OK {
		return "", e, place
	}
	if len(bytes) > api.MaxBytes || !isBudget(fuel, api.MaxFuel) || !isBudget(nodes, api.MaxNodes) {
		return "", api.ErrBudget, 0
	}
	return parse(g, bytes, fuel, nodes)
}

// Generate makes bytes of a tree (P5).
func Generate(grammar string, tree string, most int) (string, api.Errno, int) {
	g, e, place := syntax.Read(grammar)
	if e != api.OK {
		return "", e, place
	}
	v, e, place := values.Read(tree)
	if e != api.OK {
		return "", e, place
	}
	if !isBudget(most, api.MaxBytes) {
		return "", api.ErrBudget, 0
	}
	bytes, e := parts.Generate(g, v, most)
	if e != api.OK {
		return "", e, 0
	}
	// A tree has one text only, and no tree has the empty one, which a refusal has.
	if again, _, _ := parse(g, bytes, api.MaxFuel, api.MaxNodes); again != tree {
		return "", api.ErrOther, 0
	}
	return bytes, api.OK, 0
}

// PackNames packs names (P6).
func PackNames(names []string) (string, api.Errno) {
	return labels.Pack(names)
}

// UnpackNames reads packed names (P7).
func UnpackNames(bytes string) ([]string, api.Errno, int) {
	return labels.Unpack(bytes)
}
