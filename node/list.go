package node

import "slices"

// Nodes share lists with the nodes that they were made of, so no list is ever changed in its place.

// with returns l with x behind its elements.
func with[T any](l []T, x T) []T { return slices.Concat(l, []T{x}) }

// without returns l without its element at a place.
func without[T any](l []T, at int) []T { return slices.Concat(l[:at], l[at+1:]) }

// firstLeast returns the place of the first of l's least elements; l is not empty.
func firstLeast[T any](l []T, compare func(a, b T) int) int {
	least := 0
	for at := range l {
		if compare(l[at], l[least]) < 0 {
			least = at
		}
	}
	return least
}

// fits reports whether l has at most that many elements, all of them right.
func fits[T any](l []T, most int, right func(T) bool) bool {
	wrong := func(x T) bool { return !right(x) }
	return len(l) <= most && !slices.ContainsFunc(l, wrong)
}
