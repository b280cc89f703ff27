package tests

import (
	"slices"
	"testing"
)

// guarded copies a list to memory that has room behind its end. The room is filled with fill, so that writes to it are seen, too.
func guarded[E any](list []E, fill E) []E {
	room := make([]E, len(list)+3)
	for i := range room[copy(room, list):] {
		room[len(list)+i] = fill
	}
	return room[:len(list)]
}

// whole is a list with all its spare capacity.
func whole[E any](list []E) []E {
	return list[:cap(list)]
}

// checkPure fails if call writes to its argument, if its result shares memory with the argument, or if two results share memory.
func checkPure[E comparable](t *testing.T, list []E, fill E, call func([]E) []E) {
	t.Helper()
	arg := guarded(list, fill)
	before := slices.Clone(whole(arg))
	first := call(arg)
	second := call(arg)
	if !slices.Equal(whole(arg), before) {
		t.Fatalf("the argument %v was changed to %v", before, whole(arg))
	}
	want := slices.Clone(first)
	overwrite(whole(second), fill)
	if !slices.Equal(first, want) || !slices.Equal(whole(arg), before) {
		t.Fatalf("the result for %v shares memory with another result or the argument", list)
	}
	overwrite(whole(arg), fill)
	if !slices.Equal(first, want) {
		t.Fatalf("the result for %v is a part of the argument", list)
	}
}

func overwrite[E any](list []E, fill E) {
	for i := range list {
		list[i] = fill
	}
}

func TestGuardedKeepsTheListAndFillsTheRoom(t *testing.T) {
	got := guarded([]int{1, 2}, 9)
	if !slices.Equal(got, []int{1, 2}) || !slices.Equal(whole(got), []int{1, 2, 9, 9, 9}) {
		t.Fatal(got, whole(got))
	}
}
