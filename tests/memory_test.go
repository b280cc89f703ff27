package tests

import (
	"cmp"
	"reflect"
	"slices"
	"testing"
)

// guarded copies a list to memory that has room behind its end. The room is filled with fill, so that writes to it are seen, too.
func guarded[E any](list []E, fill E) []E {
	room := make([]E, len(list)+3)
	for i := range room[copy(room, list):] {
		room[len(list)+i] = fill
	}
	return room[:len(list)]
}

// whole is a list with all its spare capacity.
func whole[E any](list []E) []E {
	return list[:cap(list)]
}

// checkPure fails if call writes to its argument, if its result shares memory with the argument, or if two results share memory.
func checkPure[E comparable](t *testing.T, list []E, fill E, call func([]E) []E) {
	t.Helper()
	arg := guarded(list, fill)
	before := slices.Clone(whole(arg))
	first := call(arg)
	second := call(arg)
	if !slices.Equal(whole(arg), before) {
		t.Fatalf("the argument %v was changed to %v", before, whole(arg))
	}
	want := slices.Clone(first)
	overwrite(whole(second), fill)
	if !slices.Equal(first, want) || !slices.Equal(whole(arg), before) {
		t.Fatalf("the result for %v shares memory with another result or the argument", list)
	}
	overwrite(whole(arg), fill)
	if !slices.Equal(first, want) {
		t.Fatalf("the result for %v is a part of the argument", list)
	}
}

func overwrite[E any](list []E, fill E) {
	for i := range list {
		list[i] = fill
	}
}

func TestGuardedKeepsTheListAndFillsTheRoom(t *testing.T) {
	got := guarded([]int{1, 2}, 9)
	if !slices.Equal(got, []int{1, 2}) || !slices.Equal(whole(got), []int{1, 2, 9, 9, 9}) {
		t.Fatal(got, whole(got))
	}
}

// plain copies a value to memory of its own, in which no list is nil or has spare capacity.
func plain[T any](value T) T {
	return copied(reflect.ValueOf(value), 0).Interface().(T)
}

// spaced copies a value to memory of its own, in which every list has room behind its end. The room is filled, so that writes to it are seen, too.
func spaced[T any](value T) T {
	return copied(reflect.ValueOf(value), 3).Interface().(T)
}

// same says whether two values are the same; a nil list and an empty one are.
func same[T any](a, b T) bool {
	return alike(reflect.ValueOf(a), reflect.ValueOf(b))
}

// alike says whether two values of one type, which hold no pointers, are the same.
func alike(a, b reflect.Value) bool {
	switch a.Kind() {
	case reflect.Slice, reflect.Array:
		if a.Len() != b.Len() {
			return false
		}
		for i := range a.Len() {
			if !alike(a.Index(i), b.Index(i)) {
				return false
			}
		}
		return true
	case reflect.Struct:
		for i := range a.NumField() {
			if !alike(a.Field(i), b.Field(i)) {
				return false
			}
		}
		return true
	}
	return a.Equal(b)
}

// copied copies a value that consists of exported fields; every list in it gets this much room behind its end.
func copied(value reflect.Value, room int) reflect.Value {
	got := reflect.New(value.Type()).Elem()
	got.Set(value)
	switch value.Kind() {
	case reflect.Slice:
		list := reflect.MakeSlice(value.Type(), value.Len()+room, value.Len()+room)
		for i := range list.Len() {
			if i < value.Len() {
				list.Index(i).Set(copied(value.Index(i), room))
			} else {
				fill(list.Index(i))
			}
		}
		got.Set(list.Slice(0, value.Len()))
	case reflect.Struct:
		for i := range value.NumField() {
			got.Field(i).Set(copied(value.Field(i), room))
		}
	case reflect.Array:
		for i := range value.Len() {
			got.Index(i).Set(copied(value.Index(i), room))
		}
	}
	return got
}

// fill makes all numbers and texts in a value ones that no test uses.
func fill(value reflect.Value) {
	switch value.Kind() {
	case reflect.Int:
		value.SetInt(-7)
	case reflect.String:
		value.SetString("unused")
	case reflect.Struct:
		for i := range value.NumField() {
			fill(value.Field(i))
		}
	}
}

// widened is a value with all the spare capacity of its lists; it is made of the memory of the value.
func widened(value reflect.Value) reflect.Value {
	got := reflect.New(value.Type()).Elem()
	got.Set(value)
	switch value.Kind() {
	case reflect.Slice:
		got.Set(reflect.MakeSlice(value.Type(), value.Cap(), value.Cap()))
		for i := range value.Cap() {
			got.Index(i).Set(widened(value.Slice(0, value.Cap()).Index(i)))
		}
	case reflect.Struct:
		for i := range value.NumField() {
			got.Field(i).Set(widened(value.Field(i)))
		}
	}
	return got
}

// span is the memory of a list, spare capacity included.
type span struct {
	from uintptr
	to   uintptr
}

// spans are those of all lists in a value.
func spans(value reflect.Value) []span {
	var list []span
	switch value.Kind() {
	case reflect.Slice:
		size := uintptr(value.Cap()) * value.Type().Elem().Size()
		if size > 0 {
			list = append(list, span{value.Pointer(), value.Pointer() + size})
		}
		for i := range value.Len() {
			list = append(list, spans(value.Index(i))...)
		}
	case reflect.Struct:
		for i := range value.NumField() {
			list = append(list, spans(value.Field(i))...)
		}
	case reflect.Array:
		for i := range value.Len() {
			list = append(list, spans(value.Index(i))...)
		}
	}
	return list
}

// apart says whether no two lists in the values share memory.
func apart(values ...any) bool {
	var list []span
	for _, value := range values {
		list = append(list, spans(reflect.ValueOf(value))...)
	}
	slices.SortFunc(list, func(a, b span) int { return cmp.Compare(a.from, b.from) })
	for i := 1; i < len(list); i++ {
		if list[i].from < list[i-1].to {
			return false
		}
	}
	return true
}

// memoryFault says what is wrong if call writes to its argument, or if lists in its result share memory with the argument, with another result, or with each other.
func memoryFault[A, R any](value A, call func(A) R) string {
	arg, before := spaced(value), spaced(value)
	first, second := call(arg), call(arg)
	switch {
	case !reflect.DeepEqual(widened(reflect.ValueOf(arg)).Interface(), widened(reflect.ValueOf(before)).Interface()):
		return "writes to its argument"
	case !same(first, second):
		return "has two results"
	case !apart(arg, first, second):
		return "shares memory"
	}
	return ""
}

// checkOwned fails if there is a memory fault.
func checkOwned[A, R any](t *testing.T, name string, value A, call func(A) R) {
	t.Helper()
	if fault := memoryFault(value, call); fault != "" {
		t.Fatalf("%s %s: %v", name, fault, value)
	}
}

func TestMemoryFaultIsFound(t *testing.T) {
	type lists struct{ A, B [][]int }
	value := lists{[][]int{{1, 2}, {3}}, [][]int{{4}}}
	for i, call := range []func(lists) lists{
		func(a lists) lists { return plain(a) },
		func(a lists) lists { return lists{} },
		func(a lists) lists { return lists{A: [][]int{{}, {5}, nil}} },
	} {
		if fault := memoryFault(value, call); fault != "" {
			t.Errorf("call %d %s", i, fault)
		}
	}
	for i, call := range []func(lists) lists{
		func(a lists) lists { return a },
		func(a lists) lists { return lists{B: a.A[2:]} },
		func(a lists) lists { return lists{A: slices.Clone(a.A)} },
		func(a lists) lists { return lists{A: [][]int{a.B[0][1:]}} },
		func(a lists) lists { b := plain(a); b.B[0] = b.A[0]; return b },
		func(a lists) lists { b := plain(a); b.B[0] = b.A[0][:1][1:]; return b },
		func(a lists) lists { a.A[1][0]++; return lists{} },
		func(a lists) lists { _ = append(a.A[0], 9); return lists{} },
		func(a lists) lists { _ = append(a.B, nil, []int{5}); return lists{} },
	} {
		if memoryFault(value, call) == "" {
			t.Errorf("the fault of call %d is not found", i)
		}
	}
}

func TestSameDoesNotTellNilFromEmpty(t *testing.T) {
	a := []event{{T: 1}}
	if !same([]event(nil), []event{}) || !same([][]event{nil}, [][]event{{}}) || !same(a, guarded(a, mark)) || same(a, nil) {
		t.Fatal("nil, empty and other lists")
	}
}
