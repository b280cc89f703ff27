package tests

import (
	"math"
	"slices"
	"testing"

	"loop.example/turnback/impl"
)

type event = impl.EvtEvt

// mark is an event that no test puts into a list.
var mark = event{T: -7, To: -7, From: -7, Seq: -7, Kind: -7, Data: -7}

// field names a field of an event, how to reach it, and its bounds in a model with CmpMost components.
type field struct {
	name string
	of   func(*event) *int
	low  int
	high int
}

// fields are in the order in which EvtLess compares them.
func fields() []field {
	return []field{
		{"T", func(e *event) *int { return &e.T }, 0, 99},
		{"To", func(e *event) *int { return &e.To }, 0, 3},
		{"From", func(e *event) *int { return &e.From }, -1, 3},
		{"Seq", func(e *event) *int { return &e.Seq }, 0, 11},
		{"Kind", func(e *event) *int { return &e.Kind }, 0, 2},
		{"Data", func(e *event) *int { return &e.Data }, 0, 96},
	}
}

func with(e event, f field, n int) event {
	*f.of(&e) = n
	return e
}

// somePool has events that differ in one or several fields, valid and invalid ones, and numbers so far apart that their difference overflows.
func somePool() []event {
	pool := []event{{}}
	for _, f := range fields() {
		for _, n := range []int{math.MinInt, -1, 1, 2, math.MaxInt} {
			pool = append(pool, with(event{}, f, n))
		}
	}
	for bits := range 64 {
		e := event{}
		for i, f := range fields() {
			*f.of(&e) = 3 + bits>>i&1
		}
		pool = append(pool, e)
	}
	return append(pool,
		event{T: 3, To: 1, From: -1, Seq: 2, Kind: 1, Data: 40},
		event{T: 3, To: 1, From: 0, Seq: 0, Kind: 2, Data: 1},
		event{T: 99, To: 3, From: 3, Seq: 11, Kind: 2, Data: 96},
		event{T: math.MaxInt, To: math.MinInt, From: math.MaxInt, Seq: math.MinInt, Kind: math.MaxInt, Data: math.MinInt},
		event{T: math.MinInt, To: math.MaxInt, From: math.MinInt, Seq: math.MaxInt, Kind: math.MinInt, Data: math.MaxInt},
	)
}

// rising returns n events in order; neighbours differ in another field each time.
func rising(n int) []event {
	list := []event{}
	e := event{From: -1}
	for i := range n {
		f := fields()[5-i%6]
		for _, later := range fields()[6-i%6:] {
			*later.of(&e) = later.low
		}
		*f.of(&e)++
		list = append(list, e)
	}
	return list
}

func without(list []event, at int) []event {
	return slices.Concat(list[:at], list[at+1:])
}

// Promise 22.

func TestEvtOkBoundsOfEveryField(t *testing.T) {
	base := event{T: 5, To: 1, From: 0, Seq: 3, Kind: 1, Data: 50}
	for _, f := range fields() {
		for _, n := range []int{f.low, f.low + 1, f.high - 1, f.high} {
			if !impl.EvtOk(with(base, f, n), impl.CmpMost) {
				t.Errorf("%s %d is refused", f.name, n)
			}
		}
		for _, n := range []int{math.MinInt, f.low - 1, f.high + 1, math.MaxInt} {
			if impl.EvtOk(with(base, f, n), impl.CmpMost) {
				t.Errorf("%s %d is accepted", f.name, n)
			}
		}
	}
}

func TestEvtOkBoundsTogether(t *testing.T) {
	low, high := event{}, event{}
	for _, f := range fields() {
		*f.of(&low), *f.of(&high) = f.low, f.high
	}
	if !impl.EvtOk(low, 1) || !impl.EvtOk(low, 4) || !impl.EvtOk(high, 4) || impl.EvtOk(high, 3) {
		t.Fatal("all fields at a bound")
	}
	if impl.EvtOk(mark, 4) {
		t.Fatal("all fields below their bounds")
	}
}

func TestEvtOkNumberOfComponents(t *testing.T) {
	e := event{From: -1}
	for many := 1; many <= 4; many++ {
		if !impl.EvtOk(e, many) {
			t.Errorf("%d components are refused", many)
		}
	}
	for _, many := range []int{math.MinInt, -1, 0, 5, math.MaxInt} {
		if impl.EvtOk(e, many) {
			t.Errorf("%d components are accepted", many)
		}
	}
}

func TestEvtOkReceiverAndSenderExist(t *testing.T) {
	for many := 1; many <= 4; many++ {
		for to := -2; to <= 5; to++ {
			for from := -3; from <= 5; from++ {
				want := to >= 0 && to < many && from >= -1 && from < many
				if impl.EvtOk(event{T: 1, To: to, From: from}, many) != want {
					t.Errorf("to %d from %d of %d: not %v", to, from, many, want)
				}
			}
		}
	}
}

func TestEvtOkMoreComponents(t *testing.T) {
	for _, e := range append(somePool(), rising(300)...) {
		for many := 1; many < 4; many++ {
			if impl.EvtOk(e, many) && !impl.EvtOk(e, many+1) {
				t.Errorf("%v is valid with %d components only", e, many)
			}
		}
	}
}

// Promise 23.

func TestEvtLessIsTotal(t *testing.T) {
	pool := somePool()
	for _, a := range pool {
		for _, b := range pool {
			less, greater := impl.EvtLess(a, b), impl.EvtLess(b, a)
			if a == b && (less || greater) {
				t.Fatalf("%v is less than itself", a)
			}
			if a != b && less == greater {
				t.Fatalf("%v and %v: %v both ways", a, b, less)
			}
			if a.T < b.T && !less {
				t.Fatalf("%v is earlier than %v, but not less", a, b)
			}
		}
	}
}

func TestEvtLessFirstDifferenceDecides(t *testing.T) {
	for i, f := range fields() {
		for _, pair := range [][2]int{{4, 5}, {-1, 0}, {math.MinInt, math.MaxInt}, {math.MinInt, 1}, {-2, math.MaxInt}} {
			a, b := event{T: 4, To: 4}, event{T: 4, To: 4}
			for _, later := range fields()[i+1:] {
				*later.of(&a), *later.of(&b) = 9, 0
			}
			a, b = with(a, f, pair[0]), with(b, f, pair[1])
			if !impl.EvtLess(a, b) || impl.EvtLess(b, a) {
				t.Errorf("%s does not decide between %v and %v", f.name, a, b)
			}
		}
	}
}

// Promise 24.

func TestEvtLessIsTransitive(t *testing.T) {
	pool := somePool()
	for _, a := range pool {
		for _, b := range pool {
			if !impl.EvtLess(a, b) {
				continue
			}
			for _, c := range pool {
				if impl.EvtLess(b, c) && !impl.EvtLess(a, c) {
					t.Fatalf("%v, %v, %v", a, b, c)
				}
			}
		}
	}
}

// Promise 25.

func TestEvtPutNewEventAtEveryPlace(t *testing.T) {
	for n := 1; n <= 50; n++ {
		list := rising(n)
		for at := range list {
			rest := without(list, at)
			got := impl.EvtPut(rest, list[at])
			if !slices.Equal(got, list) || !impl.EvtRise(got) {
				t.Fatalf("%v into %v: %v", list[at], rest, got)
			}
			back, ok := impl.EvtTake(got, list[at])
			if !ok || !slices.Equal(back, rest) {
				t.Fatalf("removing %v again: %v %v", list[at], back, ok)
			}
		}
	}
}

func TestEvtPutIntoEmptyList(t *testing.T) {
	for _, e := range somePool() {
		if got := impl.EvtPut(nil, e); !slices.Equal(got, []event{e}) {
			t.Fatalf("%v into nil: %v", e, got)
		}
		if got := impl.EvtPut([]event{}, e); !slices.Equal(got, []event{e}) {
			t.Fatalf("%v into an empty list: %v", e, got)
		}
	}
}

func TestEvtPutTakesAnyEvents(t *testing.T) {
	list := []event{}
	for _, e := range somePool() {
		list = impl.EvtPut(list, e)
	}
	if len(list) != len(somePool()) || !impl.EvtRise(list) {
		t.Fatalf("%d events: %v", len(list), list)
	}
}

func TestEvtPutEventThatIsThere(t *testing.T) {
	for n := 1; n <= 30; n++ {
		list := rising(n)
		for at, e := range list {
			got := impl.EvtPut(list, e)
			if !slices.Equal(got, slices.Insert(slices.Clone(list), at+1, e)) {
				t.Fatalf("%v again into %v: %v", e, list, got)
			}
			if impl.EvtRise(got) {
				t.Fatalf("%v twice in a list that is in order", e)
			}
			if back, ok := impl.EvtTake(got, e); !ok || !slices.Equal(back, list) {
				t.Fatalf("removing %v once: %v %v", e, back, ok)
			}
			if twice := impl.EvtPut(got, event{T: 1000}); len(twice) != 0 {
				t.Fatalf("put into a list with an element twice: %v", twice)
			}
		}
	}
}

func TestEvtPutRefusesListsOutOfOrder(t *testing.T) {
	list := rising(5)
	for i := range 4 {
		twice := slices.Insert(slices.Clone(list), i, list[i])
		swapped := slices.Clone(list)
		swapped[i], swapped[i+1] = swapped[i+1], swapped[i]
		for _, bad := range [][]event{twice, swapped} {
			for _, e := range append(slices.Clone(list), event{T: -1}, event{T: 1000}) {
				if got := impl.EvtPut(bad, e); got != nil {
					t.Fatalf("%v into %v: %v", e, bad, got)
				}
			}
		}
	}
}

func TestEvtPutOwnsItsMemory(t *testing.T) {
	list := rising(6)
	for _, arg := range [][]event{{}, list[:1], list, {list[2], list[1]}, {list[2], list[2]}} {
		for _, e := range []event{{T: -1}, list[0], list[3], {T: 1000}} {
			checkPure(t, arg, mark, func(arg []event) []event { return impl.EvtPut(arg, e) })
		}
	}
}

// Promise 26.

func TestEvtTakeEveryElement(t *testing.T) {
	list := rising(7)
	slices.Reverse(list)
	for _, arg := range [][]event{rising(1), rising(7), list, somePool()} {
		for at, e := range arg {
			got, ok := impl.EvtTake(arg, e)
			if !ok || !slices.Equal(got, without(arg, at)) {
				t.Fatalf("%v out of %v: %v %v", e, arg, got, ok)
			}
		}
	}
}

func TestEvtTakeFirstOfEqualElements(t *testing.T) {
	list := rising(3)
	a, b, c := list[0], list[1], list[2]
	for _, test := range []struct {
		list []event
		take event
		want []event
	}{
		{[]event{a, a}, a, []event{a}},
		{[]event{a, b, a}, a, []event{b, a}},
		{[]event{a, b, a}, b, []event{a, a}},
		{[]event{c, a, b, a, c}, a, []event{c, b, a, c}},
		{[]event{c, a, b, a, c}, c, []event{a, b, a, c}},
		{[]event{b, b, b}, b, []event{b, b}},
	} {
		got, ok := impl.EvtTake(test.list, test.take)
		if !ok || !slices.Equal(got, test.want) {
			t.Errorf("%v out of %v: %v %v", test.take, test.list, got, ok)
		}
	}
}

func TestEvtTakeOtherEvents(t *testing.T) {
	list := rising(4)
	for _, arg := range [][]event{nil, {}, list[:1], list, {list[2], list[0], list[2]}} {
		others := []event{mark, {T: 1000}}
		for _, f := range fields() {
			others = append(others, with(list[0], f, 500), with(list[2], f, -500))
		}
		for _, e := range others {
			got, ok := impl.EvtTake(arg, e)
			if ok || !slices.Equal(got, arg) {
				t.Errorf("%v out of %v: %v %v", e, arg, got, ok)
			}
		}
	}
}

func TestEvtTakeOwnsItsMemory(t *testing.T) {
	list := rising(6)
	for _, arg := range [][]event{{}, list[:1], list, {list[2], list[1], list[2]}} {
		for _, e := range []event{list[0], list[2], list[5], {T: 1000}} {
			checkPure(t, arg, mark, func(arg []event) []event {
				got, _ := impl.EvtTake(arg, e)
				return got
			})
		}
	}
}

// Promise 27.

func TestEvtRiseOfShortLists(t *testing.T) {
	if !impl.EvtRise(nil) || !impl.EvtRise([]event{}) {
		t.Fatal("the empty list")
	}
	for _, e := range somePool() {
		if !impl.EvtRise([]event{e}) {
			t.Fatal(e)
		}
	}
}

func TestEvtRiseComparesNeighbours(t *testing.T) {
	pool := somePool()
	for _, a := range pool {
		for _, b := range pool {
			if impl.EvtRise([]event{a, b}) != impl.EvtLess(a, b) {
				t.Fatalf("%v, %v", a, b)
			}
		}
	}
}

func TestEvtRiseOfEveryPart(t *testing.T) {
	list := rising(10)
	for bits := range 1 << len(list) {
		part := []event{}
		for i, e := range list {
			if bits>>i&1 == 1 {
				part = append(part, e)
			}
		}
		if !impl.EvtRise(part) {
			t.Fatal(part)
		}
	}
}

func TestEvtRiseOfElementTwice(t *testing.T) {
	list := rising(6)
	for _, e := range list {
		for at := range len(list) + 1 {
			if twice := slices.Insert(slices.Clone(list), at, e); impl.EvtRise(twice) {
				t.Fatal(twice)
			}
		}
	}
}

func TestEvtRiseOfOneExchange(t *testing.T) {
	for i := range 6 {
		for j := range i {
			list := rising(6)
			list[i], list[j] = list[j], list[i]
			if impl.EvtRise(list) {
				t.Fatal(list)
			}
		}
	}
}

func TestEvtRiseLeavesTheList(t *testing.T) {
	list := rising(6)
	for _, arg := range [][]event{list, {list[2], list[1], list[2]}} {
		checkPure(t, arg, mark, func(arg []event) []event {
			impl.EvtRise(arg)
			return nil
		})
	}
}

func TestConstantsOfEvents(t *testing.T) {
	if impl.TimTop != 99 || impl.CmpMost != 4 || impl.SeqMost != 12 || impl.NumMod != 97 {
		t.Fatal(impl.TimTop, impl.CmpMost, impl.SeqMost, impl.NumMod)
	}
}
