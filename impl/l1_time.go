package impl

import (
	"cmp"
	"slices"
)

// TimTop is the greatest time, CmpMost how many components there are at most, SeqMost how much one sends at most, NumMod mod which all is reckoned.
const (
	TimTop  = 99
	CmpMost = 4
	SeqMost = 12
	NumMod  = 97
)

// kindTop is the greatest kind of an event.
const kindTop = 2

// EvtEvt is something that happens: when, to which component, from which one (-1, if from outside), its number there, of which kind, and a number.
type EvtEvt struct {
	T    int
	To   int
	From int
	Seq  int
	Kind int
	Data int
}

// EvtOk says whether something may happen, to one of so many components.
func EvtOk(e EvtEvt, many int) bool {
	return within(many, 1, CmpMost) &&
		within(e.T, 0, TimTop) &&
		within(e.To, 0, many-1) &&
		within(e.From, -1, many-1) &&
		within(e.Seq, 0, SeqMost-1) &&
		within(e.Kind, 0, kindTop) &&
		within(e.Data, 0, NumMod-1)
}

// EvtLess says whether something happens ahead of another thing: by time, to which, from which, its number, its kind, its number.
func EvtLess(a EvtEvt, b EvtEvt) bool {
	return evtCompare(a, b) < 0
}

// EvtPut puts something that happens in its place among others, that are in order.
func EvtPut(list []EvtEvt, e EvtEvt) []EvtEvt {
	if !EvtRise(list) {
		return nil
	}
	return sortBy(evtCompare, list, []EvtEvt{e})
}

// EvtRise says whether things happen in order, none of them twice.
func EvtRise(list []EvtEvt) bool {
	return ascending(evtCompare, list)
}

// EvtTake takes something that happens out of others; false, if it is none of them.
func EvtTake(list []EvtEvt, e EvtEvt) ([]EvtEvt, bool) {
	at := slices.Index(list, e)
	if at < 0 {
		return slices.Concat(list), false
	}
	return slices.Concat(list[:at], list[at+1:]), true
}

// within says whether n is in low..high.
func within(n, low, high int) bool {
	return low <= n && n <= high
}

// evtCompare compares the fields instead of subtracting them, because EvtLess takes any events and a difference may overflow.
func evtCompare(a, b EvtEvt) int {
	return cmp.Or(
		cmp.Compare(a.T, b.T),
		cmp.Compare(a.To, b.To),
		cmp.Compare(a.From, b.From),
		cmp.Compare(a.Seq, b.Seq),
		cmp.Compare(a.Kind, b.Kind),
		cmp.Compare(a.Data, b.Data),
	)
}

// sortBy sorts all elements of the lists into one new list. It is stable, so that an element of a later list ends up behind all that are not greater.
func sortBy[E any](compare func(a, b E) int, lists ...[]E) []E {
	sorted := slices.Concat(lists...)
	slices.SortStableFunc(sorted, compare)
	return sorted
}

// ascending says whether every element is less than the next one.
func ascending[E any](compare func(a, b E) int, list []E) bool {
	for i := 1; i < len(list); i++ {
		if compare(list[i-1], list[i]) >= 0 {
			return false
		}
	}
	return true
}

// every says whether all elements are ok.
func every[E any](list []E, ok func(E) bool) bool {
	for _, e := range list {
		if !ok(e) {
			return false
		}
	}
	return true
}
