package tests

import (
	"math"
	"slices"
	"testing"

	"loop.example/turnback/impl"
)

// someHost is a valid host of component 0 of someModel, with items of all sorts.
func someHost() host {
	return host{
		Now: comp{S: 12, Seq: 6, Count: 12},
		Ids: 8,
		Done: []done{
			{
				It:     item{Ev: event{T: 3, To: 0, From: 2, Seq: 9, Data: 4}, Id: 5},
				Before: comp{S: 2, Seq: 3, Count: 9},
				S:      33,
				Sent: []item{
					{Ev: event{T: 5, To: 1, From: 0, Seq: 3, Kind: 1, Data: 44}, Id: 4},
					{Ev: event{T: 12, To: 0, From: 0, Seq: 4, Kind: 2, Data: 32}, Id: 6},
				},
			},
			{
				It:     item{Ev: event{T: 5, To: 0, From: -1, Seq: 11, Kind: 2, Data: 96}},
				Before: comp{S: 33, Seq: 5, Count: 10},
			},
			{
				It:     item{Ev: event{T: 6, To: 0, From: 0, Seq: 1, Data: 1}, Id: 2},
				Before: comp{S: 0, Seq: 5, Count: 11},
				S:      12,
				Sent:   []item{{Ev: event{T: 8, To: 1, From: 0, Seq: 5, Kind: 1, Data: 23}, Id: 7}},
			},
		},
		Wait: []item{
			{Ev: event{T: 6, To: 0, From: 1, Seq: 0}, Id: 3},
			{Ev: event{T: 6, To: 0, From: 1, Seq: 0}, Id: 4},
			{Ev: event{T: 12, To: 0, From: 0, Seq: 4, Kind: 2, Data: 32}, Id: 6},
			{Ev: event{T: 20, To: 0, From: 2, Seq: 11, Kind: 1, Data: 96}, Id: 9998},
		},
		Anti: []item{
			{Ev: event{T: 2, To: 0, From: 1, Kind: 2}, Id: 1},
			{Ev: event{T: 2, To: 0, From: 1, Kind: 2}, Id: 2},
			{Ev: event{T: 7, To: 0, From: -1, Seq: 2, Data: 5}},
		},
		Keep: []kept{
			{By: event{T: 4, To: 0, From: 1, Seq: 8}, Sent: item{Ev: event{T: 6, To: 2, From: 0, Seq: 5, Data: 9}, Id: 1}},
			{By: event{T: 6, To: 0, From: 1}, Sent: item{Ev: event{T: 8, To: 1, From: 0, Seq: 6, Kind: 1, Data: 54}, Id: 3}},
			{By: event{T: 6, To: 0, From: 1}, Sent: item{Ev: event{T: 8, To: 1, From: 0, Seq: 6, Kind: 1, Data: 55}, Id: 5}},
			{By: event{T: 15, To: 0, From: -1, Seq: 3}, Sent: item{Ev: event{T: 17, To: 1, From: 0, Seq: 7, Kind: 1, Data: 1}, Id: 0}},
		},
	}
}

func someScene() scene {
	return scene{someModel(), 0, someHost()}
}

// strange are messages of all sorts for someHost, valid and new ones and others.
func strange() []message {
	var list []message
	for _, it := range append(known(someHost()),
		item{Ev: event{T: 3, From: -1, Data: 4}},
		item{Ev: event{T: 3, From: -1, Data: 4}, Id: 1},
		item{Ev: event{T: 20, From: 2, Seq: 11, Kind: 2, Data: 96}, Id: 9999},
		item{Ev: event{T: 21, From: 2}},
		item{Ev: mark, Id: -7},
	) {
		list = append(list, message{It: it}, message{Off: true, It: it})
	}
	return list
}

// checkInvalid fails unless the host is refused by all functions.
func checkInvalid(t *testing.T, name string, s scene) {
	t.Helper()
	if s.ok() {
		t.Errorf("%s is accepted: %v", name, s)
	}
	new := message{It: item{Ev: event{T: 0, To: s.Comp, From: -1, Seq: 3}}}
	h, records := impl.HstFree(s.M, s.Comp, s.H, 99)
	got := []told{s.put(new, false), s.put(new, true), s.do(), {H: h}}
	new.Off = true
	got = append(got, s.put(new, false), s.put(new, true))
	if !same(got, make([]told, 6)) || len(records) != 0 {
		t.Errorf("%s leads to %v %v", name, got, records)
	}
	if least := impl.HstLeast(s.M, s.Comp, s.H); least != -1 {
		t.Errorf("%s has the least timestamp %d", name, least)
	}
	if list := impl.CkpSave(s.M, s.Comp, s.H, 1); len(list) != 0 {
		t.Errorf("%s has the saved states %v", name, list)
	}
}

// checkHosts fails unless all changed copies of someHost are valid, or invalid; a change is named by its number.
func checkHosts(t *testing.T, want bool, changes ...func(*host)) {
	t.Helper()
	for i, change := range changes {
		s := someScene()
		change(&s.H)
		if okByDefinition(s.M, s.Comp, s.H) != want {
			t.Errorf("change %d is not %v by definition: %v", i, want, s.H)
		}
		if !want {
			checkInvalid(t, "a changed host", s)
		} else if !s.ok() || impl.HstLeast(s.M, s.Comp, s.H) < 0 {
			t.Errorf("change %d is refused: %v", i, s.H)
		}
	}
}

// Promise 38.

func TestItmLessComparesEventsThenIdentifiers(t *testing.T) {
	ids := []int{math.MinInt, -1, 0, 1, 9998, math.MaxInt}
	for _, a := range somePool() {
		for _, b := range somePool() {
			for i, x := range ids {
				y := ids[(i*5+2)%6]
				want := impl.EvtLess(a, b) || a == b && x < y
				if impl.ItmLess(numbered(a, x), numbered(b, y)) != want {
					t.Fatalf("%v %d, %v %d: not %v", a, x, b, y, want)
				}
			}
		}
	}
}

func TestItmLessOfEqualEvents(t *testing.T) {
	for _, e := range somePool() {
		for x := -2; x <= 2; x++ {
			for y := -2; y <= 2; y++ {
				if impl.ItmLess(numbered(e, x), numbered(e, y)) != (x < y) {
					t.Fatalf("%v with %d and %d", e, x, y)
				}
			}
		}
	}
}

func TestItmLessIsTotal(t *testing.T) {
	var pool []item
	for _, e := range append(rising(8), somePool()[:12]...) {
		pool = append(pool, numbered(e, 0), numbered(e, 1), numbered(e, math.MinInt), numbered(e, math.MaxInt))
	}
	for _, a := range pool {
		for _, b := range pool {
			less, greater := impl.ItmLess(a, b), impl.ItmLess(b, a)
			if less && greater || (a == b) == (less || greater) {
				t.Fatalf("%v, %v: %v %v", a, b, less, greater)
			}
			for _, c := range pool {
				if less && impl.ItmLess(b, c) && !impl.ItmLess(a, c) {
					t.Fatalf("%v, %v, %v", a, b, c)
				}
			}
		}
	}
}

// Promise 39.

func TestHstNewWaitsForItsExternalEvents(t *testing.T) {
	for _, m := range manyModels() {
		for c := range m.Rules {
			var wait []item
			for _, e := range m.Starts {
				if e.To == c {
					wait = append(wait, numbered(e, 0))
				}
			}
			h := impl.HstNew(m, c)
			if !same(h, host{Wait: wait}) || !impl.HstOk(m, c, h) {
				t.Fatalf("component %d of %v: %v", c, m, h)
			}
		}
	}
}

func TestHstNewOfNoSuchComponent(t *testing.T) {
	for _, m := range manyModels() {
		for _, c := range []int{math.MinInt, -2, -1, len(m.Rules), len(m.Rules) + 1, 4, math.MaxInt} {
			if h := impl.HstNew(m, c); !same(h, host{}) {
				t.Fatalf("component %d of %v: %v", c, m, h)
			}
			checkInvalid(t, "a component that does not exist", scene{m, c, host{}})
		}
	}
	for many := 1; many <= 4; many++ {
		for c := range 6 {
			if s := (scene{endless(many, 1), c, host{}}); s.ok() != (c < many) {
				t.Errorf("component %d of %d", c, many)
			}
		}
	}
}

func TestHstNewOfInvalidModel(t *testing.T) {
	for _, m := range badModels() {
		for c := -1; c < 5; c++ {
			if h := impl.HstNew(m, c); !same(h, host{}) {
				t.Fatalf("component %d of %v: %v", c, m, h)
			}
			checkInvalid(t, "an invalid model", scene{m, c, host{}})
		}
		checkInvalid(t, "an invalid model", scene{m, 0, someHost()})
	}
}

// Promise 40.

func TestHstOkOfManyHosts(t *testing.T) {
	for _, s := range manyScenes() {
		if !s.ok() {
			t.Fatalf("%v is refused", s)
		}
		for i, d := range s.H.Done {
			next := s.H.Now
			if i+1 < len(s.H.Done) {
				next = s.H.Done[i+1].Before
			}
			if after, _ := impl.CmpDo(s.M, d.Before, d.It.Ev); after != next || after.S != d.S {
				t.Fatalf("%v: %v does not lead to %v", s, d, next)
			}
		}
	}
}

func TestHstOkRecordedStates(t *testing.T) {
	checkHosts(t, true, func(*host) {})
	for i := range 3 {
		for _, by := range []int{-97, -1, 1, 97} {
			checkHosts(t, false,
				func(h *host) { h.Done[i].S += by },
				func(h *host) { h.Done[i].Before.S += by },
				func(h *host) { h.Done[i].Before.Seq += by },
				func(h *host) { h.Done[i].Before.Count += by })
		}
		checkHosts(t, false, func(h *host) { h.Done[i].Before = comp{} })
	}
	checkHosts(t, false,
		func(h *host) { h.Done = slices.Delete(h.Done, 1, 2) },
		func(h *host) { h.Done = slices.Delete(h.Done, 2, 3) },
		func(h *host) { h.Now.S++ },
		func(h *host) { h.Now.Seq++ },
		func(h *host) { h.Now.Count++ },
		func(h *host) { h.Now = comp{} })
	checkHosts(t, true,
		func(h *host) { h.Done = h.Done[1:] },
		func(h *host) { h.Done = h.Done[2:] },
		func(h *host) { h.Done, h.Now = nil, comp{} },
		func(h *host) { h.Done, h.Now = nil, comp{S: 96, Seq: 12, Count: math.MaxInt} },
		func(h *host) { h.Now, h.Done = h.Done[2].Before, h.Done[:2] },
		func(h *host) { h.Now, h.Done = h.Done[1].Before, h.Done[:1] })
}

func TestHstOkStateBeforeIsValid(t *testing.T) {
	// For an invalid state CmpDo returns zero values, to which nothing leads.
	for _, before := range []comp{{S: 97}, {S: -1}, {Seq: 13}, {Count: -1}, {Count: math.MinInt}} {
		e := event{T: 5, To: 2, From: -1}
		h := host{Done: []done{{It: item{Ev: e}, Before: before}}}
		checkInvalid(t, "an invalid state before", scene{someModel(), 2, h})
	}
}

func TestHstOkCurrentState(t *testing.T) {
	for _, s := range []int{math.MinInt, -1, 0, 96, 97, math.MaxInt} {
		for _, seq := range []int{math.MinInt, -1, 0, 12, 13, math.MaxInt} {
			for _, count := range []int{math.MinInt, -1, 0, math.MaxInt} {
				now := comp{S: s, Seq: seq, Count: count}
				checkHosts(t, impl.CmpOk(now), func(h *host) { h.Done, h.Now = nil, now })
			}
		}
	}
}

func TestHstOkItemsThatWereSent(t *testing.T) {
	for _, i := range []int{0, 2} {
		for j := range someHost().Done[i].Sent {
			for _, f := range fields() {
				checkHosts(t, false,
					func(h *host) { *f.of(&h.Done[i].Sent[j].Ev)++ },
					func(h *host) { *f.of(&h.Done[i].Sent[j].Ev)-- })
			}
			checkHosts(t, true,
				func(h *host) { h.Done[i].Sent[j].Id = 0 },
				func(h *host) { h.Done[i].Sent[j].Id = 7 },
				func(h *host) { h.Ids, h.Done[i].Sent[j].Id = 9999, 9998 })
			checkHosts(t, false,
				func(h *host) { h.Done[i].Sent[j].Id = -1 },
				func(h *host) { h.Done[i].Sent[j].Id = 8 },
				func(h *host) { h.Done[i].Sent[j].Id = math.MaxInt },
				func(h *host) { h.Ids, h.Done[i].Sent[j].Id = 9999, 9999 },
				func(h *host) { h.Done[i].Sent = slices.Delete(h.Done[i].Sent, j, j+1) },
				func(h *host) { h.Done[i].Sent = append(h.Done[i].Sent, h.Done[i].Sent[j]) })
		}
	}
	checkHosts(t, false,
		func(h *host) { h.Done[0].Sent[0], h.Done[0].Sent[1] = h.Done[0].Sent[1], h.Done[0].Sent[0] },
		func(h *host) { h.Done[0].Sent[1] = h.Done[0].Sent[0] },
		func(h *host) { h.Done[1].Sent = h.Done[0].Sent[:1] },
		func(h *host) { h.Done[2].Sent = nil })
}

func TestHstOkNumberOfIdentifiers(t *testing.T) {
	for _, ids := range []int{8, 9, 9997, 9998, 9999} {
		checkHosts(t, true, func(h *host) { h.Ids = ids })
	}
	for _, ids := range []int{math.MinInt, -1, 0, 7, 10000, math.MaxInt} {
		checkHosts(t, false, func(h *host) { h.Ids = ids })
		want := ids == 0 || ids == 7
		checkHosts(t, want, func(h *host) { *h = host{Ids: ids} })
	}
}

// slots are places for an item of someHost; no other item of the list needs to move for a valid one there.
func slots() map[string]func(*host) *item {
	return map[string]func(*host) *item{
		"Wait": func(h *host) *item { h.Wait = h.Wait[:1]; h.Done = nil; return &h.Wait[0] },
		"Anti": func(h *host) *item { h.Anti = h.Anti[:1]; return &h.Anti[0] },
	}
}

func TestHstOkItemsAreValidAndAddressed(t *testing.T) {
	for name, of := range slots() {
		for _, f := range fields() {
			low, high := f.low, f.high
			switch f.name {
			case "T":
				high = 20
			case "To":
				high = 0
			case "From":
				high = 2
			}
			for _, n := range []int{math.MinInt, low - 1, low, high, high + 1, math.MaxInt} {
				change := func(h *host) {
					it := of(h)
					it.Id = 0
					*f.of(&it.Ev) = n
				}
				if s := someScene(); n >= low && n <= high {
					checkHosts(t, true, change)
				} else if change(&s.H); s.ok() {
					t.Errorf("%s: %s %d is accepted", name, f.name, n)
				} else {
					checkInvalid(t, name, s)
				}
			}
		}
		for _, id := range []int{math.MinInt, -1, 0, 1, 9998, 9999, math.MaxInt} {
			internal := id >= 0 && id < 9999
			checkHosts(t, internal, func(h *host) { of(h).Id = id })
			checkHosts(t, id == 0, func(h *host) { it := of(h); it.Ev.From, it.Id = -1, id })
		}
	}
}

func TestHstOkProcessedItemsAreValid(t *testing.T) {
	// Component 2 has no rule, so that only the item decides.
	base := item{Ev: event{T: 5, To: 2, From: 1, Seq: 4, Kind: 1, Data: 50}, Id: 3}
	for _, f := range fields() {
		low, high := f.low, map[string]int{"T": 20, "To": 2, "From": 2, "Seq": 11, "Kind": 2, "Data": 96}[f.name]
		if f.name == "To" {
			low = 2
		}
		for n := low - 2; n <= high+2; n++ {
			it := base
			it.Id = 0
			*f.of(&it.Ev) = n
			s := scene{someModel(), 2, host{Now: comp{Count: 1}, Done: []done{{It: it}}}}
			if s.ok() != (n >= low && n <= high) {
				t.Errorf("%s %d", f.name, n)
			}
		}
	}
	for _, from := range []int{-1, 0} {
		for _, id := range []int{-1, 0, 1, 9998, 9999} {
			it := base
			it.Ev.From, it.Id = from, id
			s := scene{someModel(), 2, host{Now: comp{Count: 1}, Done: []done{{It: it}}}}
			if s.ok() != (id == 0 || from == 0 && id > 0 && id < 9999) {
				t.Errorf("from %d with identifier %d", from, id)
			}
		}
	}
}

func TestHstOkOrder(t *testing.T) {
	for i := range 3 {
		checkHosts(t, false,
			func(h *host) { h.Wait[i], h.Wait[i+1] = h.Wait[i+1], h.Wait[i] },
			func(h *host) { h.Wait[i] = h.Wait[i+1] },
			func(h *host) { h.Wait[i+1] = h.Wait[i] },
			func(h *host) { h.Wait[0] = h.Done[i].It },
			func(h *host) { h.Wait = append([]item{h.Done[i].It}, h.Wait...) })
	}
	for i := range 2 {
		checkHosts(t, false,
			func(h *host) { h.Anti[i], h.Anti[i+1] = h.Anti[i+1], h.Anti[i] },
			func(h *host) { h.Anti[i] = h.Anti[i+1] })
	}
	early := item{Ev: event{T: 6, To: 0, From: 0, Seq: 1, Data: 1}, Id: 1}
	late := item{Ev: event{T: 6, To: 0, From: 0, Seq: 1, Data: 1}, Id: 3}
	checkHosts(t, false, func(h *host) { h.Wait[0] = early })
	checkHosts(t, true,
		func(h *host) { h.Wait[0] = late },
		func(h *host) { h.Wait = nil },
		func(h *host) { h.Anti = nil },
		func(h *host) { h.Anti = slices.Clone(h.Wait) },
		func(h *host) { h.Anti = doneItems(*h) },
		func(h *host) { *h = host{} })
}

func TestHstOkProcessedItemsInOrder(t *testing.T) {
	a := item{Ev: event{T: 5, To: 2, From: 1}, Id: 3}
	b := item{Ev: event{T: 5, To: 2, From: 1}, Id: 4}
	for _, test := range []struct {
		first  item
		second item
		want   bool
	}{{a, b, true}, {b, a, false}, {a, a, false}} {
		h := host{Now: comp{Count: 2}, Done: []done{{It: test.first}, {It: test.second, Before: comp{Count: 1}}}}
		if s := (scene{someModel(), 2, h}); s.ok() != test.want {
			t.Errorf("%v: not %v", h, test.want)
		}
	}
}

func TestHstOkKeptItems(t *testing.T) {
	for i := range 4 {
		checkHosts(t, true,
			func(h *host) { h.Keep[0], h.Keep[i] = h.Keep[i], h.Keep[0] },
			func(h *host) { h.Keep[0] = h.Keep[i] },
			func(h *host) { h.Keep[i].Sent.Id = 0 },
			func(h *host) { h.Keep[i].Sent.Id = 7 },
			func(h *host) { h.Keep[i].Sent.Ev.To = 2 },
			func(h *host) { h.Keep[i].Sent.Ev.To = 0 },
			func(h *host) { h.Keep[i].Sent.Ev.T = h.Keep[i].By.T + 1 },
			func(h *host) { h.Keep[i].Sent.Ev.T = 20 },
			func(h *host) { h.Keep[i].By.T = 0 },
			func(h *host) { h.Keep[i].By.From = 2 },
			func(h *host) { h.Keep = h.Keep[i:] },
			func(h *host) { h.Keep = nil })
		checkHosts(t, false,
			func(h *host) { h.Keep[i].Sent.Id = 8 },
			func(h *host) { h.Keep[i].Sent.Id = 9999 },
			func(h *host) { h.Keep[i].Sent.Id = -1 },
			func(h *host) { h.Keep[i].Sent.Ev.From = 1 },
			func(h *host) { h.Keep[i].Sent.Ev.From, h.Keep[i].Sent.Id = -1, 0 },
			func(h *host) { h.Keep[i].Sent.Ev.To = 3 },
			func(h *host) { h.Keep[i].Sent.Ev.T = h.Keep[i].By.T },
			func(h *host) { h.Keep[i].Sent.Ev.T = h.Keep[i].By.T - 1 },
			func(h *host) { h.Keep[i].Sent.Ev.T = 21 },
			func(h *host) { h.Keep[i].Sent.Ev.Data = 97 },
			func(h *host) { h.Keep[i].By.To = 1 },
			func(h *host) { h.Keep[i].By.T = -1 },
			func(h *host) { h.Keep[i].By.From = 3 },
			func(h *host) { h.Keep[i].By.From = -2 },
			func(h *host) { h.Keep[i].By.Seq = 12 },
			func(h *host) { h.Keep[i].By.Kind = 3 },
			func(h *host) { h.Keep[i].By.Data = 97 })
	}
}

// Changes of one number anywhere in a host; the definition decides which ones are valid.
func TestHstOkAfterOneChange(t *testing.T) {
	d := &draw{at: 5}
	counts := map[bool]int{}
	for _, s := range manyScenes() {
		h := plain(s.H)
		numbers := []*int{&h.Ids, &h.Now.S, &h.Now.Seq, &h.Now.Count}
		addItem := func(it *item) {
			numbers = append(numbers, &it.Id, &it.Ev.T, &it.Ev.To, &it.Ev.From, &it.Ev.Seq, &it.Ev.Kind, &it.Ev.Data)
		}
		for i := range h.Done {
			numbers = append(numbers, &h.Done[i].S, &h.Done[i].Before.S, &h.Done[i].Before.Seq, &h.Done[i].Before.Count)
			addItem(&h.Done[i].It)
		}
		for i := range h.Wait {
			addItem(&h.Wait[i])
		}
		for i := range h.Anti {
			addItem(&h.Anti[i])
		}
		for i := range h.Keep {
			addItem(&h.Keep[i].Sent)
			numbers = append(numbers, &h.Keep[i].By.T, &h.Keep[i].By.To, &h.Keep[i].By.From)
		}
		for range 6 {
			n := numbers[d.below(len(numbers))]
			before := *n
			*n += []int{-100, -2, -1, 1, 2, 100}[d.below(6)]
			want := okByDefinition(s.M, s.Comp, h)
			if counts[want]++; s.at(h).ok() != want {
				t.Fatalf("not %v: %v", want, s.at(h))
			}
			*n = before
		}
	}
	if counts[true] < 1000 || counts[false] < 1000 {
		t.Fatal(counts)
	}
}

// Promise 41.

// checkDoes fails unless HstDo leads from the host to what is told.
func checkDoes(t *testing.T, s scene, want told) {
	t.Helper()
	if got := s.do(); !same(got, want) {
		t.Fatalf("%v leads to %v, not %v", s, got, want)
	}
}

func TestHstDoOfManyHosts(t *testing.T) {
	for _, s := range manyScenes() {
		got := s.do()
		if want := doByDefinition(s); !same(got, want) || !s.at(got.H).ok() {
			t.Fatalf("%v leads to %v, not %v", s, got, want)
		}
		if len(s.H.Wait) == 0 || s.H.Ids > 9997 {
			continue
		}
		first, n := s.H.Wait[0], len(s.H.Done)
		last := got.H.Done[n]
		if len(got.H.Done) != n+1 || last.It != first || last.Before != s.H.Now || !slices.Equal(got.H.Wait, s.H.Wait[1:]) {
			t.Fatalf("%v leads to %v", s, got)
		}
		if !same(got.H.Done[:n], s.H.Done) || !slices.Equal(got.H.Anti, s.H.Anti) {
			t.Fatalf("%v leads to %v", s, got)
		}
		for _, k := range got.H.Keep {
			if !impl.EvtLess(first.Ev, k.By) {
				t.Fatalf("%v keeps %v", s, k)
			}
		}
	}
}

func TestHstDoOfSomeHost(t *testing.T) {
	s := someScene()
	h := someHost()
	// S becomes 3*12 + 7, which is odd, so that both rules send; one of the kept items is sent again.
	next := someHost()
	next.Now, next.Ids = comp{S: 43, Seq: 8, Count: 13}, 9
	long := item{Ev: event{T: 15, To: 0, From: 0, Seq: 7, Kind: 2, Data: 42}, Id: 8}
	next.Done = append(next.Done, done{It: h.Wait[0], Before: h.Now, S: 43, Sent: []item{h.Keep[1].Sent, long}})
	next.Wait, next.Keep = h.Wait[1:], h.Keep[3:]
	checkDoes(t, s, told{next, []message{{Off: true, It: h.Keep[0].Sent}, {It: long}, {Off: true, It: h.Keep[2].Sent}}})
}

func TestHstDoFirstOfSeveralKeptItemsWithOneEvent(t *testing.T) {
	s := someScene()
	again := s.H.Keep[1]
	other := again
	other.By, other.Sent.Id = event{T: 7, To: 0, From: 2}, 6
	again.Sent.Id = 0
	for _, test := range []struct {
		keep []kept
		sent item
		rest []kept
	}{
		{[]kept{again, s.H.Keep[1]}, again.Sent, nil},
		{[]kept{s.H.Keep[1], again}, s.H.Keep[1].Sent, nil},
		{[]kept{s.H.Keep[3], other, again}, other.Sent, s.H.Keep[3:]},
		{[]kept{again, other, s.H.Keep[3]}, again.Sent, []kept{other, s.H.Keep[3]}},
	} {
		s.H.Keep = test.keep
		got := s.do()
		last := got.H.Done[3]
		if last.Sent[0] != test.sent || !slices.Equal(got.H.Keep, test.rest) || got.H.Ids != 9 {
			t.Errorf("%v: %v keeps %v", test.keep, last, got.H.Keep)
		}
		// Whatever was kept of the processed event is called off behind the new item.
		want := len(test.keep) - len(test.rest) - 1
		if len(got.Sent) != want+1 || got.Sent[0].Off {
			t.Errorf("%v: %v", test.keep, got.Sent)
		}
	}
}

func TestHstDoKeptItemsOfEarlierEventsAreNotSentAgain(t *testing.T) {
	s := someScene()
	// It has the event that will be sent, but its sending event is less than the first waiting one.
	s.H.Keep = []kept{{By: event{T: 6, To: 0, From: 0, Seq: 11}, Sent: s.H.Keep[1].Sent}}
	got := s.do()
	if len(got.Sent) != 3 || !got.Sent[0].Off || got.Sent[0].It != s.H.Keep[0].Sent || got.Sent[1].It.Id != 8 || got.Sent[2].It.Id != 9 {
		t.Fatal(got)
	}
	if got.Sent[1].It.Ev != s.H.Keep[0].Sent.Ev || got.H.Ids != 10 || len(got.H.Keep) != 0 {
		t.Fatal(got)
	}
}

func TestHstDoTellsKeptItemsBySendingEvent(t *testing.T) {
	// Component 2 has no rule, so that nothing is sent again.
	first := event{T: 6, To: 2, From: 1, Seq: 5, Kind: 1, Data: 50}
	s := scene{someModel(), 2, host{Ids: 3, Wait: []item{numbered(first, 2)}}}
	off := func(ids ...int) []message {
		list := []message{}
		for _, id := range ids {
			list = append(list, message{Off: true, It: numbered(event{T: 20, From: 2}, id)})
		}
		return list
	}
	for _, f := range fields() {
		if f.name == "To" {
			continue
		}
		less, greater := first, first
		*f.of(&less)--
		*f.of(&greater)++
		s.H.Keep = nil
		for id, by := range []event{greater, first, less} {
			s.H.Keep = append(s.H.Keep, kept{By: by, Sent: numbered(event{T: 20, From: 2}, id)})
		}
		got := s.do()
		if !slices.Equal(got.Sent, off(2, 1)) || !slices.Equal(got.H.Keep, s.H.Keep[:1]) {
			t.Errorf("%s: %v", f.name, got)
		}
	}
}

func TestHstDoWithNothingWaiting(t *testing.T) {
	for _, ids := range []int{8, 9997, 9998, 9999} {
		s := someScene()
		s.H.Wait, s.H.Ids = nil, ids
		next := plain(s.H)
		next.Keep = nil
		var sent []message
		for _, k := range s.H.Keep {
			sent = append(sent, message{Off: true, It: k.Sent})
		}
		checkDoes(t, s, told{next, sent})
		checkDoes(t, s.at(next), told{H: next})
		checkDoes(t, s.at(host{Ids: ids}), told{H: host{Ids: ids}})
	}
}

func TestHstDoWithFewIdentifiersLeft(t *testing.T) {
	m := endless(1, 3)
	for _, ids := range []int{0, 9996, 9997, 9998, 9999} {
		h := impl.HstNew(m, 0)
		h.Ids = ids
		h.Keep = []kept{{By: event{T: 0, From: -1}, Sent: numbered(event{T: 1}, 0)}}[:min(ids, 1)]
		s := scene{m, 0, h}
		if ids > 9997 {
			checkDoes(t, s, told{H: h})
			continue
		}
		got := s.do()
		if !same(got, doByDefinition(s)) || len(got.H.Done) != 1 || !s.at(got.H).ok() {
			t.Fatalf("%d: %v", ids, got)
		}
		if ids == 0 && got.H.Ids != 2 || ids > 0 && got.H.Ids != ids+1 {
			t.Fatalf("%d: %v", ids, got)
		}
	}
	last := scene{m, 0, host{Ids: 9997, Wait: impl.HstNew(m, 0).Wait}}
	got := last.do()
	if len(got.Sent) != 2 || got.Sent[0].It.Id != 9997 || got.Sent[1].It.Id != 9998 || got.H.Ids != 9999 {
		t.Fatal(got)
	}
	checkDoes(t, last.at(got.H), told{H: got.H})
}

func TestHstDoWithOneComponentAndFour(t *testing.T) {
	for _, many := range []int{1, 4} {
		m := endless(many, 2)
		s := scene{m, 0, impl.HstNew(m, 0)}
		next := host{
			Now: comp{S: 0, Seq: 2, Count: 1},
			Ids: 2,
			Done: []done{{It: numbered(m.Starts[0], 0), Sent: []item{
				numbered(event{T: 1}, 0),
				numbered(event{T: 1, To: 1 % many, Seq: 1, Data: 1}, 1),
			}}},
			Wait: []item{numbered(m.Starts[1], 0)},
		}
		checkDoes(t, s, told{next, []message{{It: next.Done[0].Sent[0]}, {It: next.Done[0].Sent[1]}}})
	}
}

// Promise 42.

func TestHstPutOfManyItems(t *testing.T) {
	d := &draw{at: 9}
	for _, s := range manyScenes() {
		for range 4 {
			msg := message{It: d.item(s, known(s.H))}
			for _, lazy := range []bool{false, true} {
				checkPut(t, s, msg, lazy)
			}
		}
	}
}

// checkPut fails unless HstPut is as defined and, where promised, as promised.
func checkPut(t *testing.T, s scene, msg message, lazy bool) {
	t.Helper()
	got := s.put(msg, lazy)
	if want := putByDefinition(s, msg, lazy); !same(got, want) {
		t.Fatalf("%v of %v, lazy %v: %v, not %v", msg, s, lazy, got, want)
	}
	if same(got, told{}) {
		return
	}
	all := inOrder(append(doneItems(s.H), s.H.Wait...), msg.It)
	if msg.Off || slices.Contains(s.H.Anti, msg.It) {
		all = withoutItem(all, msg.It)
	}
	if !s.at(got.H).ok() || got.H.Ids != s.H.Ids || !slices.Equal(append(doneItems(got.H), got.H.Wait...), all) {
		t.Fatalf("%v of %v, lazy %v: %v", msg, s, lazy, got)
	}
	back := slices.ContainsFunc(s.H.Done, func(d done) bool { return d.It == msg.It })
	if !msg.Off && !slices.Contains(s.H.Anti, msg.It) {
		back = true
	}
	for i, d := range s.H.Done {
		if stays := !back || impl.ItmLess(d.It, msg.It); stays != (i < len(got.H.Done)) || stays && !same(d, got.H.Done[i]) {
			t.Fatalf("%v of %v, lazy %v: %v", msg, s, lazy, got)
		}
	}
}

// rolledBack is someHost, of which only the first processed items stay.
func rolledBack(stay int) host {
	h := someHost()
	for len(h.Done) > stay {
		last := h.Done[len(h.Done)-1]
		h.Now, h.Done = last.Before, h.Done[:len(h.Done)-1]
		h.Wait = append([]item{last.It}, h.Wait...)
	}
	return h
}

func TestHstPutStragglerAtEveryPlace(t *testing.T) {
	s := someScene()
	sent := []item{s.H.Done[2].Sent[0], s.H.Done[0].Sent[0], s.H.Done[0].Sent[1]}
	for _, test := range []struct {
		it   item
		stay int
		off  int
	}{
		{item{Ev: event{T: 0, From: -1}}, 0, 3},
		{item{Ev: event{T: 3, From: 2, Seq: 9, Data: 4}, Id: 4}, 0, 3},
		{item{Ev: event{T: 3, From: 2, Seq: 9, Data: 4}, Id: 6}, 1, 1},
		{item{Ev: event{T: 4, From: 2}}, 1, 1},
		{item{Ev: event{T: 5, From: -1, Seq: 11, Kind: 2, Data: 95}}, 1, 1},
		{item{Ev: event{T: 5, From: 0}}, 2, 1},
		{item{Ev: event{T: 6, From: 0, Seq: 1, Data: 1}, Id: 1}, 2, 1},
		{item{Ev: event{T: 6, From: 0, Seq: 1, Data: 1}, Id: 3}, 3, 0},
		{item{Ev: event{T: 6, From: 1}, Id: 2}, 3, 0},
		{item{Ev: event{T: 20, From: 2, Seq: 11, Kind: 2, Data: 96}, Id: 9998}, 3, 0},
	} {
		eager, lazy := rolledBack(test.stay), rolledBack(test.stay)
		eager.Wait = inOrder(eager.Wait, test.it)
		lazy.Wait = inOrder(lazy.Wait, test.it)
		var off []message
		for i, x := range sent[:test.off] {
			off = append(off, message{Off: true, It: x})
			lazy.Keep = append(lazy.Keep, kept{By: s.H.Done[2-2*min(i, 1)].It.Ev, Sent: x})
		}
		if got := s.put(message{It: test.it}, false); !same(got, told{eager, off}) {
			t.Errorf("%v: %v", test.it, got)
		}
		if got := s.put(message{It: test.it}, true); !same(got, told{H: lazy}) {
			t.Errorf("%v, lazily: %v", test.it, got)
		}
	}
}

func TestHstPutItemThatWasCancelled(t *testing.T) {
	for i, it := range someHost().Anti {
		for _, lazy := range []bool{false, true} {
			want := someHost()
			want.Anti = slices.Delete(want.Anti, i, i+1)
			if got := someScene().put(message{It: it}, lazy); !same(got, told{H: want}) {
				t.Errorf("%v: %v", it, got)
			}
		}
	}
	// An item with the same event, but another identifier, was not cancelled.
	it := someHost().Anti[0]
	it.Id = 0
	want := rolledBack(0)
	want.Wait = append([]item{it}, want.Wait...)
	if got := someScene().put(message{It: it}, false); !same(got.H, want) {
		t.Errorf("%v: %v", it, got)
	}
}

func TestHstPutRefusesWhatIsNotNew(t *testing.T) {
	for _, lazy := range []bool{false, true} {
		for _, it := range append(doneItems(someHost()), someHost().Wait...) {
			if got := someScene().put(message{It: it}, lazy); !same(got, told{}) {
				t.Errorf("%v is taken again: %v", it, got)
			}
		}
		for _, it := range someHost().Anti {
			if got := someScene().put(message{Off: true, It: it}, lazy); !same(got, told{}) {
				t.Errorf("the anti-message of %v is taken again: %v", it, got)
			}
		}
		// Where an anti-message is stored and its item there, neither is new.
		for _, list := range [][]item{doneItems(someHost()), someHost().Wait} {
			s := someScene()
			s.H.Anti = list
			for _, it := range list {
				if got := s.put(message{It: it}, lazy); !same(got, told{}) {
					t.Errorf("%v is taken again: %v", it, got)
				}
				if got := s.put(message{Off: true, It: it}, lazy); !same(got, told{}) {
					t.Errorf("the anti-message of %v is taken again: %v", it, got)
				}
			}
		}
	}
}

func TestHstPutRefusesInvalidItems(t *testing.T) {
	base := item{Ev: event{T: 9, To: 0, From: 1, Seq: 1, Kind: 1, Data: 9}, Id: 1}
	high := map[string]int{"T": 20, "To": 0, "From": 2, "Seq": 11, "Kind": 2, "Data": 96, "Id": 9998}
	check := func(name string, n, low int, it item) {
		t.Helper()
		for _, msg := range []message{{It: it}, {Off: true, It: it}} {
			for _, lazy := range []bool{false, true} {
				refused := same(someScene().put(msg, lazy), told{})
				if want := n < low || n > high[name]; refused != want {
					t.Errorf("%s %d: refused is %v", name, n, refused)
				}
			}
		}
	}
	for _, f := range fields() {
		for _, n := range []int{math.MinInt, f.low - 1, f.low, high[f.name], high[f.name] + 1, math.MaxInt} {
			it := base
			it.Id = 0
			*f.of(&it.Ev) = n
			check(f.name, n, f.low, it)
		}
	}
	for _, id := range []int{math.MinInt, -1, 0, 9998, 9999, math.MaxInt} {
		it := base
		it.Id = id
		check("Id", id, 0, it)
	}
	high["Id"] = 0
	for _, id := range []int{-1, 0, 1, 9998} {
		it := base
		it.Ev.From, it.Id = -1, id
		check("Id", id, 0, it)
	}
}

// Promise 43.

func TestHstPutOfManyAntiMessages(t *testing.T) {
	d := &draw{at: 13}
	for _, s := range manyScenes() {
		list := append(known(s.H), d.item(s, nil), d.item(s, known(s.H)))
		for _, it := range list {
			for _, lazy := range []bool{false, true} {
				msg := message{Off: true, It: it}
				checkPut(t, s, msg, lazy)
				got := s.put(msg, lazy)
				if slices.Contains(append(doneItems(got.H), got.H.Wait...), it) {
					t.Fatalf("%v of %v: %v", msg, s, got)
				}
			}
		}
	}
}

func TestHstPutAntiMessageOfProcessedItem(t *testing.T) {
	s := someScene()
	for i, it := range doneItems(s.H) {
		eager := rolledBack(i)
		eager.Wait = eager.Wait[1:]
		var off []message
		lazy := plain(eager)
		for j := 2; j >= i; j-- {
			for _, x := range s.H.Done[j].Sent {
				off = append(off, message{Off: true, It: x})
				lazy.Keep = append(lazy.Keep, kept{By: s.H.Done[j].It.Ev, Sent: x})
			}
		}
		if got := s.put(message{Off: true, It: it}, false); !same(got, told{eager, off}) {
			t.Errorf("%v: %v", it, got)
		}
		if got := s.put(message{Off: true, It: it}, true); !same(got, told{H: lazy}) {
			t.Errorf("%v, lazily: %v", it, got)
		}
	}
}

func TestHstPutAntiMessageOfOtherItems(t *testing.T) {
	for _, lazy := range []bool{false, true} {
		for i, it := range someHost().Wait {
			want := someHost()
			want.Wait = slices.Delete(want.Wait, i, i+1)
			if got := someScene().put(message{Off: true, It: it}, lazy); !same(got, told{H: want}) {
				t.Errorf("%v: %v", it, got)
			}
		}
		// These have not arrived, even where they are less than what was processed, or differ in the identifier only.
		for _, it := range []item{
			{Ev: event{T: 0, From: -1}},
			{Ev: event{T: 3, From: 2, Seq: 9, Data: 4}, Id: 4},
			{Ev: event{T: 6, From: 0, Seq: 1, Data: 1}, Id: 3},
			{Ev: event{T: 6, From: 1}, Id: 5},
			{Ev: event{T: 20, From: 2, Seq: 11, Kind: 2, Data: 96}, Id: 9998},
		} {
			want := someHost()
			want.Anti = inOrder(want.Anti, it)
			if got := someScene().put(message{Off: true, It: it}, lazy); !same(got, told{H: want}) {
				t.Errorf("%v: %v", it, got)
			}
		}
	}
}

// Promise 44.

func TestRollbackRestoresTheState(t *testing.T) {
	for _, s := range manyScenes() {
		s.H = host{Now: s.H.Now, Wait: slices.DeleteFunc(plain(s.H.Wait), func(it item) bool { return it.Ev.T == 0 })}
		if len(s.H.Wait) == 0 {
			continue
		}
		after := s.doAll()
		early := message{It: numbered(event{T: 0, To: s.Comp, From: -1}, 0)}
		for _, lazy := range []bool{false, true} {
			back := after.put(early, lazy).H
			if back.Now != s.H.Now || len(back.Done) != 0 || !slices.Equal(back.Wait, append([]item{early.It}, s.H.Wait...)) {
				t.Fatalf("%v, lazy %v: %v", s, lazy, back)
			}
			off := s.at(back).put(message{Off: true, It: early.It}, lazy)
			if off.H.Now != s.H.Now || !slices.Equal(off.H.Wait, s.H.Wait) || len(off.H.Anti) != 0 || len(off.Sent) != 0 {
				t.Fatalf("%v, lazy %v: %v", s, lazy, off)
			}
		}
	}
}

// Promise 45.

func TestItemAndAntiMessageMayCross(t *testing.T) {
	d := &draw{at: 17}
	for _, s := range manyScenes() {
		s.H.Now, s.H.Done = comp{}, nil
		it := d.item(s, nil)
		if slices.Contains(append(slices.Clone(s.H.Wait), s.H.Anti...), it) {
			continue
		}
		for _, lazy := range []bool{false, true} {
			for _, off := range []bool{false, true} {
				one := s.put(message{Off: off, It: it}, lazy)
				two := s.at(one.H).put(message{Off: !off, It: it}, lazy)
				if !same(two, told{H: s.H}) || len(one.Sent) != 0 || same(one.H, s.H) {
					t.Fatalf("%v and %v, off first %v: %v, %v", s, it, off, one, two)
				}
			}
		}
	}
}

// Promise 46.

func TestLazyCancellationAvoidsMessages(t *testing.T) {
	tried := 0
	for _, m := range manyModels() {
		for c, rules := range m.Rules {
			for kind := range 3 {
				if slices.ContainsFunc(rules, func(r rule) bool { return r.Kind == kind }) {
					continue
				}
				early := numbered(event{T: 0, To: c, From: -1, Kind: kind, Seq: 11}, 0)
				for _, it := range impl.HstNew(m, c).Wait {
					if impl.ItmLess(early, it) {
						checkLazy(t, scene{m, c, host{Wait: []item{it}}}, early)
						tried++
					}
				}
			}
		}
	}
	if tried < 30 {
		t.Fatalf("only %d hosts are tried", tried)
	}
}

// checkLazy lets a host process its only item, and again behind an early one that has no rule.
func checkLazy(t *testing.T, s scene, early item) {
	t.Helper()
	first := s.do()
	lazy := s.at(first.H).put(message{It: early}, true)
	eager := s.at(first.H).put(message{It: early}, false)
	if len(lazy.Sent) != 0 || len(eager.Sent) != len(first.Sent) {
		t.Fatalf("%v: %v, %v", s, lazy, eager)
	}
	for range 2 {
		lazy, eager = s.at(lazy.H).do(), s.at(eager.H).do()
		if len(lazy.Sent) != 0 || lazy.H.Now != eager.H.Now {
			t.Fatalf("%v: %v, %v", s, lazy, eager)
		}
	}
	if len(eager.Sent) != len(first.Sent) || len(lazy.H.Keep) != 0 || lazy.H.Ids != first.H.Ids || len(lazy.H.Done) != 2 {
		t.Fatalf("%v: %v, %v", s, lazy, eager)
	}
	for i := range 2 {
		a, b := lazy.H.Done[i], eager.H.Done[i]
		same := a.It == b.It && a.Before == b.Before && a.S == b.S && len(a.Sent) == len(b.Sent)
		for j := range a.Sent {
			same = same && a.Sent[j].Ev == b.Sent[j].Ev && a.Sent[j] == first.Sent[j].It
		}
		if !same {
			t.Fatalf("%v: %v, %v", s, a, b)
		}
	}
}

func TestCancellationAfterRollbackSendsTheSameOthersOrNone(t *testing.T) {
	m := model{Rules: [][]rule{{
		{Kind: 0, A: 1, B: 1, Sends: []send{{Delay: 5, Kind: 2, Mod: 2}}},
		{Kind: 1, A: 1, B: 1},
	}}, Until: 20}
	s := scene{m, 0, host{Wait: []item{{Ev: event{T: 5, From: -1, Data: 4}}}}}
	s = s.at(s.do().H)
	sent := item{Ev: event{T: 10, Kind: 2, Data: 4}}
	for _, test := range []struct {
		data int
		lazy []message
	}{
		{0, nil},
		{2, []message{{It: item{Ev: event{T: 10, Kind: 2, Data: 6}, Id: 1}}, {Off: true, It: sent}}},
		{1, []message{{Off: true, It: sent}}},
	} {
		early := message{It: item{Ev: event{T: 3, From: -1, Kind: 1, Data: test.data}}}
		lazy, eager := s.put(early, true), s.put(early, false)
		if len(lazy.Sent) != 0 || !slices.Equal(eager.Sent, []message{{Off: true, It: sent}}) {
			t.Fatal(lazy, eager)
		}
		lazy, eager = s.at(s.at(lazy.H).do().H).do(), s.at(s.at(eager.H).do().H).do()
		if !slices.Equal(lazy.Sent, test.lazy) || len(lazy.H.Keep) != 0 {
			t.Errorf("data %d: %v", test.data, lazy)
		}
		if want := 1 - test.data%2; len(eager.Sent) != want || want == 1 && eager.Sent[0].It.Id != 1 {
			t.Errorf("data %d: %v", test.data, eager)
		}
	}
}

// Promise 47.

func TestHstLeastOfManyHosts(t *testing.T) {
	for _, s := range manyScenes() {
		want := s.M.Until + 1
		for _, it := range append(slices.Clone(s.H.Wait), s.H.Anti...) {
			want = min(want, it.Ev.T)
		}
		for _, k := range s.H.Keep {
			want = min(want, k.Sent.Ev.T)
		}
		if got := impl.HstLeast(s.M, s.Comp, s.H); got != want || got < 0 || got > s.M.Until+1 {
			t.Fatalf("%v: %d, not %d", s, got, want)
		}
	}
}

func TestHstLeastOfEveryList(t *testing.T) {
	for _, test := range []struct {
		change func(*host)
		want   int
	}{
		{func(*host) {}, 2},
		{func(h *host) { h.Anti = h.Anti[2:] }, 6},
		{func(h *host) { h.Anti, h.Wait = nil, nil }, 6},
		{func(h *host) { h.Anti, h.Wait, h.Keep = nil, nil, h.Keep[2:] }, 8},
		{func(h *host) { h.Anti, h.Wait, h.Keep = nil, nil, []kept{h.Keep[3], h.Keep[2]} }, 8},
		{func(h *host) { h.Anti, h.Wait, h.Keep = nil, nil, h.Keep[3:] }, 17},
		{func(h *host) { h.Anti, h.Wait, h.Keep = nil, nil, nil }, 21},
		{func(h *host) { h.Anti, h.Keep = nil, nil }, 6},
		{func(h *host) { h.Anti, h.Wait, h.Keep = nil, h.Wait[3:], nil }, 20},
		{func(h *host) { h.Anti, h.Wait, h.Keep = h.Anti[2:], nil, nil }, 7},
		{func(h *host) { *h = host{} }, 21},
	} {
		s := someScene()
		test.change(&s.H)
		if got := impl.HstLeast(s.M, s.Comp, s.H); got != test.want {
			t.Errorf("%v: %d, not %d", s.H, got, test.want)
		}
	}
	for _, until := range []int{0, 50, 99} {
		m := model{Rules: make([][]rule, 1), Until: until}
		if got := impl.HstLeast(m, 0, host{}); got != until+1 {
			t.Errorf("until %d: %d", until, got)
		}
	}
}

// Promise 48.

func TestHstFreeAtEveryTime(t *testing.T) {
	for _, s := range append(manyScenes(), someScene()) {
		times := []int{math.MinInt, -1, 0, s.M.Until, s.M.Until + 1, math.MaxInt}
		for _, it := range doneItems(s.H) {
			times = append(times, it.Ev.T, it.Ev.T+1)
		}
		for _, at := range times {
			h, records := impl.HstFree(s.M, s.Comp, s.H, at)
			want, told := plain(s.H), []record{}
			for len(want.Done) > 0 && want.Done[0].It.Ev.T < at {
				told = append(told, record{Ev: want.Done[0].It.Ev, S: want.Done[0].S})
				want.Done = want.Done[1:]
			}
			if !same(h, want) || !slices.Equal(records, told) || !s.at(h).ok() {
				t.Fatalf("%v before %d: %v %v", s, at, h, records)
			}
			again, none := impl.HstFree(s.M, s.Comp, h, at)
			if !same(again, h) || len(none) != 0 {
				t.Fatalf("%v before %d once more: %v %v", s, at, again, none)
			}
		}
	}
}

func TestHstFreeOfSomeHost(t *testing.T) {
	for at, want := range map[int]int{0: 0, 3: 0, 4: 1, 5: 1, 6: 2, 7: 3, 20: 3, 21: 3} {
		h, records := impl.HstFree(someModel(), 0, someHost(), at)
		all := []record{
			{Ev: event{T: 3, From: 2, Seq: 9, Data: 4}, S: 33},
			{Ev: event{T: 5, From: -1, Seq: 11, Kind: 2, Data: 96}},
			{Ev: event{T: 6, From: 0, Seq: 1, Data: 1}, S: 12},
		}
		if !slices.Equal(records, all[:want]) || len(h.Done) != 3-want {
			t.Errorf("before %d: %v %v", at, h, records)
		}
	}
}

func TestHstFreeItemsCannotBeRolledBack(t *testing.T) {
	s := someScene()
	h, _ := impl.HstFree(s.M, 0, s.H, 6)
	got := s.at(h).put(message{It: item{Ev: event{T: 0, From: -1}}}, false)
	if got.H.Now != s.H.Done[2].Before || len(got.H.Wait) != 6 || len(got.Sent) != 1 {
		t.Fatal(got)
	}
}

// Several hosts that exchange messages process what the sequential simulator does.
func TestHostsTogetherSimulateTheModel(t *testing.T) {
	for _, m := range manyModels() {
		for _, lazy := range []bool{false, true} {
			hosts := make([]host, len(m.Rules))
			for c := range hosts {
				hosts[c] = impl.HstNew(m, c)
			}
			exchange(t, m, hosts, lazy)
			var log []record
			for c, h := range hosts {
				_, records := impl.HstFree(m, c, h, m.Until+1)
				log = append(log, records...)
			}
			slices.SortFunc(log, func(a, b record) int { return itemInOrder(numbered(a.Ev, 0), numbered(b.Ev, 0)) })
			if want := impl.SeqAll(m).Log; !slices.Equal(log, want) {
				t.Fatalf("%v, lazy %v: %v, not %v", m, lazy, log, want)
			}
		}
	}
}

// exchange lets hosts work until nothing is left to do; the last message is delivered first.
func exchange(t *testing.T, m model, hosts []host, lazy bool) {
	t.Helper()
	d := &draw{at: 19}
	var network []message
	for range 100000 {
		c, deliver := d.below(len(hosts)), d.below(3) == 0
		var sent []message
		if n := len(network); deliver && n > 0 {
			msg := network[n-1]
			network = network[:n-1]
			c = msg.It.Ev.To
			hosts[c], sent = impl.HstPut(m, c, hosts[c], msg, lazy)
		} else {
			hosts[c], sent = impl.HstDo(m, c, hosts[c])
		}
		network = append(network, sent...)
		left := slices.ContainsFunc(hosts, func(h host) bool { return len(h.Wait)+len(h.Keep) > 0 })
		if len(network) == 0 && !left {
			return
		}
	}
	t.Fatalf("%v does not end: %v", m, hosts)
}

func TestConstantsOfHosts(t *testing.T) {
	if impl.IdTop != 9999 {
		t.Fatal(impl.IdTop)
	}
}

func TestHostsOwnTheirMemory(t *testing.T) {
	type freed struct {
		H    host
		Told []record
	}
	empty, full := someScene(), someScene()
	empty.H.Wait, full.H.Ids = nil, 9998
	list := []scene{someScene(), empty, full, {someModel(), 3, someHost()}, {someModel(), 0, host{}}, {badModels()[3], 0, someHost()}}
	for i, s := range manyScenes() {
		if i%40 == 0 {
			list = append(list, s)
		}
	}
	for i, s := range list {
		checkOwned(t, "HstNew", s, func(s scene) host { return impl.HstNew(s.M, s.Comp) })
		checkOwned(t, "HstOk", s, scene.ok)
		checkOwned(t, "HstDo", s, scene.do)
		checkOwned(t, "HstLeast", s, func(s scene) int { return impl.HstLeast(s.M, s.Comp, s.H) })
		for _, at := range []int{0, 4, 6, 100} {
			checkOwned(t, "HstFree", s, func(s scene) freed {
				h, records := impl.HstFree(s.M, s.Comp, s.H, at)
				return freed{h, records}
			})
		}
		msgs := []message{{It: numbered(event{To: s.Comp, From: -1}, 0)}}
		for _, it := range known(s.H) {
			msgs = append(msgs, message{It: it}, message{Off: true, It: it})
		}
		if i < 6 {
			msgs = append(msgs, strange()...)
		}
		for _, msg := range msgs {
			for _, lazy := range []bool{false, true} {
				checkOwned(t, "HstPut", s, func(s scene) told { return s.put(msg, lazy) })
			}
		}
	}
}
