package tests

import (
	"math"
	"reflect"
	"slices"
	"testing"

	"loop.example/turnback/impl"
)

// Promise 56: which simulations are valid, and what becomes of those that are not.

// checkRefused fails unless an invalid simulation leads to the zero value, whatever is done to it, and has no views.
func checkRefused(t *testing.T, w world) {
	t.Helper()
	checkNoView(t, w)
	results := []world{impl.WldRun(w, nil), impl.WldRun(w, []action{doing(0), visiting})}
	for _, n := range []int{-1, 0, 1} {
		results = append(results, impl.WldCalm(w, n))
	}
	for kind := range 7 {
		results = append(results, impl.WldStep(w, action{Kind: kind}))
	}
	if impl.WldOk(w) || !same(results, make([]world, len(results))) {
		t.Errorf("this is accepted, or leads to something:\n%s", brief(w))
	}
}

// checkAccepted fails unless a simulation is valid and its views are as the document describes them.
func checkAccepted(t *testing.T, w world) {
	t.Helper()
	checkView(t, w)
	for _, next := range []world{impl.WldStep(w, action{}), impl.WldRun(w, nil), impl.WldCalm(w, 0)} {
		if !impl.WldOk(w) || !same(next, w) {
			t.Errorf("this is refused, or changes:\n%s", brief(w))
		}
	}
}

// checkWorlds fails unless all changed copies of someWorld are valid, or invalid; a change is named by its number.
func checkWorlds(t *testing.T, want bool, changes ...func(*world)) {
	t.Helper()
	for i, change := range changes {
		w := someWorld()
		change(&w)
		if worldByDefinition(w) != want {
			t.Errorf("change %d is not %v by definition:\n%s", i, want, brief(w))
		}
		if want {
			checkAccepted(t, w)
		} else {
			checkRefused(t, w)
		}
	}
}

func TestWldOkModels(t *testing.T) {
	checkRefused(t, world{})
	for _, m := range badModels() {
		checkWorlds(t, false, func(w *world) { w.Model = m })
		checkRefused(t, world{Model: m})
		for _, lazy := range []bool{false, true} {
			if got := impl.WldNew(m, lazy); !same(got, world{}) {
				t.Errorf("the new simulation of %v: %s", m, brief(got))
			}
		}
	}
	checkWorlds(t, false,
		func(w *world) { w.Model = world{}.Model },
		func(w *world) { w.Model.Rules = w.Model.Rules[:2] },
		func(w *world) { w.Model.Rules = append(w.Model.Rules, nil) },
		// Items and records are not those of these models.
		func(w *world) { w.Model.Rules[0][0].A = 4 },
		func(w *world) { w.Model.Until, w.Model.Starts = 19, nil })
	checkWorlds(t, true,
		func(w *world) { w.Lazy = false },
		func(w *world) { w.Model.Starts = nil },
		func(w *world) { w.Model.Rules[2] = []rule{{Kind: 1, A: 5}} })
}

func TestWldOkNumberOfHostsMarksAndLogs(t *testing.T) {
	checkWorlds(t, false,
		func(w *world) { w.Hosts = nil },
		func(w *world) { w.Hosts = w.Hosts[:2] },
		func(w *world) { w.Hosts = append(w.Hosts, host{}) },
		func(w *world) { w.Marks = nil },
		func(w *world) { w.Marks = w.Marks[:2] },
		func(w *world) { w.Marks = append(w.Marks, w.Marks[0]) },
		func(w *world) { w.Logs = nil },
		func(w *world) { w.Logs = w.Logs[:2] },
		func(w *world) { w.Logs = append(w.Logs, nil) })
	for _, w := range []world{impl.WldNew(endless(1, 2), true), impl.WldNew(endless(4, 2), false)} {
		checkAccepted(t, w)
		for _, change := range []func(*world){
			func(w *world) { w.Hosts = w.Hosts[1:] },
			func(w *world) { w.Hosts = append(w.Hosts, host{}) },
			func(w *world) { w.Marks = w.Marks[1:] },
			func(w *world) { w.Marks = append(w.Marks, w.Marks[0]) },
			func(w *world) { w.Logs = w.Logs[1:] },
			func(w *world) { w.Logs = append(w.Logs, nil) },
		} {
			x := plain(w)
			change(&x)
			checkRefused(t, x)
		}
	}
}

func TestWldOkHosts(t *testing.T) {
	for c := range 3 {
		checkWorlds(t, false,
			func(w *world) { w.Hosts[c].Now.S = 97 },
			func(w *world) { w.Hosts[c].Now.Count = -1 },
			func(w *world) { w.Hosts[c].Ids = 10000 },
			func(w *world) { w.Hosts[c].Done[0].S++ },
			func(w *world) { w.Hosts[c].Wait = append(w.Hosts[c].Wait, numbered(event{T: 21, To: c, From: 0}, 0)) },
			func(w *world) { w.Hosts[c].Anti = []item{numbered(event{T: 5, To: (c + 1) % 3, From: 0}, 0)} },
			func(w *world) { w.Hosts[c].Keep = []kept{{By: event{To: c}, Sent: numbered(event{T: 1, From: c}, 9)}} },
			func(w *world) { w.Hosts[c] = w.Hosts[(c+1)%3] })
		checkWorlds(t, true, func(w *world) { w.Hosts[c] = host{} })
	}
}

func TestWldOkMarksAndToken(t *testing.T) {
	for _, p := range markParts(someModel())[1:] {
		for c := range 3 {
			for _, n := range p.around() {
				checkWorlds(t, inRange(n, p.low, p.high), func(w *world) {
					v := meeting{Mark: w.Marks[c]}
					*p.of(&v) = n
					w.Marks[c] = v.Mark
				})
			}
		}
	}
	for _, p := range tokenParts(someModel())[1:] {
		for _, n := range p.around() {
			checkWorlds(t, inRange(n, p.low, p.high), func(w *world) {
				v := meeting{Tok: w.Tok}
				*p.of(&v) = n
				w.Tok = v.Tok
			})
		}
	}
}

func TestWldOkRounds(t *testing.T) {
	for _, round := range []int{-1, 0, 1, 2, 500, 998, 999, 1000, math.MinInt, math.MaxInt} {
		for _, ahead := range []int{-2, -1, 0, 1, 2, 1000, math.MaxInt, math.MinInt} {
			for _, on := range []bool{false, true} {
				late := round - ahead
				fits := ahead == 0 || on && ahead == 1
				valid := inRange(round, 0, 999) && inRange(late, 0, 999)
				for c := range 3 {
					checkWorlds(t, fits && valid, func(w *world) {
						w.Net, w.Tok.On, w.Tok.Round = nil, on, round
						for i := range w.Marks {
							w.Marks[i].Round = round
						}
						w.Marks[c].Round = late
					})
				}
			}
		}
	}
}

func TestWldOkMessages(t *testing.T) {
	for i := range someWorld().Net {
		for _, off := range []bool{false, true} {
			part := func(w *world) *item {
				w.Net[i].Msg.Off = off
				return &w.Net[i].Msg.It
			}
			checkWorlds(t, false,
				func(w *world) { part(w).Ev.From = -1 },
				func(w *world) { *part(w) = numbered(event{T: 5, To: 0, From: -1, Seq: 2, Data: 5}, 0) },
				func(w *world) { part(w).Ev.From = 3 },
				func(w *world) { part(w).Ev.To = 3 },
				func(w *world) { part(w).Ev.To = -1 },
				func(w *world) { part(w).Ev.T = 21 },
				func(w *world) { part(w).Ev.T = -1 },
				func(w *world) { part(w).Ev.Seq = 12 },
				func(w *world) { part(w).Ev.Kind = 3 },
				func(w *world) { part(w).Ev.Data = 97 },
				func(w *world) { part(w).Id = -1 },
				func(w *world) { part(w).Id = 9999 },
				func(w *world) { w.Net[i].Round = -1 },
				func(w *world) { w.Net[i].Round = 8 },
				func(w *world) { w.Net[i].Round = math.MaxInt },
				func(w *world) { w.Net[i].Round = math.MinInt })
			checkWorlds(t, true,
				func(w *world) { part(w).Ev = event{T: 20, To: 2, From: 2, Seq: 11, Kind: 2, Data: 96} },
				func(w *world) { part(w).Ev = event{} },
				func(w *world) { part(w).Id = 9998 },
				func(w *world) { w.Net[i] = w.Net[0] },
				func(w *world) { w.Net[i].Round = 0 },
				func(w *world) { w.Net[i].Round = 7 })
		}
	}
}

// crowded is someWorld with so many messages, at least eight.
func crowded(n int) world {
	w := someWorld()
	for i := len(w.Net); i < n; i++ {
		e := event{T: i % 21, To: i % 3, From: i / 3 % 3, Seq: i % 12, Kind: i % 3, Data: i % 97}
		w.Net = append(w.Net, parcel{Msg: message{Off: i%2 == 0, It: numbered(e, i)}, Round: i % 8})
	}
	return w
}

func TestWldOkNumberOfMessages(t *testing.T) {
	for n, want := range map[int]bool{8: true, 1350: true, 1351: true, 1499: true, 1500: true, 1501: false, 1502: false, 3000: false} {
		checkWorlds(t, want, func(w *world) { *w = crowded(n) })
	}
	checkWorlds(t, true, func(w *world) { w.Net = nil })
}

func TestWldOkBound(t *testing.T) {
	for bound, want := range map[int]bool{math.MinInt: false, -1: false, 0: true, 1: true, 20: true, 21: true, 22: false, math.MaxInt: false} {
		checkWorlds(t, want, func(w *world) { w.Bound, w.Logs = bound, make([][]record, 3) })
	}
	for _, until := range []int{0, 99} {
		w := impl.WldNew(plainModel(2, until), false)
		w.Bound = until + 1
		checkAccepted(t, w)
		w.Bound++
		checkRefused(t, w)
	}
}

func TestWldOkLogs(t *testing.T) {
	for c := range 3 {
		first := func(w *world) *record {
			w.Logs[c] = []record{{Ev: event{T: 2, To: c, From: 1, Seq: 5, Data: 3}, S: 96}, {Ev: event{T: 3, To: c, From: -1}}}
			return &w.Logs[c][0]
		}
		checkWorlds(t, false,
			func(w *world) { first(w).S = 97 },
			func(w *world) { first(w).S = -1 },
			func(w *world) { first(w).Ev.To = (c + 1) % 3 },
			func(w *world) { first(w).Ev.To = -1 },
			func(w *world) { first(w).Ev.T = -1 },
			func(w *world) { first(w).Ev.From = 3 },
			func(w *world) { first(w).Ev.From = -2 },
			func(w *world) { first(w).Ev.Seq = 12 },
			func(w *world) { first(w).Ev.Kind = 3 },
			func(w *world) { first(w).Ev.Data = 97 },
			func(w *world) { first(w).Ev.T = 4; w.Logs[c] = w.Logs[c][:1] },
			func(w *world) { first(w).Ev.T = 20; w.Logs[c] = w.Logs[c][:1] },
			func(w *world) { first(w); w.Logs[c][1].Ev.T = 4 },
			func(w *world) { first(w); w.Bound = 3 },
			func(w *world) { first(w); w.Bound = 0 },
			func(w *world) { first(w).Ev.T = 3; w.Logs[c][0].Ev.From = 0 },
			func(w *world) { *first(w) = w.Logs[c][1] },
			func(w *world) { first(w).Ev = w.Logs[c][1].Ev },
			func(w *world) { first(w); slices.Reverse(w.Logs[c]) })
		checkWorlds(t, true,
			func(w *world) { first(w) },
			func(w *world) { first(w).S = 0 },
			func(w *world) { first(w).Ev.T = 3; w.Logs[c][1].Ev.From = 2 },
			func(w *world) { first(w); w.Bound = 21 },
			func(w *world) { first(w); w.Bound, w.Logs[c][1].Ev.T = 21, 20 },
			func(w *world) { w.Logs[c] = nil })
	}
}

// integers are all numbers in a value that can be set.
func integers(value reflect.Value) []reflect.Value {
	var list []reflect.Value
	switch value.Kind() {
	case reflect.Int:
		return []reflect.Value{value}
	case reflect.Slice:
		for i := range value.Len() {
			list = append(list, integers(value.Index(i))...)
		}
	case reflect.Struct:
		for i := range value.NumField() {
			list = append(list, integers(value.Field(i))...)
		}
	}
	return list
}

// change changes one number anywhere in a simulation.
func (d *draw) change(w *world) {
	list := integers(reflect.ValueOf(w).Elem())
	n := list[d.below(len(list))]
	n.SetInt(n.Int() + int64([]int{-1000, -2, -1, 1, 2, 1000}[d.below(6)]))
}

// Changes of one number anywhere in a simulation; the definition decides which ones are valid.
func TestWldOkAfterOneChange(t *testing.T) {
	d := &draw{at: 53}
	counts := map[bool]int{}
	check := func(w world) {
		w = plain(w)
		d.change(&w)
		want := worldByDefinition(w)
		if counts[want]++; impl.WldOk(w) != want {
			t.Fatalf("not %v:\n%s", want, brief(w))
		}
	}
	for range 2000 {
		check(someWorld())
	}
	manyWalks(59, 40, func(_ world, _ action, next world) { check(next) })
	if counts[true] < 1000 || counts[false] < 1000 {
		t.Fatal(counts)
	}
}

func TestWldNewHasDoneNothing(t *testing.T) {
	for _, m := range append(manyModels(), plainModels()...) {
		for _, lazy := range []bool{false, true} {
			want := world{Model: m, Lazy: lazy, Tok: ended(0, 0, 0, m.Until+1), Logs: make([][]record, len(m.Rules))}
			for c := range m.Rules {
				want.Hosts = append(want.Hosts, impl.HstNew(m, c))
				want.Marks = append(want.Marks, counted(0, 0, 0, m.Until+1))
			}
			got := impl.WldNew(m, lazy)
			if !same(got, want) || !worldByDefinition(got) {
				t.Fatal(brief(got))
			}
			checkAccepted(t, got)
		}
	}
}

// The table of actions, and promises 56 and 57.

func TestWldStepIsAsDefined(t *testing.T) {
	manyWalks(61, 150, func(w world, a action, next world) {
		if want := actByDefinition(w, a); !same(next, want) {
			t.Fatalf("%v leads from\n%s\nto\n%s", a, brief(w), brief(next))
		}
		if !worldByDefinition(next) || !impl.WldOk(next) || len(next.Net) > 1500 || len(next.Hosts) != len(w.Hosts) {
			t.Fatalf("%v leads from\n%s\nto the invalid\n%s", a, brief(w), brief(next))
		}
	})
}

// manyActions are actions of all kinds, and others, at all places around those that exist.
func manyActions(w world) []action {
	var list []action
	for kind := -1; kind <= 7; kind++ {
		for at := -2; at <= max(len(w.Net), len(w.Hosts))+1; at++ {
			list = append(list, action{Kind: kind, At: at})
		}
		list = append(list, action{Kind: kind, At: math.MinInt}, action{Kind: kind, At: math.MaxInt})
	}
	return append(list, action{Kind: math.MinInt}, action{Kind: math.MaxInt})
}

// strangeWorlds are valid; they are someWorld with some numbers changed, so that they need not have come about.
func strangeWorlds() []world {
	d := &draw{at: 67}
	list := []world{someWorld()}
	for range 60 {
		w := someWorld()
		w.Lazy, w.Tok.At = d.below(2) == 0, d.below(3)
		for range 40 {
			x := plain(w)
			if d.change(&x); worldByDefinition(x) {
				w = x
			}
		}
		list = append(list, w)
	}
	return list
}

func TestWldStepOfStrangeWorlds(t *testing.T) {
	for _, w := range strangeWorlds() {
		for _, a := range manyActions(w) {
			if got, want := impl.WldStep(w, a), actByDefinition(w, a); !same(got, want) || len(got.Hosts) != 3 {
				t.Fatalf("%v leads from\n%s\nto\n%s", a, brief(w), brief(got))
			}
		}
	}
}

// checkSteps fails unless an action leads from a simulation to the changed one.
func checkSteps(t *testing.T, w world, a action, change func(*world)) {
	t.Helper()
	want := plain(w)
	change(&want)
	if got := impl.WldStep(w, a); !same(got, want) {
		t.Errorf("%v leads to\n%s\nnot\n%s", a, brief(got), brief(want))
	}
	if got := impl.WldRun(w, []action{a}); !same(got, want) {
		t.Errorf("a run of %v leads to\n%s\nnot\n%s", a, brief(got), brief(want))
	}
}

func nothing(*world) {}

func TestUnknownActionsDoNothing(t *testing.T) {
	for _, kind := range []int{math.MinInt, -1, 0, 6, 7, math.MaxInt} {
		for _, at := range []int{math.MinInt, -1, 0, 1, math.MaxInt} {
			checkSteps(t, someWorld(), action{Kind: kind, At: at}, nothing)
		}
	}
}

func TestActionsAtPlacesThatDoNotExist(t *testing.T) {
	for _, at := range []int{math.MinInt, -1, 3, 4, math.MaxInt} {
		checkSteps(t, someWorld(), doing(at), nothing)
		checkSteps(t, someWorld(), freeing(at), nothing)
	}
	for _, at := range []int{math.MinInt, -1, 8, 9, math.MaxInt} {
		checkSteps(t, someWorld(), hearing(at), nothing)
	}
	for _, many := range []int{1, 4} {
		w := impl.WldNew(endless(many, 3), false)
		w.Bound = 1
		for _, at := range []int{-1, many} {
			checkSteps(t, w, doing(at), nothing)
			checkSteps(t, w, freeing(at), nothing)
		}
		checkSteps(t, w, hearing(-1), nothing)
		checkSteps(t, w, hearing(0), nothing)
		for at := range many {
			x := plain(w)
			x.Hosts[at].Wait = []item{numbered(event{To: at, From: -1}, 0)}
			if got := impl.WldRun(x, []action{doing(at), freeing(at)}); len(got.Logs[at]) != 1 || len(got.Net) != 2 {
				t.Error(brief(got))
			}
		}
	}
}

func TestActDoSendsWithTheRoundOfTheMark(t *testing.T) {
	for round := 5; round <= 6; round++ {
		for ahead := range 2 {
			for _, least := range []int{0, 1, 2, 100} {
				w := impl.WldNew(endless(2, 1), false)
				w.Tok = active(round+ahead, 0, 5, 100)
				w.Marks = []count{counted(round, 10, 20, least), counted(round, 30, 40, 50)}
				checkSteps(t, w, doing(0), func(w *world) {
					w.Hosts[0] = sceneOf(*w, 0).do().H
					w.Net = []parcel{
						{Msg: message{It: numbered(event{T: 1, To: 0, From: 0, Seq: 0, Data: 0}, 0)}, Round: round},
						{Msg: message{It: numbered(event{T: 1, To: 1, From: 0, Seq: 1, Data: 1}, 1)}, Round: round},
					}
					*countOf(&w.Marks[0], round) += 2
					w.Marks[0].Least = min(least, 1)
				})
			}
		}
	}
}

func TestActDoSendsBehindAllOthers(t *testing.T) {
	w := someWorld()
	want := plain(w.Net)
	sent := sceneOf(w, 0).do().Sent
	for _, msg := range sent {
		want = append(want, parcel{Msg: msg, Round: 7})
	}
	if got := impl.WldStep(w, doing(0)); len(sent) < 2 || !slices.Equal(got.Net, want) {
		t.Fatal(brief(got))
	}
}

func TestRoomForSending(t *testing.T) {
	for _, n := range []int{1349, 1350, 1351, 1352, 1499, 1500} {
		w := crowded(n)
		for c := range 3 {
			did := impl.WldStep(w, doing(c))
			if room := n <= 1350; same(did, w) == room && len(w.Hosts[c].Wait) > 0 {
				t.Errorf("%d messages, host %d: room is not %v", n, c, room)
			}
		}
		for _, at := range []int{0, 1, 2, 3, 7} {
			heard := impl.WldStep(w, hearing(at))
			if room := n <= 1350; same(heard, w) == room {
				t.Errorf("%d messages, message %d: room is not %v", n, at, room)
			}
		}
		// The other actions need no room.
		for _, a := range []action{visiting, freeing(0)} {
			if same(impl.WldStep(w, a), w) {
				t.Errorf("%d messages: %v has no effect", n, a)
			}
		}
		w.Tok.On, w.Marks[1].Round = false, 7
		if !impl.WldStep(w, beginning).Tok.On {
			t.Errorf("%d messages: the token does not start", n)
		}
	}
	checkRefused(t, crowded(1501))
}

func TestActHearCountsTheRoundOfTheMessage(t *testing.T) {
	for _, on := range []int{0, 1} {
		for round := range 5 {
			w := impl.WldNew(plainModel(2, 20), false)
			w.Tok = token{On: on == 1, Round: 4, Least: 21}
			w.Marks = []count{counted(4, 0, 0, 21), counted(4-on, 5, 6, 21)}
			it := numbered(event{T: 3, To: 1, From: 0}, 2)
			w.Net = []parcel{{Msg: message{It: it}, Round: round}}
			checkSteps(t, w, hearing(0), func(w *world) {
				w.Net, w.Hosts[1].Wait = nil, []item{it}
				*countOf(&w.Marks[1], round)--
			})
			w.Net[0].Msg.Off = true
			checkSteps(t, w, hearing(0), func(w *world) {
				w.Net, w.Hosts[1].Anti = nil, []item{it}
				*countOf(&w.Marks[1], round)--
			})
		}
	}
}

func TestActHearOfEveryMessage(t *testing.T) {
	for _, n := range []int{1, 2, 5} {
		for at := range n {
			w := impl.WldNew(plainModel(1, 20), true)
			for i := range n {
				w.Net = append(w.Net, parcel{Msg: message{It: numbered(event{T: 20 - i, From: 0, Seq: i}, i)}})
			}
			checkSteps(t, w, hearing(at), func(w *world) {
				w.Hosts[0].Wait = []item{w.Net[at].Msg.It}
				w.Net = slices.Delete(w.Net, at, at+1)
				w.Marks[0].Even = -1
			})
		}
	}
}

func TestActHearOfMessagesThatAreNotNew(t *testing.T) {
	w := someWorld()
	for at := range w.Net {
		if got := impl.WldStep(w, hearing(at)); isNew(w, at) == same(got, w) || isNew(w, at) != (at < 4 || at == 7) {
			t.Errorf("message %d:\n%s", at, brief(got))
		}
	}
	// The anti-message of what waits or was processed is new, and so is an item that was called off before.
	for at, change := range map[int]func(*world){
		4: func(w *world) { w.Hosts[0].Wait = slices.Delete(w.Hosts[0].Wait, 1, 2) },
		6: func(w *world) { w.Hosts[0].Anti = slices.Delete(w.Hosts[0].Anti, 1, 2) },
	} {
		w := someWorld()
		w.Net[at].Msg.Off = !w.Net[at].Msg.Off
		checkSteps(t, w, hearing(at), func(w *world) {
			*countOf(&w.Marks[0], w.Net[at].Round)--
			w.Net = slices.Delete(w.Net, at, at+1)
			change(w)
		})
	}
}

// A rollback sends anti-messages, or keeps what was sent, and the strategy decides.
func TestActHearRollsBack(t *testing.T) {
	for _, lazy := range []bool{false, true} {
		w := someWorld()
		w.Lazy = lazy
		checkSteps(t, w, hearing(7), func(w *world) {
			first := w.Hosts[1].Done[0]
			w.Hosts[1].Now, w.Hosts[1].Done = comp{}, nil
			w.Hosts[1].Wait = []item{w.Net[7].Msg.It, first.It, w.Hosts[1].Wait[0]}
			w.Net = w.Net[:7]
			w.Marks[1].Odd--
			if lazy {
				w.Hosts[1].Keep = []kept{{By: first.It.Ev, Sent: first.Sent[0]}, {By: first.It.Ev, Sent: first.Sent[1]}}
				return
			}
			for _, it := range first.Sent {
				w.Net = append(w.Net, parcel{Msg: message{Off: true, It: it}, Round: 6})
			}
			w.Marks[1].Even += 2
			w.Marks[1].Least = 2
		})
	}
}

func TestActBegin(t *testing.T) {
	for _, round := range []int{0, 1, 6, 7, 997, 998, 999} {
		for _, at := range []int{math.MinInt, -1, 0, 7, math.MaxInt} {
			w := impl.WldNew(someModel(), false)
			w.Tok = ended(round, 2, -5, 3)
			for c := range w.Marks {
				w.Marks[c].Round = round
			}
			checkSteps(t, w, action{Kind: impl.ActBegin, At: at}, func(w *world) {
				if round < 999 {
					w.Tok = active(round+1, 0, 0, 21)
				}
			})
			w.Tok.On = true
			checkSteps(t, w, action{Kind: impl.ActBegin, At: at}, nothing)
		}
	}
}

func TestActVisitNeedsAnActiveToken(t *testing.T) {
	for at := range 3 {
		w := someWorld()
		w.Tok.On, w.Tok.At, w.Marks[1].Round = false, at, 7
		checkSteps(t, w, visiting, nothing)
		w.Tok.On = true
		if same(impl.WldStep(w, visiting), w) {
			t.Errorf("host %d is not visited", at)
		}
	}
}

func TestActVisitOfEveryHost(t *testing.T) {
	for host, least := range []int{2, 8, 21} {
		for _, at := range []int{math.MinInt, 0, 2, math.MaxInt} {
			w := someWorld()
			w.Tok.At = host
			w.Marks[host].Least = 20
			checkSteps(t, w, action{Kind: impl.ActVisit, At: at}, func(w *world) {
				before := w.Marks[host]
				w.Marks[host].Round, w.Marks[host].Even = 7, 0
				if host == 1 {
					w.Marks[host].Least = 21
				}
				w.Tok = active(7, host+1, 3+before.Even, min(9, least))
				if host == 2 {
					// Messages of the previous round are in transit.
					w.Tok = active(7, 0, 3, 21)
				}
			})
		}
	}
}

func TestActVisitOfTheLastHost(t *testing.T) {
	for round := 4; round <= 5; round++ {
		for many := -1; many <= 1; many++ {
			for _, before := range []int{0, 6, 7, 8, 21} {
				w := impl.WldNew(plainModel(2, 20), false)
				w.Tok, w.Bound = active(round, 1, many-3, 9), before
				w.Marks = []count{counted(round, 1, 1, 0), counted(round-1, 3, 3, 2)}
				w.Hosts[1].Wait = []item{numbered(event{T: 7, To: 1, From: 0}, 0)}
				checkSteps(t, w, visiting, func(w *world) {
					w.Marks[1] = counted(round, 3, 3, 21)
					*countOf(&w.Marks[1], round-1) = 0
					w.Tok = token{On: many != 0, Round: round, Many: many, Least: 21}
					if many == 0 {
						w.Bound = max(before, 7)
					}
				})
			}
		}
	}
}

func TestActFreeWithEveryBound(t *testing.T) {
	for bound, freed := range map[int]int{0: 0, 3: 0, 4: 1, 5: 1, 6: 2, 7: 3, 20: 3, 21: 3} {
		w := someWorld()
		w.Bound, w.Logs = bound, make([][]record, 3)
		if bound > 3 {
			w.Logs[0] = []record{{Ev: event{T: 2, To: 0, From: 2, Seq: 8}, S: 96}}
		}
		checkSteps(t, w, freeing(0), func(w *world) {
			for _, d := range w.Hosts[0].Done[:freed] {
				w.Logs[0] = append(w.Logs[0], record{Ev: d.It.Ev, S: d.S})
			}
			w.Hosts[0].Done = w.Hosts[0].Done[freed:]
		})
	}
	for _, until := range []int{0, 99} {
		w := impl.WldNew(model{Rules: make([][]rule, 1), Starts: []event{{T: until, From: -1}}, Until: until}, true)
		w = impl.WldStep(w, doing(0))
		w.Bound = until
		checkSteps(t, w, freeing(0), nothing)
		w.Bound = until + 1
		checkSteps(t, w, freeing(0), func(w *world) {
			w.Logs[0], w.Hosts[0].Done = []record{{Ev: event{T: until, From: -1}}}, nil
		})
	}
}

func TestConstantsOfWorlds(t *testing.T) {
	kinds := []int{impl.ActDo, impl.ActHear, impl.ActBegin, impl.ActVisit, impl.ActFree}
	tops := []int{impl.NetMost, impl.NetRoom, impl.ActMost, impl.CalmMost}
	if !slices.Equal(kinds, []int{1, 2, 3, 4, 5}) || !slices.Equal(tops, []int{1500, 150, 300, 150}) {
		t.Fatal(kinds, tops)
	}
}
