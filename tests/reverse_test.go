package tests

import (
	"math"
	"slices"
	"testing"

	"loop.example/turnback/impl"
)

// Promise 78.

func TestInversesAreUnique(t *testing.T) {
	for a := 1; a <= 96; a++ {
		var found []int
		for b := 1; b <= 96; b++ {
			if a*b%97 == 1 {
				found = append(found, b)
			}
		}
		got := impl.RevInverse(a)
		if !slices.Equal(found, []int{got}) {
			t.Errorf("the inverse of %d is %d, not %v", a, got, found)
		}
		if back := impl.RevInverse(got); back != a {
			t.Errorf("the inverse of %d is %d, whose inverse is %d", a, got, back)
		}
	}
}

func TestInversesOfSomeNumbers(t *testing.T) {
	for a, want := range map[int]int{1: 1, 2: 49, 3: 65, 10: 68, 22: 75, 48: 95, 49: 2, 95: 48, 96: 96} {
		if got := impl.RevInverse(a); got != want {
			t.Errorf("the inverse of %d is %d, not %d", a, got, want)
		}
	}
}

func TestInversesOfOtherNumbers(t *testing.T) {
	for _, a := range []int{math.MinInt, math.MinInt + 1, math.MinInt32, -194, -98, -97, -96, -2, -1, 0, 97, 98, 99, 193, 194, 195, 9409, math.MaxInt32, math.MaxInt - 1, math.MaxInt} {
		if got := impl.RevInverse(a); got != 0 {
			t.Errorf("the inverse of %d is %d", a, got)
		}
	}
	// Any rest of a division by NumMod, of numbers that are not in range.
	for a := 97; a <= 300; a++ {
		if over, under := impl.RevInverse(a), impl.RevInverse(97-a); over != 0 || under != 0 {
			t.Errorf("the inverse of %d is %d, that of %d is %d", a, over, 97-a, under)
		}
	}
}

// Promise 79.

func TestReversibleComponentsAreAsDefined(t *testing.T) {
	yes, no := 0, 0
	for _, m := range append(reverseModels(), windowModels()...) {
		for c, list := range m.Rules {
			want := !slices.ContainsFunc(list, func(r rule) bool { return r.A == 0 })
			if got := impl.RevOk(m, c); got != want {
				t.Fatalf("component %d: %v of %v", c, got, m)
			}
			if want {
				yes++
			} else {
				no++
			}
		}
	}
	if yes < 1000 || no < 200 {
		t.Fatalf("%d components are reversible, %d are not", yes, no)
	}
}

// Every set of kinds, and every A of theirs out of some, for each component of one or several.
func TestReversibleOnlyIfNoRuleHasZero(t *testing.T) {
	some := []int{-1, 0, 1, 48, 96} // -1: no rule of this kind
	for i := range 125 {
		as := []int{some[i%5], some[i/5%5], some[i/25]}
		var list []rule
		for kind, a := range as {
			if a >= 0 {
				list = append(list, rule{Kind: kind, A: a, B: 96 * (kind % 2), C: kind})
			}
		}
		for many := 1; many <= 4; many++ {
			for at := range many {
				// The other components do not matter.
				for _, others := range [][]rule{nil, {{A: 1}}, {{A: 0, Kind: 1}}} {
					m := model{Rules: make([][]rule, many)}
					overwrite(m.Rules, others)
					m.Rules[at] = list
					if got, want := impl.RevOk(m, at), !slices.Contains(as, 0); got != want {
						t.Fatalf("component %d: %v of %v", at, got, m)
					}
				}
			}
		}
	}
}

func TestComponentsWithoutRulesAreReversible(t *testing.T) {
	for many := 1; many <= 4; many++ {
		for _, until := range []int{0, 99} {
			for at := range many {
				m := plainModel(many, until)
				m.Rules[at] = nil
				if !impl.RevOk(m, at) {
					t.Errorf("component %d of %v is not reversible", at, m)
				}
				for kind := range 3 {
					for a, want := range []bool{false, true} {
						m.Rules[at] = []rule{{Kind: kind, A: a, B: 1, C: 1, Sends: []send{{To: at, Delay: 1, Mod: 1}}}}
						if impl.RevOk(m, at) != want {
							t.Errorf("component %d of %v is not %v", at, m, want)
						}
					}
				}
			}
		}
	}
}

func TestNoReversibleComponentsWhereThereAreNone(t *testing.T) {
	for _, m := range badModels() {
		for _, at := range []int{math.MinInt, -1, 0, 1, 2, 3, math.MaxInt} {
			if impl.RevOk(m, at) {
				t.Errorf("component %d of %v is reversible", at, m)
			}
		}
	}
	for many := 1; many <= 4; many++ {
		m := invertible(endless(many, 1))
		for _, at := range []int{math.MinInt, -many, -1, many, many + 1, 4, 97, math.MaxInt} {
			if impl.RevOk(m, at) {
				t.Errorf("component %d of %d is reversible", at, many)
			}
		}
	}
}

// Promise 9.

// checkUndone fails unless a reversal leads to this state; and unless CmpDo leads from there, if it is possible.
func checkUndone(t *testing.T, u undo, want undone) {
	t.Helper()
	got := u.run()
	if got != want {
		t.Errorf("%+v, not %+v: %v", got, want, u)
	}
	if again, _ := impl.CmpDo(u.M, got.C, u.E); got.Ok && again != u.C {
		t.Errorf("%+v leads to %+v: %v", got.C, again, u)
	}
}

func TestReversalsAreAsDefined(t *testing.T) {
	for _, u := range manyUndos(509) {
		checkUndone(t, u, u.byDefinition())
	}
}

func TestReversalsOfTheExample(t *testing.T) {
	m := exampleModel()
	comps := make([]comp, 2)
	for i, r := range impl.SeqAll(m).Log {
		before := comps[r.Ev.To]
		comps[r.Ev.To] = comp{S: before.S + 1, Seq: before.Seq + 1, Count: before.Count + 1}
		if r.S != before.S+1 {
			t.Fatalf("record %d is %v", i, r)
		}
		checkUndone(t, undo{m, comps[r.Ev.To], r.Ev}, undone{before, true})
	}
	if want := []comp{{S: 3, Seq: 3, Count: 3}, {S: 2, Seq: 2, Count: 2}}; !slices.Equal(comps, want) {
		t.Fatal(comps)
	}
}

// Whatever state a component is in: if CmpDo of an event leads there from exactly one state, and Seq has not been limited, the event can be undone, and only then.
func TestReversalsFindTheOnlyStateBefore(t *testing.T) {
	sends := []send{{To: 1, Delay: 2, Kind: 1, Plus: 11, Mod: 1}, {To: 0, Delay: 9, Kind: 2, Plus: 96, Mod: 3, Rem: 2}}
	for _, rules := range [][]rule{
		nil,
		{{Kind: 1, A: 5}},
		{{A: 1}},
		{{A: 96, B: 96, C: 96, Sends: sends[1:]}},
		{{A: 2, B: 3, C: 5, Sends: sends}},
		{{A: 48, B: 50, Sends: []send{sends[1], sends[1]}}},
		{{B: 7, C: 1, Sends: sends}},
	} {
		for _, data := range []int{0, 13, 96} {
			m := model{Rules: [][]rule{rules, nil}, Until: 30}
			checkOnlyStateBefore(t, m, event{T: 25, From: 1, Data: data})
		}
	}
}

func checkOnlyStateBefore(t *testing.T, m model, e event) {
	t.Helper()
	lead := map[comp][]comp{}
	for s := range 97 {
		for seq := range 13 {
			for count := range 3 {
				before := comp{S: s, Seq: seq, Count: count}
				after, _ := impl.CmpDo(m, before, e)
				lead[after] = append(lead[after], before)
			}
		}
	}
	for s := range 97 {
		for seq := range 13 {
			for count := range 4 {
				c := comp{S: s, Seq: seq, Count: count}
				want := undone{}
				if from := lead[c]; len(from) == 1 && seq < 12 {
					want = undone{from[0], true}
				}
				checkUndone(t, undo{m, c, e}, want)
			}
		}
	}
}

// checkStepBack fails unless undoing the event restores the state of its receiver before it, if that is possible.
func checkStepBack(t *testing.T, m model, before comp, e event) bool {
	t.Helper()
	after, _ := impl.CmpDo(m, before, e)
	got := undo{m, after, e}.run()
	if impl.RevOk(m, e.To) && after.Seq < 12 && got != (undone{before, true}) {
		t.Fatalf("%+v, not %+v: %v", got, before, undo{m, after, e})
	}
	if got.Ok && got.C != before {
		t.Fatalf("%+v, not %+v: %v", got, before, undo{m, after, e})
	}
	return got.Ok
}

func TestReversalsRestoreTheStateBefore(t *testing.T) {
	did, not := 0, 0
	for _, u := range manyUndos(523) {
		if checkStepBack(t, u.M, u.C, u.E) {
			did++
		} else {
			not++
		}
	}
	for _, m := range reverseModels() {
		for _, s := range allSteps(t, m) {
			if len(s.Wait) > 0 && checkStepBack(t, m, s.Comps[s.Wait[0].To], s.Wait[0]) {
				did++
			}
		}
	}
	if did < 15000 || not < 2000 {
		t.Fatalf("%d events can be undone, %d cannot", did, not)
	}
}

// lone is a model of one component with one rule, for kind 0.
func lone(a, b, c int, sends ...send) model {
	return model{Rules: [][]rule{{{A: a, B: b, C: c, Sends: sends}}}, Until: 20}
}

func TestReversalsOfStatesAndDataAtTheirBounds(t *testing.T) {
	for _, test := range []struct{ a, b, c, data, s, want int }{
		{1, 0, 0, 0, 0, 0},
		{1, 0, 0, 96, 96, 96},
		{1, 0, 1, 0, 0, 96},
		{1, 1, 0, 96, 0, 1},
		{1, 1, 0, 96, 96, 0},
		{1, 96, 96, 96, 0, 0},
		{1, 0, 96, 0, 0, 1},
		{96, 0, 0, 0, 96, 1},
		{96, 0, 0, 0, 0, 0},
		{96, 96, 96, 96, 1, 96},
		{2, 0, 0, 0, 1, 49},
		{2, 0, 0, 0, 96, 48},
		{2, 3, 5, 11, 52, 7},
		{10, 20, 30, 50, 72, 40},
		{48, 0, 0, 0, 1, 95},
	} {
		u := undo{lone(test.a, test.b, test.c), comp{S: test.s, Count: 1}, event{From: -1, Data: test.data}}
		checkUndone(t, u, undone{comp{S: test.want}, true})
	}
}

// For every rule and every state behind it there is exactly one state before it.
func TestReversalsOfAllStates(t *testing.T) {
	for a := 1; a <= 96; a++ {
		for _, b := range []int{0, 1, 50, 96} {
			m := lone(a, b, (a*7+b)%97)
			seen := map[int]bool{}
			for s := range 97 {
				got := undo{m, comp{S: s, Count: 1}, event{From: -1, Data: (s + a) % 97}}.run()
				if !got.Ok || (a*got.C.S+b*((s+a)%97)+(a*7+b)%97)%97 != s {
					t.Fatalf("A %d, B %d, S %d: %+v", a, b, s, got)
				}
				if b == 0 && seen[got.C.S] {
					t.Fatalf("A %d leads from %d to several states", a, got.C.S)
				}
				seen[got.C.S] = true
			}
		}
	}
}

// An event can be undone if the rule for its kind can be inverted, whatever the rules for other kinds and other components.
func TestReversalsOfRulesThatCannotBeInverted(t *testing.T) {
	for i := range 8 {
		as := []int{i & 1, i >> 1 & 1, i >> 2}
		m := model{Rules: make([][]rule, 2), Until: 20}
		for c := range 2 {
			for kind, a := range as {
				if c == 1 {
					a = 1 - a
				}
				m.Rules[c] = append(m.Rules[c], rule{Kind: kind, A: a, B: 1, C: 2})
			}
		}
		for to := range 2 {
			for kind := range 3 {
				for s := range 97 {
					want := undone{}
					if as[kind] != to {
						want = undone{comp{S: (s + 90) % 97, Seq: 4}, true}
					}
					checkUndone(t, undo{m, comp{S: s, Seq: 4, Count: 1}, event{To: to, From: -1, Kind: kind, Data: 5}}, want)
				}
			}
		}
	}
}

// A state to which a rule with A 0 leads from everywhere does not tell where it came from; neither does one to which it does not lead.
func TestReversalsWithZero(t *testing.T) {
	m := lone(0, 1, 2)
	for s := range 97 {
		checkUndone(t, undo{m, comp{S: s, Count: 3}, event{From: -1, Data: 5}}, undone{})
		checkUndone(t, undo{m, comp{S: s, Count: 3}, event{From: -1, Kind: 1, Data: 5}}, undone{comp{S: s, Count: 2}, true})
	}
}

func TestReversalsWithoutRule(t *testing.T) {
	m := someModel()
	m.Rules[2] = []rule{{Kind: 1, A: 5, B: 6, C: 7, Sends: []send{{Delay: 1, Mod: 1}, {Delay: 1, Mod: 1}}}}
	for _, kind := range []int{0, 2} {
		e := event{T: 20, To: 2, From: 1, Seq: 11, Kind: kind, Data: 96}
		for seq := range 12 {
			for _, s := range []int{0, 50, 96} {
				checkUndone(t, undo{m, comp{S: s, Seq: seq, Count: 9}, e}, undone{comp{S: s, Seq: seq, Count: 8}, true})
			}
		}
		// The document excludes SeqMost for all events, also for those that send nothing.
		checkUndone(t, undo{m, comp{S: 50, Seq: 12, Count: 9}, e}, undone{})
		checkUndone(t, undo{m, comp{S: 50, Seq: 3, Count: 0}, e}, undone{})
	}
	e := event{T: 20, To: 2, From: 1, Seq: 11, Kind: 1, Data: 96}
	checkUndone(t, undo{m, comp{S: 50, Seq: 3, Count: 9}, e}, undone{comp{S: (50 + 6 - 7 + 97) * 39 % 97, Seq: 1, Count: 8}, true})
}

// Components without rules, and an event for each of them.
func TestReversalsOfComponentsWithoutRules(t *testing.T) {
	for many := 1; many <= 4; many++ {
		m := model{Rules: make([][]rule, many), Until: 99}
		for to := range many {
			for kind := range 3 {
				e := event{T: 99, To: to, From: many - 1, Kind: kind, Data: 7}
				checkUndone(t, undo{m, comp{S: 96, Seq: 11, Count: 1}, e}, undone{comp{S: 96, Seq: 11}, true})
				checkUndone(t, undo{m, comp{S: 96, Seq: 12, Count: 1}, e}, undone{})
			}
		}
	}
}

func TestReversalsTakeBackCount(t *testing.T) {
	m := lone(1, 0, 1)
	for count, want := range map[int]undone{
		0:           {},
		1:           {comp{S: 4, Seq: 5, Count: 0}, true},
		2:           {comp{S: 4, Seq: 5, Count: 1}, true},
		1000:        {comp{S: 4, Seq: 5, Count: 999}, true},
		math.MaxInt: {comp{S: 4, Seq: 5, Count: math.MaxInt - 1}, true},
	} {
		checkUndone(t, undo{m, comp{S: 5, Seq: 5, Count: count}, event{From: -1}}, want)
	}
}

// backBy is what a reversal leads to that takes back so many sends, from state 31 to state 30.
func backBy(seq, used int) undone {
	if seq == 12 || seq < used {
		return undone{}
	}
	return undone{comp{S: 30, Seq: seq - used}, true}
}

func TestReversalsTakeBackSends(t *testing.T) {
	always, odd, even := send{Delay: 1, Mod: 1}, send{Delay: 1, Mod: 2, Rem: 1}, send{Delay: 1, Mod: 2}
	for i, test := range []struct {
		sends []send
		used  int
	}{
		{nil, 0},
		{[]send{always}, 1},
		{[]send{odd}, 1},
		{[]send{even}, 0},
		{[]send{always, always}, 2},
		{[]send{always, odd}, 2},
		{[]send{odd, always}, 2},
		{[]send{odd, odd}, 2},
		{[]send{even, odd}, 1},
		{[]send{odd, even}, 1},
		{[]send{always, even}, 1},
		{[]send{even, always}, 1},
		{[]send{even, even}, 0},
	} {
		m := lone(1, 0, 1, test.sends...)
		for seq := range 13 {
			u := undo{m, comp{S: 31, Seq: seq, Count: 1}, event{From: -1}}
			if got, want := u.run(), backBy(seq, test.used); got != want {
				t.Errorf("sends %d: %+v, not %+v: %v", i, got, want, u)
			}
			checkUndone(t, u, backBy(seq, test.used))
		}
	}
}

// The condition is that of the state behind the event, for every divisor and rest.
func TestReversalsTakeBackSendsWhoseConditionHolds(t *testing.T) {
	for mod := 1; mod <= 9; mod++ {
		for rem := range mod {
			m := lone(1, 0, 1, send{Delay: 1, Mod: mod, Rem: rem}, send{Delay: 9, Kind: 2, Mod: 1})
			for s := range 97 {
				used := 1
				if s%mod == rem {
					used = 2
				}
				checkUndone(t, undo{m, comp{S: s, Seq: 7, Count: 3}, event{From: -1}}, undone{comp{S: (s + 96) % 97, Seq: 7 - used, Count: 2}, true})
			}
		}
	}
}

// What CmpDo left out because it came too late has used up its number all the same.
func TestReversalsTakeBackSendsThatCameTooLate(t *testing.T) {
	for _, until := range []int{0, 1, 9, 20, 98, 99} {
		m := lone(1, 0, 1, send{Delay: 1, Mod: 1}, send{Delay: 9, Mod: 1})
		m.Until = until
		for at := range until + 3 {
			for seq := range 13 {
				want := backBy(seq, 2)
				if at > until {
					want = undone{}
				}
				checkUndone(t, undo{m, comp{S: 31, Seq: seq, Count: 1}, event{T: at, From: -1}}, want)
			}
		}
	}
}

// What CmpDo left out because of SeqMost cannot be told from what it sent.
func TestReversalsAroundSeqMost(t *testing.T) {
	m := lone(1, 0, 1, send{Delay: 1, Mod: 1}, send{Delay: 1, Mod: 1})
	for seq := range 13 {
		before := comp{S: 30, Seq: seq}
		after, _ := impl.CmpDo(m, before, event{From: -1})
		want := undone{before, true}
		if seq >= 10 {
			want = undone{}
		}
		checkUndone(t, undo{m, after, event{From: -1}}, want)
	}
}

// The rule is that of the receiver, with one component or four; the sender and the number do not matter.
func TestReversalsByTheRuleOfTheReceiver(t *testing.T) {
	for many := 1; many <= 4; many++ {
		for _, until := range []int{0, 99} {
			m := model{Rules: make([][]rule, many), Until: until}
			for c := range many {
				for kind := range 3 {
					m.Rules[c] = append(m.Rules[c], rule{Kind: kind, A: 1, C: 10*c + kind})
				}
			}
			for to := range many {
				for from := -1; from < many; from++ {
					for kind := range 3 {
						e := event{T: until, To: to, From: from, Seq: 11 - kind, Kind: kind, Data: 30}
						checkUndone(t, undo{m, comp{S: 60, Count: 1}, e}, undone{comp{S: 60 - 10*to - kind}, true})
					}
				}
			}
		}
	}
}

// Invalid arguments.

// checkNotUndone fails if a single event, or a list that contains it, can be reversed.
func checkNotUndone(t *testing.T, u undo) {
	t.Helper()
	checkUndone(t, u, undone{})
	for _, list := range [][]event{{u.E}, {event{From: -1, Kind: 2}, u.E}, {u.E, event{From: -1, Kind: 2}}} {
		if got := (retreat{u.M, u.C, list}).run(); got != (undone{}) {
			t.Errorf("%+v of %v: %v", got, list, u)
		}
	}
}

func TestReversalsInInvalidModels(t *testing.T) {
	for _, m := range badModels() {
		for kind := range 3 {
			checkNotUndone(t, undo{m, comp{S: 5, Seq: 4, Count: 5}, event{To: 0, From: -1, Kind: kind}})
		}
		if got := (retreat{m, comp{}, nil}).run(); got != (undone{}) {
			t.Errorf("nothing reversed leads to %+v in %v", got, m)
		}
	}
}

func TestReversalsOfInvalidStates(t *testing.T) {
	for _, c := range []comp{{S: -1, Count: 5}, {S: 97, Count: 5}, {S: math.MinInt, Count: 5}, {S: math.MaxInt, Count: 5}, {Seq: -1, Count: 5}, {Seq: 13, Count: 5}, {Seq: math.MaxInt, Count: 5}, {Count: -1}, {Count: math.MinInt}, {S: 97, Seq: 13, Count: -1}} {
		for kind := range 3 {
			checkNotUndone(t, undo{lone(1, 0, 1), c, event{From: -1, Kind: kind}})
		}
		if got := (retreat{lone(1, 0, 1), c, nil}).run(); got != (undone{}) {
			t.Errorf("nothing reversed leads from %+v to %+v", c, got)
		}
	}
}

func TestReversalsOfInvalidEvents(t *testing.T) {
	m := invertible(someModel())
	good := event{T: 3, To: 0, From: 2, Seq: 9, Data: 4}
	if got := (undo{m, comp{Seq: 5, Count: 5}, good}).run(); !got.Ok {
		t.Fatal(got)
	}
	for _, f := range fields() {
		for _, n := range []int{math.MinInt, f.low - 1, f.high + 1, math.MaxInt} {
			checkNotUndone(t, undo{m, comp{Seq: 5, Count: 5}, with(good, f, n)})
		}
	}
	checkNotUndone(t, undo{m, comp{Seq: 5, Count: 5}, with(good, fields()[1], 3)})
	checkNotUndone(t, undo{m, comp{Seq: 5, Count: 5}, with(good, fields()[2], 3)})
}

func TestReversalsOfEventsAfterTheEnd(t *testing.T) {
	for _, until := range []int{0, 1, 20, 98, 99} {
		m := lone(1, 0, 1)
		m.Until = until
		for kind := range 3 {
			e := event{T: until, From: -1, Kind: kind}
			if got := (undo{m, comp{S: 5, Count: 5}, e}).run(); !got.Ok {
				t.Errorf("%v cannot be undone", e)
			}
			e.T++
			checkNotUndone(t, undo{m, comp{S: 5, Count: 5}, e})
		}
	}
}

// Promise 80.

func TestReversalsOfListsAreAsDefined(t *testing.T) {
	for _, b := range manyRetreats(521) {
		if got, want := b.run(), b.byDefinition(); got != want {
			t.Fatalf("%+v, not %+v: %v", got, want, b)
		}
	}
}

func TestReversalsOfListsCompose(t *testing.T) {
	for _, b := range manyRetreats(541) {
		want := b.run()
		for at := range len(b.List) + 1 {
			second := retreat{b.M, b.C, b.List[at:]}.run()
			got := undone{}
			if second.Ok {
				got = retreat{b.M, second.C, b.List[:at]}.run()
			}
			if got != want {
				t.Fatalf("%+v, but the parts before and from %d lead to %+v: %v", want, at, got, b)
			}
		}
	}
}

func TestReversalOfOneEventIsUndo(t *testing.T) {
	for _, u := range manyUndos(547) {
		if got, want := (retreat{u.M, u.C, []event{u.E}}).run(), u.run(); got != want {
			t.Fatalf("%+v, not %+v: %v", got, want, u)
		}
	}
}

func TestReversalOfNoEvents(t *testing.T) {
	for _, m := range reverseModels() {
		for _, c := range []comp{{}, {S: 96, Seq: 12, Count: 0}, {Seq: 11, Count: math.MaxInt}, {S: 5, Seq: 12, Count: 7}} {
			for _, none := range [][]event{nil, {}} {
				if got := (retreat{m, c, none}).run(); got != (undone{c, true}) {
					t.Fatalf("%+v, not %+v", got, c)
				}
			}
		}
	}
}

// The events differ in their data, so that their order matters.
func TestReversalsOfManyEvents(t *testing.T) {
	m := lone(2, 3, 5)
	for _, n := range []int{1, 2, 50, 99, 100, 101, 102, 300} {
		b := retreat{M: m, C: comp{S: 7, Seq: 11, Count: 3}}
		for i := range n {
			e := event{T: i % 21, From: -1, Data: i * i % 97}
			b.C, _ = impl.CmpDo(m, b.C, e)
			b.List = append(b.List, e)
		}
		want := undone{comp{S: 7, Seq: 11, Count: 3}, true}
		if n > 100 {
			want = undone{}
		}
		if got := b.run(); got != want {
			t.Errorf("%d events: %+v, not %+v", n, got, want)
		}
		if slices.Reverse(b.List); n > 1 && n <= 100 && b.run() == want {
			t.Errorf("%d events: their order does not matter", n)
		}
	}
}

func TestReversalsOfMoreEventsThanWereReceived(t *testing.T) {
	m := lone(2, 3, 5)
	for n := range 101 {
		b := retreat{m, comp{S: 7, Count: n}, slices.Repeat([]event{{From: -1}}, n)}
		if got := b.run(); !got.Ok || got.C.Count != 0 {
			t.Errorf("%d events: %+v", n, got)
		}
		b.List = append(b.List, event{From: -1})
		if got := b.run(); got != (undone{}) {
			t.Errorf("%d events more than were received: %+v", n, got)
		}
	}
}

// One event that cannot be reversed, for each of the possible reasons, at every place.
func TestReversalsStopAtOneEvent(t *testing.T) {
	m := model{Rules: [][]rule{{{A: 3, C: 1}, {Kind: 1, C: 4}}, {{Kind: 2, A: 1, Sends: []send{{Delay: 1, Mod: 1}, {Delay: 1, Mod: 1}}}}}, Until: 20}
	good := slices.Repeat([]event{{From: -1}, {T: 20, To: 0, From: 1, Kind: 2}, {To: 1, From: 0}}, 4)
	c := comp{S: 50, Seq: 1, Count: 60}
	if got := (retreat{m, c, good}).run(); !got.Ok || got.C.Count != 48 {
		t.Fatal(got)
	}
	for name, bad := range map[string]event{
		"A is 0":          {From: -1, Kind: 1},
		"Seq is too low":  {To: 1, From: -1, Kind: 2},
		"T is too late":   {T: 21, From: -1},
		"T is invalid":    {T: -1, From: -1},
		"Kind is invalid": {From: -1, Kind: 3},
		"no such one":     {To: 2, From: -1},
	} {
		for at := range len(good) + 1 {
			if got := (retreat{m, c, slices.Insert(slices.Clone(good), at, bad)}).run(); got != (undone{}) {
				t.Errorf("%s at %d: %+v", name, at, got)
			}
		}
	}
}

// Each event is reversed by the rule of its own receiver.
func TestReversalsOfEventsOfSeveralComponents(t *testing.T) {
	m := model{Rules: [][]rule{{{A: 2, C: 1}}, {{A: 1, C: 10, Sends: []send{{To: 0, Delay: 1, Mod: 1}}}}, nil, {{A: 96}}}, Until: 5}
	list := []event{{To: 0, From: -1}, {T: 1, To: 1, From: 0}, {T: 2, To: 2, From: -1}, {T: 5, To: 3, From: 1}, {To: 0, From: -1}}
	b := retreat{M: m, C: comp{S: 30, Seq: 2, Count: 1}, List: list}
	for _, e := range list {
		b.C, _ = impl.CmpDo(m, b.C, e)
	}
	if want := (comp{S: 53, Seq: 3, Count: 6}); b.C != want {
		t.Fatal(b.C)
	}
	if got := b.run(); got != (undone{comp{S: 30, Seq: 2, Count: 1}, true}) {
		t.Error(got)
	}
}

// Promise 133.

// eventsFor are the events of a component in a log.
func eventsFor(log []record, c int) []event {
	var list []event
	for _, r := range recordsOf(log, c) {
		list = append(list, r.Ev)
	}
	return list
}

func TestSimulationsRunBackwards(t *testing.T) {
	whole, limited := 0, 0
	for _, m := range reverseModels() {
		all := impl.SeqAll(m)
		for c, last := range all.Comps {
			list := eventsFor(all.Log, c)
			got := retreat{m, last, list}.run()
			switch {
			case len(list) > 0 && last.Seq == 12:
				if limited++; got != (undone{}) {
					t.Fatalf("%+v behind SeqMost sends: component %d of %v", got, c, m)
				}
			case impl.RevOk(m, c):
				if whole += min(1, len(list)); got != (undone{comp{}, true}) {
					t.Fatalf("%+v: component %d of %v", got, c, m)
				}
			case got.Ok && got.C != (comp{}):
				t.Fatalf("%+v: component %d of %v", got, c, m)
			}
		}
	}
	if whole < 500 || limited < 50 {
		t.Fatalf("%d components ran backwards, %d had sent SeqMost events", whole, limited)
	}
}

// All components go back together from anywhere, in the order of the log, to any state that they were in.
func TestSimulationsStepBackwards(t *testing.T) {
	models, most := 0, 0
	for _, m := range reverseModels() {
		if slices.ContainsFunc(impl.SeqAll(m).Comps, func(c comp) bool { return c.Seq == 12 }) || !invertibleAll(m) {
			continue
		}
		models++
		steps := allSteps(t, m)
		most = max(most, len(steps)-1)
		for i, s := range steps[1:] {
			e := s.Log[i].Ev
			back := undo{m, s.Comps[e.To], e}.run()
			if !back.Ok || back.C != steps[i].Comps[e.To] {
				t.Fatalf("%+v, not %+v: event %d of %v", back, steps[i].Comps[e.To], i, m)
			}
		}
	}
	if models < 200 || most < 20 {
		t.Fatalf("%d models, at most %d steps", models, most)
	}
}

func invertibleAll(m model) bool {
	for c := range m.Rules {
		if !impl.RevOk(m, c) {
			return false
		}
	}
	return true
}

// Memory.

func TestReversalsOwnTheirMemory(t *testing.T) {
	bad := badModels()[3]
	for _, u := range append(manyUndos(557), undo{}, undo{M: bad}, undo{bad, comp{Count: 1}, event{From: -1}}) {
		checkOwned(t, "CmpUndo", u, undo.run)
	}
	for _, b := range append(manyRetreats(563), retreat{}, retreat{M: bad}, retreat{M: lone(1, 0, 1), List: make([]event, 101)}) {
		checkOwned(t, "RevBack", b, retreat.run)
		checkOwned(t, "RevOk", b.M, func(m model) []bool {
			var list []bool
			for c := -1; c <= 4; c++ {
				list = append(list, impl.RevOk(m, c))
			}
			return list
		})
	}
}
