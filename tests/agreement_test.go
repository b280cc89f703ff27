package tests

import (
	"slices"
	"testing"

	"loop.example/turnback/impl"
)

// recordsOf are the records of a component.
func recordsOf(list []record, c int) []record {
	var of []record
	for _, r := range list {
		if r.Ev.To == c {
			of = append(of, r)
		}
	}
	return of
}

// checkAgrees fails unless a conservative simulation is over and has done what the sequential simulator does.
func checkAgrees(t *testing.T, c caution) {
	t.Helper()
	all := impl.SeqAll(c.M)
	if len(c.S.Hosts) != len(all.Comps) || !c.ok() {
		t.Fatal(c)
	}
	for at, h := range c.S.Hosts {
		if !slices.Equal(c.S.Logs[at], recordsOf(all.Log, at)) || h.Now != all.Comps[at] || len(h.Wait) > 0 {
			t.Fatalf("host %d: not %v and %v:\n%v", at, recordsOf(all.Log, at), all.Comps[at], c)
		}
		if c.safe(at) != c.M.Until+1 {
			t.Fatalf("host %d has the safe time %d:\n%v", at, c.safe(at), c)
		}
	}
}

// Promise 4.

func TestConservativeAndSequentialSimulationAgree(t *testing.T) {
	internal := 0
	for _, m := range cautionModels() {
		c := caution{m, impl.CmbAll(m)}
		checkAgrees(t, c)
		internal += len(slices.Concat(c.S.Logs...)) - len(m.Starts)
	}
	if internal < 2000 {
		t.Fatalf("%d events are internal", internal)
	}
}

func TestCmbAllIsAsDefined(t *testing.T) {
	for _, m := range cautionModels() {
		c := fresh(m)
		for rounds := 0; !c.overByDefinition(); rounds++ {
			if c = c.roundByDefinition(); rounds > 101 {
				t.Fatalf("no end of\n%v", c)
			}
		}
		if got := impl.CmbAll(m); !same(got, c.S) {
			t.Fatalf("%v\nnot\n%v", got, c)
		}
	}
}

func TestCmbAllOfTheExample(t *testing.T) {
	got := impl.CmbAll(exampleModel())
	want := cautious{
		Hosts: []waiter{
			{Now: comp{S: 3, Seq: 3, Count: 3}, In: []int{11, 11}},
			{Now: comp{S: 2, Seq: 2, Count: 2}, In: []int{11, 11}},
		},
		Logs: [][]record{
			{
				{Ev: event{T: 0, To: 0, From: -1}, S: 1},
				{Ev: event{T: 5, To: 0, From: 1, Data: 1}, S: 2},
				{Ev: event{T: 10, To: 0, From: 1, Seq: 1, Data: 2}, S: 3},
			},
			{
				{Ev: event{T: 3, To: 1, From: 0, Data: 1}, S: 1},
				{Ev: event{T: 8, To: 1, From: 0, Seq: 1, Data: 2}, S: 2},
			},
		},
	}
	if !same(got, want) {
		t.Fatal(got)
	}
}

// The order in which hosts process and send does not matter to the result.
func TestAnyOrderLeadsToTheSequentialSimulation(t *testing.T) {
	d := &draw{at: 283}
	for i, m := range cautionModels() {
		c := fresh(m)
		for step := range 60 {
			c = c.after(d.turn(c, i%8, step))
		}
		for step := 0; !c.overByDefinition(); step++ {
			c = c.after(turn{Null: d.below(2) == 0, At: d.below(len(c.S.Hosts))})
			if step > 10000 {
				t.Fatalf("no end of\n%v", c)
			}
		}
		checkAgrees(t, c)
	}
}

// Promise 5.

func TestConservativeSimulationNeverErrs(t *testing.T) {
	some, whole := 0, 0
	manyTurns(293, func(c caution, a turn, next caution) {
		log := next.S.Logs[a.At]
		if a.Null || len(log) == len(c.S.Logs[a.At]) {
			if !same(next.S.Logs, c.S.Logs) {
				t.Fatalf("records are changed by %v:\n%v\nof\n%v", a, next, c)
			}
			return
		}
		want := recordsOf(impl.SeqAll(c.M).Log, a.At)
		if len(log) > len(want) || !slices.Equal(log, want[:len(log)]) {
			t.Fatalf("host %d has not processed a part of %v:\n%v", a.At, want, next)
		}
		if some++; len(log) == len(want) {
			whole++
		}
	})
	if some < 1500 || whole < 200 {
		t.Fatalf("%d events are processed, %d of them the last ones", some, whole)
	}
}

// Promise 6.

func TestNullMessagesPreventDeadlocks(t *testing.T) {
	stuck, step := 0, 0
	check := func(c caution) {
		if !c.pending() {
			return
		}
		if !c.ready() {
			stuck++
		}
		if next := c.nullAll(c.M.Until + 1); !next.ready() {
			t.Fatalf("no host can process its first event:\n%v\nafter null messages:\n%v", c, next)
		}
	}
	for _, m := range cautionModels() {
		check(fresh(m))
	}
	manyTurns(307, func(_ caution, _ turn, next caution) {
		if step++; step%11 == 0 {
			check(next)
		}
	})
	if stuck < 500 {
		t.Fatalf("no host could process its first event only %d times", stuck)
	}
}

// With a delay of 1 bounds rise by 1 only, so that nothing less than Until + 1 null messages of every host suffices.
func TestDeadlocksWithTheLeastDelay(t *testing.T) {
	m := model{Rules: make([][]rule, 2), Starts: []event{{T: 99, To: 1, From: -1}}, Until: 99}
	m.Rules[0] = []rule{{Sends: []send{{To: 0, Delay: 1, Mod: 1}, {To: 1, Delay: 1, Mod: 1}}}}
	c := fresh(m)
	for times := range 101 {
		if c.ready() != (times == 100) {
			t.Fatalf("after %d null messages of every host:\n%v", times, c)
		}
		c = c.nullAll(1)
	}
}

// Promise 75.

func TestBoundsAreKept(t *testing.T) {
	arrived, exact := 0, 0
	manyTurns(311, func(c caution, a turn, next caution) {
		for at, h := range next.S.Hosts {
			for _, e := range h.Wait {
				if slices.Contains(c.S.Hosts[at].Wait, e) {
					continue
				}
				bound := c.S.Hosts[at].In[a.At]
				if arrived++; e.T < bound || e.From != a.At || a.Null {
					t.Fatalf("%v arrives at host %d before %d:\n%v", e, at, bound, next)
				}
				if e.T == bound {
					exact++
				}
			}
		}
	})
	if arrived < 1000 || exact < 100 {
		t.Fatalf("%d events arrive, %d of them at the bound", arrived, exact)
	}
}

// Memory.

// request is a simulation and a host for which something is asked.
type request struct {
	C  caution
	At int
}

func checkCautionOwned(t *testing.T, c caution) {
	t.Helper()
	checkOwned(t, "CmbOk", c, caution.ok)
	checkOwned(t, "CmbNew", c.M, impl.CmbNew)
	checkOwned(t, "CmbAll", c.M, impl.CmbAll)
	for at := -1; at <= len(c.M.Rules); at++ {
		x := request{c, at}
		checkOwned(t, "CmbLook", x, func(x request) int { return impl.CmbLook(x.C.M, x.At, 0) })
		checkOwned(t, "CmbSafe", x, func(x request) int { return x.C.safe(x.At) })
		checkOwned(t, "CmbDo", x, func(x request) handled { return x.C.do(x.At) })
		checkOwned(t, "CmbNull", x, func(x request) cautious { return x.C.null(x.At) })
	}
}

func TestConservativeSimulationOwnsItsMemory(t *testing.T) {
	list := []caution{{}, {M: badModels()[3]}, {someModel(), cautious{}}, someCaution()}
	for i, c := range strangeCautions(313) {
		if i%9 == 0 {
			list = append(list, c)
		}
	}
	for i, m := range cautionModels() {
		if i%5 == 0 {
			list = append(list, fresh(m), fresh(m).nullAll(i%7), caution{m, impl.CmbAll(m)})
		}
	}
	for _, spoiled := range []func(*cautious){
		func(s *cautious) { s.Hosts = s.Hosts[:2] },
		func(s *cautious) { s.Hosts[1].In = s.Hosts[1].In[:2] },
		func(s *cautious) { s.Hosts[0].Wait[1] = s.Hosts[0].Wait[0] },
		func(s *cautious) { s.Logs[0][0].S = 97 },
	} {
		c := someCaution()
		spoiled(&c.S)
		list = append(list, c)
	}
	for _, c := range list {
		checkCautionOwned(t, c)
	}
}
