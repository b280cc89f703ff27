package tests

import (
	"fmt"
	"slices"
	"testing"

	"loop.example/turnback/impl"
)

// undo is a state of a component, and an event that is to be reversed from there.
type undo struct {
	M model
	C comp
	E event
}

// undone is the state behind a reversal, and whether there is one.
type undone struct {
	C  comp
	Ok bool
}

// retreat is a state of a component, and events that are to be reversed from there.
type retreat struct {
	M    model
	C    comp
	List []event
}

func (u undo) run() undone {
	c, ok := impl.CmpUndo(u.M, u.C, u.E)
	return undone{c, ok}
}

func (b retreat) run() undone {
	c, ok := impl.RevBack(b.M, b.C, b.List)
	return undone{c, ok}
}

// String is what a failed test tells of a reversal.
func (u undo) String() string {
	return fmt.Sprintf("%+v in state %+v of %v", u.E, u.C, u.M)
}

// ruleFor is the rule by which an event is processed; false, if there is none.
func ruleFor(m model, e event) (rule, bool) {
	for _, r := range m.Rules[e.To] {
		if r.Kind == e.Kind {
			return r, true
		}
	}
	return rule{}, false
}

// trueSends is the number of sends of a rule whose condition holds in state s.
func trueSends(r rule, s int) int {
	n := 0
	for _, x := range r.Sends {
		if s%x.Mod == x.Rem {
			n++
		}
	}
	return n
}

// byDefinition is CmpUndo as the document describes it; the previous S is found by trying all of them.
func (u undo) byDefinition() undone {
	if !impl.MdlOk(u.M) || !impl.CmpOk(u.C) || !impl.EvtOk(u.E, len(u.M.Rules)) || u.E.T > u.M.Until {
		return undone{}
	}
	if u.C.Count == 0 || u.C.Seq == 12 {
		return undone{}
	}
	c := u.C
	c.Count--
	r, found := ruleFor(u.M, u.E)
	if !found {
		return undone{c, true}
	}
	c.Seq -= trueSends(r, u.C.S)
	if r.A == 0 || c.Seq < 0 {
		return undone{}
	}
	for s := range 97 {
		if (r.A*s+r.B*u.E.Data+r.C)%97 == u.C.S {
			c.S = s
			return undone{c, true}
		}
	}
	panic("no state leads to this one")
}

// byDefinition is RevBack as the document describes it.
func (b retreat) byDefinition() undone {
	if !impl.MdlOk(b.M) || !impl.CmpOk(b.C) || len(b.List) > 100 {
		return undone{}
	}
	at := undone{b.C, true}
	for i := len(b.List) - 1; i >= 0 && at.Ok; i-- {
		at = undo{b.M, at.C, b.List[i]}.byDefinition()
	}
	return at
}

// invertible is a model in which no rule has an A that is 0.
func invertible(m model) model {
	m = plain(m)
	for _, rules := range m.Rules {
		for i := range rules {
			rules[i].A = max(1, rules[i].A)
		}
	}
	return m
}

// reverseModels are the models of the tests of chapter 11: the drawn ones, in which hardly any A is 0, such in which some are, and such in which none is.
func reverseModels() []model {
	list := manyModels()
	d := &draw{at: 503}
	for _, m := range manyModels() {
		some := plain(m)
		for _, rules := range some.Rules {
			for i := range rules {
				rules[i].A = []int{0, 1, 2, 48, 96}[d.below(5)]
			}
		}
		list = append(list, some, invertible(m))
	}
	return list
}

// event is one that is valid for the model and not later than its end; many are at their bounds.
func (d *draw) event(m model) event {
	return event{
		T:    min(m.Until, d.below(m.Until+4)),
		To:   d.below(len(m.Rules)),
		From: d.between(-1, len(m.Rules)-1),
		Seq:  d.below(12),
		Kind: d.below(3),
		Data: []int{0, 96, d.below(97), d.below(97)}[d.below(4)],
	}
}

// undo is a valid state and a valid event, which nothing need lead to.
func (d *draw) undo(m model) undo {
	return undo{m, comp{
		S:     []int{0, 96, d.below(97), d.below(97)}[d.below(4)],
		Seq:   []int{0, 1, 2, 3, 11, 12, d.below(13)}[d.below(7)],
		Count: []int{0, 1, 2, d.below(99), d.below(99)}[d.below(5)],
	}, d.event(m)}
}

// manyUndos are several drawn reversals in every model.
func manyUndos(seed uint64) []undo {
	d := &draw{at: seed}
	var list []undo
	for _, m := range reverseModels() {
		for range 40 {
			list = append(list, d.undo(m))
		}
	}
	return list
}

// retreat is a state that a list of events has led to; now and then one of them is another one, so that it may be impossible to reverse it.
func (d *draw) retreat(m model, n int) retreat {
	b := retreat{M: m, C: comp{S: d.below(97), Seq: d.below(4)}}
	for range n {
		e := d.event(m)
		b.C, _ = impl.CmpDo(m, b.C, e)
		b.List = append(b.List, e)
	}
	if n > 0 && d.below(6) == 0 {
		b.List[d.below(n)] = d.event(m)
	}
	return b
}

// manyRetreats are several drawn lists for every model.
func manyRetreats(seed uint64) []retreat {
	d := &draw{at: seed}
	var list []retreat
	for _, m := range reverseModels() {
		for range 8 {
			list = append(list, d.retreat(m, []int{0, 1, 2, 3, 4, 6, 9, 14}[d.below(8)]))
		}
	}
	return list
}

// undoCounts are what makes reversals differ from each other, with the number of those that have it.
type undoCounts map[string]int

func (n undoCounts) add(u undo) {
	r, found := ruleFor(u.M, u.E)
	used := trueSends(r, u.C.S)
	for name, is := range map[string]bool{
		"no rule":                      !found,
		"no rule at SeqMost":           !found && u.C.Seq == 12 && u.C.Count > 0,
		"a rule without sends":         found && len(r.Sends) == 0,
		"a rule that is not inverted":  found && r.A == 0 && u.C.Count > 0 && u.C.Seq < 12 && u.C.Seq >= used,
		"a send whose condition fails": found && used < len(r.Sends),
		"one send":                     used == 1,
		"two sends":                    used == 2,
		"Count 0":                      u.C.Count == 0,
		"Count 1":                      u.C.Count == 1,
		"Seq less than the sends":      found && r.A > 0 && u.C.Count > 0 && u.C.Seq < used,
		"Seq equal to the sends":       found && r.A > 0 && u.C.Count > 0 && u.C.Seq == used && used > 0,
		"Seq just below SeqMost":       found && r.A > 0 && u.C.Count > 0 && u.C.Seq == 11,
		"Seq at SeqMost":               found && r.A > 0 && u.C.Count > 0 && u.C.Seq == 12,
		"the event at the end":         u.E.T == u.M.Until,
		"true":                         u.byDefinition().Ok,
		"false":                        !u.byDefinition().Ok,
	} {
		if is {
			n[name]++
		}
	}
}

func TestManyUndosAreVaried(t *testing.T) {
	n := undoCounts{}
	for _, u := range manyUndos(509) {
		n.add(u)
	}
	if len(n) != 16 {
		t.Fatalf("%d of 16: %v", len(n), n)
	}
	for name, often := range n {
		if often < 100 {
			t.Errorf("%s: only %d times", name, often)
		}
	}
}

func TestManyRetreatsAreVaried(t *testing.T) {
	n := map[string]int{}
	for _, b := range manyRetreats(521) {
		several := slices.ContainsFunc(b.List, func(e event) bool { return e.To != b.List[0].To })
		switch ok := b.byDefinition().Ok; {
		case len(b.List) == 0:
			n["nothing to reverse"]++
		case several && ok:
			n["several components"]++
		case several:
			n["several components, but not reversible"]++
		case ok:
			n["one component"]++
		default:
			n["one component, but not reversible"]++
		}
	}
	if len(n) != 5 {
		t.Fatalf("%d of 5: %v", len(n), n)
	}
	for name, often := range n {
		if often < 100 {
			t.Errorf("%s: only %d times", name, often)
		}
	}
}
