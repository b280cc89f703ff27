package tests

import (
	"math"
	"reflect"
	"slices"
	"testing"

	"loop.example/turnback/impl"
)

type (
	model = impl.MdlModel
	rule  = impl.MdlRule
	send  = impl.MdlSend
	comp  = impl.CmpState
)

// someModel is valid, and has components with all kinds of rules, with some, and with none.
func someModel() model {
	return model{
		Rules: [][]rule{
			{
				{Kind: 0, A: 3, B: 5, C: 7, Sends: []send{{To: 1, Delay: 2, Kind: 1, Plus: 11, Mod: 1}, {To: 0, Delay: 9, Kind: 2, Plus: 96, Mod: 2, Rem: 1}}},
				{Kind: 1, A: 96, B: 96, C: 96, Sends: []send{{To: 2, Delay: 1, Mod: 9, Rem: 8}}},
				{Kind: 2},
			},
			{
				{Kind: 1, A: 1, B: 1, Sends: []send{{To: 0, Delay: 1, Mod: 3, Rem: 2}, {To: 0, Delay: 1, Mod: 3, Rem: 2}}},
			},
			{},
		},
		Starts: []event{
			{T: 0, To: 0, From: -1, Data: 4},
			{T: 0, To: 1, From: -1, Kind: 1},
			{T: 5, To: 0, From: -1, Seq: 11, Kind: 2, Data: 96},
			{T: 20, To: 2, From: -1, Seq: 1},
		},
		Until: 20,
	}
}

// copyModel copies a model to memory of its own, with room behind the end of every list.
func copyModel(m model) model {
	rules := [][]rule{}
	for _, list := range m.Rules {
		of := []rule{}
		for _, r := range list {
			r.Sends = guarded(r.Sends, send{To: -7})
			of = append(of, r)
		}
		rules = append(rules, guarded(of, rule{Kind: -7}))
	}
	return model{Rules: guarded(rules, []rule{{Kind: -7}}), Starts: guarded(m.Starts, mark), Until: m.Until}
}

// wholeModel is a model with all the spare capacity of its lists.
func wholeModel(m model) model {
	rules := slices.Clone(whole(m.Rules))
	for i, list := range rules {
		rules[i] = slices.Clone(whole(list))
		for j := range rules[i] {
			rules[i][j].Sends = whole(rules[i][j].Sends)
		}
	}
	return model{Rules: rules, Starts: whole(m.Starts), Until: m.Until}
}

func overwriteModel(m model) {
	for _, list := range m.Rules {
		for _, r := range list {
			overwrite(whole(r.Sends), send{To: -7})
		}
		overwrite(whole(list), rule{Kind: -7})
	}
	overwrite(whole(m.Rules), nil)
	overwrite(whole(m.Starts), mark)
}

// checkModelKept fails if call writes to the model that it is given, or if its results share memory with it or with each other.
func checkModelKept(t *testing.T, m model, call func(model) []event) {
	t.Helper()
	arg := copyModel(m)
	before := copyModel(m)
	first, second := call(arg), call(arg)
	want := slices.Clone(first)
	overwrite(whole(second), mark)
	if !reflect.DeepEqual(wholeModel(arg), wholeModel(before)) {
		t.Fatalf("the model %v was changed to %v", wholeModel(before), wholeModel(arg))
	}
	overwriteModel(arg)
	if !slices.Equal(first, want) {
		t.Fatalf("the result for %v shares memory with another result or the model", m)
	}
}

// checkModels fails unless all changed copies of a model are valid, or invalid; a change is named by its number.
func checkModels(t *testing.T, base func() model, want bool, changes ...func(*model)) {
	t.Helper()
	for i, change := range changes {
		m := base()
		change(&m)
		if impl.MdlOk(m) != want {
			t.Errorf("change %d: MdlOk is not %v: %v", i, want, m)
		}
	}
}

// number names a number in a model, how to reach it, and its bounds.
type number struct {
	name string
	of   func(*model) *int
	low  int
	high int
}

// numbers are in someModel; its send has Mod 9 and Rem 8, its last start the time Until.
func numbers() []number {
	oneRule := func(m *model) *rule { return &m.Rules[1][0] }
	oneSend := func(m *model) *send { return &m.Rules[0][1].Sends[0] }
	return []number{
		{"A", func(m *model) *int { return &oneRule(m).A }, 0, 96},
		{"B", func(m *model) *int { return &oneRule(m).B }, 0, 96},
		{"C", func(m *model) *int { return &oneRule(m).C }, 0, 96},
		{"Kind of the only rule", func(m *model) *int { return &oneRule(m).Kind }, 0, 2},
		{"Kind of the first rule", func(m *model) *int { return &m.Rules[0][0].Kind }, 0, 0},
		{"Kind of the middle rule", func(m *model) *int { return &m.Rules[0][1].Kind }, 1, 1},
		{"Kind of the last rule", func(m *model) *int { return &m.Rules[0][2].Kind }, 2, 2},
		{"To", func(m *model) *int { return &oneSend(m).To }, 0, 2},
		{"Delay", func(m *model) *int { return &oneSend(m).Delay }, 1, 9},
		{"Kind of a send", func(m *model) *int { return &oneSend(m).Kind }, 0, 2},
		{"Plus", func(m *model) *int { return &oneSend(m).Plus }, 0, 96},
		{"Mod", func(m *model) *int { return &oneSend(m).Mod }, 9, 9},
		{"Rem", func(m *model) *int { return &oneSend(m).Rem }, 0, 8},
		{"Until", func(m *model) *int { return &m.Until }, 20, 99},
		{"T", func(m *model) *int { return &m.Starts[3].T }, 5, 20},
		{"To of a start", func(m *model) *int { return &m.Starts[3].To }, 0, 2},
		{"From of a start", func(m *model) *int { return &m.Starts[3].From }, -1, -1},
		{"Seq of a start", func(m *model) *int { return &m.Starts[3].Seq }, 0, 11},
		{"Kind of a start", func(m *model) *int { return &m.Starts[3].Kind }, 0, 2},
		{"Data of a start", func(m *model) *int { return &m.Starts[3].Data }, 0, 96},
	}
}

// Promise 28.

func TestMdlOkBoundsOfEveryNumber(t *testing.T) {
	checkModels(t, someModel, true, func(*model) {})
	for _, f := range numbers() {
		for _, n := range []int{math.MinInt, f.low - 1, f.low, f.high, f.high + 1, math.MaxInt} {
			m := someModel()
			*f.of(&m) = n
			if want := n >= f.low && n <= f.high; impl.MdlOk(m) != want {
				t.Errorf("%s %d: not %v", f.name, n, want)
			}
		}
	}
}

func TestMdlOkRemainders(t *testing.T) {
	for mod := -2; mod <= 12; mod++ {
		for rem := -2; rem <= 12; rem++ {
			m := someModel()
			m.Rules[0][1].Sends[0].Mod, m.Rules[0][1].Sends[0].Rem = mod, rem
			if want := mod >= 1 && mod <= 9 && rem >= 0 && rem < mod; impl.MdlOk(m) != want {
				t.Errorf("Mod %d, Rem %d: not %v", mod, rem, want)
			}
		}
	}
}

func TestMdlOkNumberOfComponents(t *testing.T) {
	for many := range 8 {
		m := model{Rules: make([][]rule, many)}
		if want := many >= 1 && many <= 4; impl.MdlOk(m) != want {
			t.Errorf("%d components: not %v", many, want)
		}
	}
	checkModels(t, someModel, true,
		func(m *model) { m.Rules = append(m.Rules, nil) },
		func(m *model) { m.Rules = append(m.Rules, []rule{{Kind: 2}}) })
	checkModels(t, someModel, false,
		func(m *model) { m.Rules = append(m.Rules, nil, nil) },
		func(m *model) { m.Rules = m.Rules[:2] },
		func(m *model) { m.Rules = m.Rules[:0] },
		func(m *model) { *m = model{} },
		func(m *model) { *m = model{Until: 10} })
}

func TestMdlOkEndWithoutExternalEvents(t *testing.T) {
	for _, until := range []int{math.MinInt, -1, 0, 99, 100, math.MaxInt} {
		want := until >= 0 && until <= 99
		checkModels(t, someModel, want, func(m *model) { m.Starts, m.Until = nil, until })
	}
}

func TestMdlOkSendsAndEventsForExistingComponents(t *testing.T) {
	for many := 1; many <= 4; many++ {
		for to := -1; to <= 4; to++ {
			want := to >= 0 && to < many
			sending := model{Rules: make([][]rule, many)}
			sending.Rules[many-1] = []rule{{Sends: []send{{To: to, Delay: 1, Mod: 1}}}}
			started := model{Rules: make([][]rule, many), Starts: []event{{To: to, From: -1}}}
			if impl.MdlOk(sending) != want || impl.MdlOk(started) != want {
				t.Errorf("to %d of %d: not %v", to, many, want)
			}
		}
	}
}

func TestMdlOkRuleTwice(t *testing.T) {
	for c, list := range someModel().Rules {
		for i, r := range list {
			for at := range len(list) + 1 {
				checkModels(t, someModel, false, func(m *model) { m.Rules[c] = slices.Insert(m.Rules[c], at, r) })
			}
			checkModels(t, someModel, true, func(m *model) { m.Rules[c] = slices.Delete(m.Rules[c], i, i+1) })
			checkModels(t, someModel, true, func(m *model) { m.Rules[2] = []rule{r} })
		}
	}
}

func TestMdlOkOrderOfKinds(t *testing.T) {
	for bits := range 1 << 8 {
		kinds := []int{bits & 3, bits >> 2 & 3, bits >> 4 & 3}[:bits>>6]
		list := []rule{}
		for _, kind := range kinds {
			list = append(list, rule{Kind: kind})
		}
		want := !slices.Contains(kinds, 3)
		for i := 1; i < len(kinds); i++ {
			want = want && kinds[i-1] < kinds[i]
		}
		checkModels(t, someModel, want, func(m *model) { m.Rules[2] = list })
	}
}

func TestMdlOkExternalEvents(t *testing.T) {
	for n := range 9 {
		starts := []event{}
		for i := range n {
			starts = append(starts, event{T: 1, From: -1, Seq: i})
		}
		checkModels(t, someModel, n <= 6, func(m *model) { m.Starts = starts })
	}
	checkModels(t, someModel, true,
		func(m *model) { m.Starts = nil },
		func(m *model) { m.Starts = []event{} },
		func(m *model) { m.Starts, m.Until = nil, 0 },
		func(m *model) { m.Starts, m.Until = m.Starts[:2], 0 })
	for i := range 3 {
		checkModels(t, someModel, false,
			func(m *model) { m.Starts[i], m.Starts[i+1] = m.Starts[i+1], m.Starts[i] },
			func(m *model) { m.Starts[i] = m.Starts[i+1] },
			func(m *model) { m.Starts[i].From = 0 },
			func(m *model) { m.Starts[i].From = -2 },
			func(m *model) { m.Starts[i].Data = 97 },
			func(m *model) { m.Until = 19 },
			func(m *model) { m.Until = -1 })
	}
}

func TestMdlOkNumberOfSends(t *testing.T) {
	for n := range 5 {
		sends := make([]send, n)
		overwrite(sends, send{To: 2, Delay: 1, Mod: 1})
		for c := range 2 {
			checkModels(t, someModel, n <= 2, func(m *model) { m.Rules[c][0].Sends = sends })
		}
	}
	checkModels(t, someModel, false,
		func(m *model) { m.Rules[0][0].Sends[0] = send{} },
		func(m *model) { m.Rules[0][0].Sends[1] = send{} },
		func(m *model) { m.Rules[1][0].Sends[1].Delay = 10 })
}

// Promise 31.

func TestCmpOkBounds(t *testing.T) {
	for _, s := range []int{math.MinInt, -1, 0, 1, 50, 96, 97, 98, math.MaxInt} {
		for _, seq := range []int{math.MinInt, -1, 0, 1, 11, 12, 13, math.MaxInt} {
			for _, count := range []int{math.MinInt, -1, 0, 1, 1000, math.MaxInt} {
				want := s >= 0 && s <= 96 && seq >= 0 && seq <= 12 && count >= 0
				if c := (comp{S: s, Seq: seq, Count: count}); impl.CmpOk(c) != want {
					t.Errorf("%v: not %v", c, want)
				}
			}
		}
	}
}

func TestConstantsOfModels(t *testing.T) {
	if impl.DelMost != 9 || impl.SndMost != 2 || impl.StaMost != 6 {
		t.Fatal(impl.DelMost, impl.SndMost, impl.StaMost)
	}
}

// checkDo fails unless CmpDo returns the state and the events.
func checkDo(t *testing.T, m model, c comp, e event, want comp, sent ...event) {
	t.Helper()
	got, list := impl.CmpDo(m, c, e)
	if got != want || !slices.Equal(list, sent) {
		t.Errorf("%v in state %v: %v, %v; not %v, %v", e, c, got, list, want, sent)
	}
}

// Promise 29.

func TestCmpDoSendsInOrder(t *testing.T) {
	m := someModel()
	e := event{T: 3, To: 0, From: 2, Seq: 9, Data: 4}
	checkDo(t, m, comp{S: 1, Seq: 5, Count: 8}, e, comp{S: 30, Seq: 6, Count: 9},
		event{T: 5, To: 1, From: 0, Seq: 5, Kind: 1, Data: 41})
	checkDo(t, m, comp{S: 2, Seq: 5, Count: 8}, e, comp{S: 33, Seq: 7, Count: 9},
		event{T: 5, To: 1, From: 0, Seq: 5, Kind: 1, Data: 44},
		event{T: 12, To: 0, From: 0, Seq: 6, Kind: 2, Data: 32})
	e = event{T: 3, To: 1, From: -1, Kind: 1, Data: 1}
	checkDo(t, m, comp{S: 1}, e, comp{S: 2, Seq: 2, Count: 1},
		event{T: 4, To: 0, From: 1, Seq: 0, Data: 2},
		event{T: 4, To: 0, From: 1, Seq: 1, Data: 2})
	checkDo(t, m, comp{S: 2}, e, comp{S: 3, Count: 1})
}

func TestCmpDoRemainderDecides(t *testing.T) {
	for mod := 1; mod <= 9; mod++ {
		for rem := range mod {
			m := model{Rules: [][]rule{{{A: 1, Sends: []send{{Delay: 1, Plus: 1, Mod: mod, Rem: rem}}}}}, Until: 5}
			for s := range impl.NumMod {
				if s%mod == rem {
					checkDo(t, m, comp{S: s}, event{}, comp{S: s, Seq: 1, Count: 1}, event{T: 1, Data: (s + 1) % 97})
				} else {
					checkDo(t, m, comp{S: s}, event{}, comp{S: s, Count: 1})
				}
			}
		}
	}
}

func TestCmpDoAroundTheEnd(t *testing.T) {
	m := someModel()
	c := comp{S: 2, Seq: 3}
	first := event{T: 5, To: 1, From: 0, Seq: 3, Kind: 1, Data: 44}
	second := event{T: 12, To: 0, From: 0, Seq: 4, Kind: 2, Data: 32}
	for at := -1; at <= 22; at++ {
		e := event{T: at, To: 0, From: -1, Data: 4}
		first.T, second.T = at+2, at+9
		switch {
		case at < 0 || at > 20:
			checkDo(t, m, c, e, comp{})
		case at+9 <= 20:
			checkDo(t, m, c, e, comp{S: 33, Seq: 5, Count: 1}, first, second)
		case at+2 <= 20:
			checkDo(t, m, c, e, comp{S: 33, Seq: 5, Count: 1}, first)
		default:
			checkDo(t, m, c, e, comp{S: 33, Seq: 5, Count: 1})
		}
	}
}

func TestCmpDoNumberOfUnsentEventIsUsedUp(t *testing.T) {
	m := someModel()
	sends := m.Rules[0][0].Sends
	sends[0], sends[1] = sends[1], sends[0]
	e := event{T: 15, To: 0, From: -1, Data: 4}
	checkDo(t, m, comp{S: 2, Seq: 10}, e, comp{S: 33, Seq: 12, Count: 1}, event{T: 17, To: 1, From: 0, Seq: 11, Kind: 1, Data: 44})
	checkDo(t, m, comp{S: 2, Seq: 11}, e, comp{S: 33, Seq: 12, Count: 1})
}

func TestCmpDoTimeTop(t *testing.T) {
	m := someModel()
	m.Until = 99
	e := event{T: 97, To: 0, From: -1, Data: 4}
	checkDo(t, m, comp{S: 2}, e, comp{S: 33, Seq: 2, Count: 1}, event{T: 99, To: 1, Kind: 1, Data: 44})
	e.T = 99
	checkDo(t, m, comp{S: 2}, e, comp{S: 33, Seq: 2, Count: 1})
	e.T = 100
	checkDo(t, m, comp{S: 2}, e, comp{})
}

func TestCmpDoNumberOfSends(t *testing.T) {
	m := someModel()
	e := event{T: 3, To: 0, From: 2, Data: 4}
	first := event{T: 5, To: 1, From: 0, Kind: 1, Data: 44}
	second := event{T: 12, To: 0, From: 0, Kind: 2, Data: 32}
	for seq := range 11 {
		first.Seq, second.Seq = seq, seq+1
		checkDo(t, m, comp{S: 2, Seq: seq}, e, comp{S: 33, Seq: seq + 2, Count: 1}, first, second)
	}
	first.Seq = 11
	checkDo(t, m, comp{S: 2, Seq: 11}, e, comp{S: 33, Seq: 12, Count: 1}, first)
	checkDo(t, m, comp{S: 2, Seq: 12}, e, comp{S: 33, Seq: 12, Count: 1})
	checkDo(t, m, comp{S: 2, Seq: 13}, e, comp{})
}

func TestCmpDoWithoutRule(t *testing.T) {
	m := someModel()
	for to, list := range m.Rules {
		for kind := range 3 {
			if slices.ContainsFunc(list, func(r rule) bool { return r.Kind == kind }) {
				continue
			}
			for _, c := range []comp{{}, {S: 96, Seq: 12, Count: 40}, {S: 5, Seq: 1, Count: 2}} {
				want := c
				want.Count++
				checkDo(t, m, c, event{T: 20, To: to, From: 2, Seq: 11, Kind: kind, Data: 96}, want)
			}
		}
	}
}

func TestCmpDoOneComponentAndFour(t *testing.T) {
	for many := 1; many <= 4; many++ {
		m := model{Rules: make([][]rule, many), Until: 2}
		for i := range many {
			m.Rules[i] = []rule{{Kind: 2, C: i + 1, Sends: []send{{To: many - 1 - i, Delay: 1, Kind: 2, Mod: 1}}}}
		}
		for i := range 6 {
			e := event{T: 1, To: i, From: -1, Kind: 2}
			if i < many {
				checkDo(t, m, comp{}, e, comp{S: i + 1, Seq: 1, Count: 1}, event{T: 2, To: many - 1 - i, From: i, Kind: 2, Data: i + 1})
			} else {
				checkDo(t, m, comp{}, e, comp{})
			}
		}
	}
}

func TestCmpDoSendsLaterEvents(t *testing.T) {
	m := someModel()
	for s := range impl.NumMod {
		for seq := range impl.SeqMost + 1 {
			for at := range m.Until + 1 {
				c := comp{S: s, Seq: seq, Count: s}
				e := event{T: at, To: s % 3, From: seq%4 - 1, Seq: at % 12, Kind: (s + seq) % 3, Data: (s + 5*at) % 97}
				checkSends(t, m, c, e)
			}
		}
	}
}

func checkSends(t *testing.T, m model, c comp, e event) {
	t.Helper()
	got, sent := impl.CmpDo(m, c, e)
	if !impl.CmpOk(got) || got.Count != c.Count+1 || got.Seq < c.Seq+len(sent) {
		t.Fatalf("%v in state %v: %v, %v", e, c, got, sent)
	}
	next := c.Seq
	for _, made := range sent {
		if !impl.EvtOk(made, len(m.Rules)) || made.From != e.To || made.T <= e.T || made.T > m.Until || made.Seq < next || made.Seq >= got.Seq {
			t.Fatalf("%v in state %v sends %v", e, c, sent)
		}
		next = made.Seq + 1
	}
}

func TestCmpDoInvalid(t *testing.T) {
	good := event{T: 3, To: 0, From: 2, Seq: 9, Data: 4}
	for _, f := range numbers() {
		m := someModel()
		*f.of(&m) = f.low - 1
		checkDo(t, m, comp{}, good, comp{})
	}
	checkDo(t, model{}, comp{}, good, comp{})
	for _, c := range []comp{{S: -1}, {S: 97}, {Seq: -1}, {Seq: 13}, {Count: -1}, {S: 97, Seq: 13, Count: -1}} {
		for kind := range 3 {
			checkDo(t, someModel(), c, with(good, fields()[4], kind), comp{})
		}
	}
	for _, f := range fields() {
		for _, n := range []int{math.MinInt, f.low - 1, f.high + 1, math.MaxInt} {
			checkDo(t, someModel(), comp{S: 1}, with(good, f, n), comp{})
		}
	}
	checkDo(t, someModel(), comp{}, with(good, fields()[1], 3), comp{})
	checkDo(t, someModel(), comp{}, with(good, fields()[2], 3), comp{})
}

func TestModelsAreKept(t *testing.T) {
	bad := someModel()
	bad.Until = 19
	for _, m := range []model{someModel(), bad, {}} {
		checkModelKept(t, m, func(m model) []event {
			impl.MdlOk(m)
			return nil
		})
		for _, e := range []event{{T: 3, To: 0, From: 2, Data: 4}, {T: 15, To: 0, From: 2, Data: 4}, {T: 20, To: 2}, mark} {
			checkModelKept(t, m, func(m model) []event {
				_, sent := impl.CmpDo(m, comp{S: 2}, e)
				return sent
			})
		}
	}
}

// Promise 30.

// doState is the state of the only component, with one rule, behind an event.
func doState(t *testing.T, r rule, s, data int) int {
	t.Helper()
	got, sent := impl.CmpDo(model{Rules: [][]rule{{r}}}, comp{S: s}, event{From: -1, Kind: r.Kind, Data: data})
	if got.Count != 1 || got.Seq != 0 || len(sent) != 0 {
		t.Fatalf("%v: %v, %v", r, got, sent)
	}
	return got.S
}

func TestCmpDoState(t *testing.T) {
	for _, test := range []struct{ a, b, c, s, data, want int }{
		{0, 0, 0, 96, 96, 0},
		{0, 0, 96, 96, 96, 96},
		{1, 0, 0, 96, 50, 96},
		{0, 1, 0, 96, 50, 50},
		{1, 1, 1, 90, 5, 96},
		{1, 1, 1, 90, 6, 0},
		{1, 1, 1, 90, 7, 1},
		{2, 3, 5, 7, 11, 52},
		{96, 96, 96, 96, 96, 1},
		{96, 0, 0, 1, 0, 96},
		{10, 20, 30, 40, 50, 72},
	} {
		for kind := range 3 {
			if got := doState(t, rule{Kind: kind, A: test.a, B: test.b, C: test.c}, test.s, test.data); got != test.want {
				t.Errorf("%v: %d", test, got)
			}
		}
	}
}

func TestCmpDoIsTheStatedCombination(t *testing.T) {
	some := []int{0, 1, 2, 13, 48, 95, 96}
	for _, a := range some {
		for _, b := range some {
			for _, c := range some {
				for _, s := range some {
					for _, data := range some {
						checkCombination(t, rule{A: a, B: b, C: c}, s, data)
					}
				}
			}
		}
	}
}

func checkCombination(t *testing.T, r rule, s, data int) {
	t.Helper()
	both := doState(t, r, s, data)
	if both != (r.A*s+r.B*data+r.C)%97 {
		t.Fatalf("%v in state %d with data %d: %d", r, s, data, both)
	}
	if split := doState(t, r, s, 0) + doState(t, r, 0, data) - r.C; (split+97)%97 != both {
		t.Fatalf("%v in state %d with data %d: %d, but the sum of both is %d", r, s, data, both, split)
	}
}

func TestCmpDoRuleOfTheReceiver(t *testing.T) {
	m := model{Rules: make([][]rule, 4), Until: 1}
	for c := range 4 {
		for kind := range 3 {
			m.Rules[c] = append(m.Rules[c], rule{Kind: kind, C: 10*c + kind})
		}
	}
	for to := range 4 {
		for from := -1; from < 4; from++ {
			for kind := range 3 {
				checkDo(t, m, comp{S: 60}, event{T: 1, To: to, From: from, Seq: 2, Kind: kind, Data: 30}, comp{S: 10*to + kind, Count: 1})
			}
		}
	}
}
