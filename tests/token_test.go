package tests

import (
	"math"
	"testing"

	"loop.example/turnback/impl"
)

// Promise 49.

func TestMrkOkBoundsOfEveryNumber(t *testing.T) {
	for _, m := range append(plainModels(), someModel()) {
		for _, p := range markParts(m) {
			for _, n := range p.around() {
				v := meeting{M: m}
				*p.of(&v) = n
				if want := inRange(n, p.low, p.high); impl.MrkOk(m, v.Mark) != want {
					t.Errorf("%s %d of %v: not %v", p.name, n, m, want)
				}
			}
		}
	}
}

func TestTokOkBoundsOfEveryNumber(t *testing.T) {
	for _, m := range append(plainModels(), someModel()) {
		for _, p := range tokenParts(m) {
			for _, n := range p.around() {
				for _, on := range []bool{false, true} {
					v := meeting{M: m, Tok: token{On: on}}
					*p.of(&v) = n
					if want := inRange(n, p.low, p.high); impl.TokOk(m, v.Tok) != want {
						t.Errorf("%s %d of %v, active %v: not %v", p.name, n, m, on, want)
					}
				}
			}
		}
	}
}

func TestMarksAndTokensAtAllBounds(t *testing.T) {
	for _, m := range plainModels() {
		for _, v := range corners(meeting{M: m}, markParts(m)) {
			if !impl.MrkOk(m, v.Mark) {
				t.Errorf("%v is refused for %v", v.Mark, m)
			}
		}
		for _, on := range []bool{false, true} {
			for _, v := range corners(meeting{M: m, Tok: token{On: on}}, tokenParts(m)) {
				if !impl.TokOk(m, v.Tok) {
					t.Errorf("%v is refused for %v", v.Tok, m)
				}
			}
		}
	}
}

func TestMarksAndTokensOfManyMeetings(t *testing.T) {
	for _, v := range manyMeetings() {
		if want := markByDefinition(v.M, v.Mark); impl.MrkOk(v.M, v.Mark) != want {
			t.Fatalf("%v for %v: not %v", v.Mark, v.M, want)
		}
		if want := tokenByDefinition(v.M, v.Tok); impl.TokOk(v.M, v.Tok) != want {
			t.Fatalf("%v for %v: not %v", v.Tok, v.M, want)
		}
	}
}

func TestValidMarksAndTokensBecomeInvalid(t *testing.T) {
	for _, v := range manyMeetings() {
		early, late := v, v
		early.Mark.Round, early.Tok.Round = -1-v.Mark.Round, -1-v.Tok.Round
		late.Mark.Least, late.Tok.Least = v.M.Until+2+v.Mark.Least, v.M.Until+2+v.Tok.Least
		for _, w := range []meeting{early, late} {
			if impl.MrkOk(v.M, v.Mark) && impl.MrkOk(v.M, w.Mark) {
				t.Fatalf("%v is valid for %v", w.Mark, v.M)
			}
			if impl.TokOk(v.M, v.Tok) && impl.TokOk(v.M, w.Tok) {
				t.Fatalf("%v is valid for %v", w.Tok, v.M)
			}
		}
	}
}

func TestTokOkNextHostExists(t *testing.T) {
	for many := 1; many <= 4; many++ {
		for at := -2; at <= 6; at++ {
			want := at >= 0 && at < many
			v := someMeeting(plainModel(many, 20))
			v.Tok.At = at
			if impl.TokOk(v.M, v.Tok) != want || (v.visit() != refused) != want {
				t.Errorf("host %d of %d: not %v", at, many, want)
			}
		}
	}
}

func TestMarksAndTokensOfInvalidModels(t *testing.T) {
	for _, m := range badModels() {
		for _, v := range []meeting{{M: m}, {M: m, Tok: token{On: true}}, someMeeting(m)} {
			if impl.MrkOk(m, v.Mark) || impl.TokOk(m, v.Tok) {
				t.Errorf("%v is valid", v)
			}
			if got := v.visit(); got != refused {
				t.Errorf("%v: %v", v, got)
			}
		}
	}
}

// Promise 50.

func TestTokVisitOfManyMeetings(t *testing.T) {
	for _, v := range manyMeetings() {
		if got, want := v.visit(), visitByDefinition(v); got != want {
			t.Fatalf("%v: %v, not %v", v, got, want)
		}
	}
}

func TestTokVisitTakesOverThePreviousRound(t *testing.T) {
	for _, test := range []struct {
		tok  int
		mark int
		want outcome
	}{
		{8, 8, outcome{active(8, 1, 8, 4), counted(8, 2, 0, 4), -1}},
		{8, 7, outcome{active(8, 1, 8, 6), counted(8, 2, 0, 21), -1}},
		{7, 7, outcome{active(7, 1, 5, 4), counted(7, 0, 5, 4), -1}},
		{7, 6, outcome{active(7, 1, 5, 6), counted(7, 0, 5, 21), -1}},
		{1, 0, outcome{active(1, 1, 5, 6), counted(1, 0, 5, 21), -1}},
		{0, 0, outcome{active(0, 1, 8, 4), counted(0, 2, 0, 4), -1}},
		{999, 999, outcome{active(999, 1, 5, 4), counted(999, 0, 5, 4), -1}},
		{999, 998, outcome{active(999, 1, 5, 6), counted(999, 0, 5, 21), -1}},
	} {
		v := meeting{someModel(), active(test.tok, 0, 3, 6), counted(test.mark, 2, 5, 4), 7}
		if got := v.visit(); got != test.want {
			t.Errorf("rounds %d and %d: %v, not %v", test.tok, test.mark, got, test.want)
		}
	}
}

func TestTokVisitCountsOfAllSigns(t *testing.T) {
	counts := []int{-9999, -5, -1, 0, 1, 5, 9999}
	for _, even := range counts {
		for _, odd := range counts {
			for _, many := range []int{-29997, -4, 0, 4, 29997} {
				v := someMeeting(someModel())
				v.Tok.Many, v.Mark.Even, v.Mark.Odd = many, even, odd
				if got := v.visit(); got.Tok.Many != many+even || got.Mark.Even != 0 || got.Mark.Odd != odd {
					t.Errorf("%v: %v", v, got)
				}
				v.Tok.Round, v.Mark.Round = 8, 8
				if got := v.visit(); got.Tok.Many != many+odd || got.Mark.Even != even || got.Mark.Odd != 0 {
					t.Errorf("%v: %v", v, got)
				}
			}
		}
	}
}

func TestTokVisitCountLeavesItsRange(t *testing.T) {
	for _, test := range []struct {
		many  int
		count int
		fits  bool
	}{
		{39996, 0, true},
		{39996, 1, false},
		{39996, 9999, false},
		{39995, 1, true},
		{29997, 9999, true},
		{29998, 9999, false},
		{-39996, 0, true},
		{-39996, -1, false},
		{-39996, -9999, false},
		{-39995, -1, true},
		{-29997, -9999, true},
		{-29998, -9999, false},
		{-39996, 9999, true},
		{39996, -9999, true},
	} {
		for round := 7; round <= 8; round++ {
			for at := range 4 {
				v := meeting{plainModel(4, 20), active(round, at, test.many, 21), counted(round, 0, test.count, 21), 21}
				if round == 7 {
					v.Mark.Even, v.Mark.Odd = v.Mark.Odd, v.Mark.Even
				}
				want := outcome{active(round, (at+1)%4, test.many+test.count, 21), counted(round, 0, 0, 21), -1}
				got := v.visit()
				if got != want || impl.TokOk(v.M, got.Tok) != test.fits {
					t.Errorf("%v: %v, not %v", v, got, want)
				}
				v.Tok = got.Tok
				if (v.visit() != refused) != test.fits {
					t.Errorf("%v after that: %v", v, v.visit())
				}
			}
		}
	}
}

func TestTokVisitLeastTimestamps(t *testing.T) {
	for _, test := range []struct {
		tok   int
		least int
		mark  int
		same  int
		next  int
	}{
		{5, 6, 7, 5, 5},
		{6, 5, 7, 5, 5},
		{7, 6, 5, 5, 6},
		{6, 7, 5, 5, 6},
		{5, 5, 5, 5, 5},
		{0, 21, 21, 0, 0},
		{21, 0, 21, 0, 0},
		{21, 21, 0, 0, 21},
		{21, 21, 21, 21, 21},
		{20, 21, 19, 19, 20},
		{0, 0, 0, 0, 0},
	} {
		for at := range 3 {
			v := meeting{someModel(), active(9, at, 0, test.tok), counted(9, 0, 4, test.mark), test.least}
			checkLeast(t, v, test.same, test.mark)
			v.Mark.Round = 8
			checkLeast(t, v, test.next, 21)
		}
	}
}

// checkLeast fails unless the least timestamp after a visit in someModel, whose count is 0, and that of the mark are these.
func checkLeast(t *testing.T, v meeting, least, mark int) {
	t.Helper()
	got := v.visit()
	want := outcome{active(9, v.Tok.At+1, 0, least), counted(9, 0, 4, mark), -1}
	if v.Tok.At == 2 {
		want.Tok, want.Bound = ended(9, 0, 0, 21), least
	}
	if got != want {
		t.Errorf("%v: %v, not %v", v, got, want)
	}
}

func TestTokVisitLastHost(t *testing.T) {
	for many := 1; many <= 4; many++ {
		for round := 6; round <= 7; round++ {
			for _, total := range []int{-39996, -1, 0, 1, 39996} {
				for _, own := range []int{-9999, -1, 0, 1, 9999} {
					v := meeting{plainModel(many, 20), active(round, many-1, total-own, 13), counted(round, own, own, 12), 14}
					if !impl.TokOk(v.M, v.Tok) {
						continue
					}
					got := v.visit()
					if ends := total == 0; got.Tok != (token{On: !ends, Round: round, Many: total, Least: 21}) || (got.Bound == 12) != ends || (got.Bound == -1) == ends {
						t.Errorf("%v: %v", v, got)
					}
				}
			}
		}
	}
}

func TestTokVisitOnlyHost(t *testing.T) {
	for _, until := range []int{0, 20, 99} {
		m := plainModel(1, until)
		for _, least := range []int{0, until, until + 1} {
			v := meeting{m, token{On: true, Round: 1, Least: until + 1}, count{Even: 0, Odd: 3}, least}
			if got, want := v.visit(), (outcome{token{Round: 1, Least: until + 1}, counted(1, 0, 3, until+1), least}); got != want {
				t.Errorf("%v: %v, not %v", v, got, want)
			}
			v.Mark.Even = 2
			if got, want := v.visit(), (outcome{active(1, 0, 2, until+1), counted(1, 0, 3, until+1), -1}); got != want {
				t.Errorf("%v: %v, not %v", v, got, want)
			}
		}
	}
}

func TestTokVisitRounds(t *testing.T) {
	rounds := []int{0, 1, 2, 3, 4, 500, 501, 502, 996, 997, 998, 999}
	for _, tok := range rounds {
		for _, mark := range rounds {
			v := someMeeting(someModel())
			v.Tok.Round, v.Mark.Round = tok, mark
			got := v.visit()
			if want := tok == mark || tok == mark+1; (got != refused) != want || want && (got.Tok.Round != tok || got.Mark.Round != tok) {
				t.Errorf("rounds %d and %d: %v", tok, mark, got)
			}
		}
	}
}

func TestTokVisitRefusesNumbersBeyondTheirBounds(t *testing.T) {
	for _, m := range []model{someModel(), plainModel(1, 99), plainModel(4, 99)} {
		if someMeeting(m).visit() == refused {
			t.Fatalf("%v is refused", someMeeting(m))
		}
		parts := append(markParts(m), tokenParts(m)...)
		for _, p := range append(parts, part{"least", func(v *meeting) *int { return &v.Least }, 0, m.Until + 1}) {
			for _, n := range p.around() {
				v := someMeeting(m)
				*p.of(&v) = n
				// The rounds fit each other, so that only their own bounds decide.
				switch p.name {
				case "Round of the mark":
					v.Tok.Round = n
				case "Round of the token":
					v.Mark.Round = n
				}
				if want := inRange(n, p.low, p.high); (v.visit() != refused) != want {
					t.Errorf("%s %d of %v: %v", p.name, n, m, v.visit())
				}
			}
		}
	}
}

// Of rounds that fit each other, one may be beyond its bounds.
func TestTokVisitRefusesOneRoundBeyondItsBounds(t *testing.T) {
	for _, rounds := range [][2]int{{0, -1}, {1000, 999}, {math.MinInt, math.MaxInt}, {math.MaxInt, math.MinInt}} {
		v := someMeeting(someModel())
		v.Tok.Round, v.Mark.Round = rounds[0], rounds[1]
		if got := v.visit(); got != refused {
			t.Errorf("%v: %v", rounds, got)
		}
	}
}

func TestTokVisitRefusesTokensThatAreNotActive(t *testing.T) {
	for _, v := range manyMeetings() {
		v.Tok.On = false
		if got := v.visit(); got != refused {
			t.Fatalf("%v: %v", v, got)
		}
	}
	v := someMeeting(plainModel(1, 20))
	v.Tok.Many = -2
	last := v.visit()
	if last.Bound != 5 || last.Tok.On || !impl.TokOk(v.M, last.Tok) {
		t.Fatal(last)
	}
	v.Tok = last.Tok
	if got := v.visit(); got != refused {
		t.Fatal(got)
	}
}

func TestTokVisitGoesRound(t *testing.T) {
	d := &draw{at: 31}
	for _, m := range plainModels() {
		for range 300 {
			round := d.between(1, 999)
			marks := make([]count, len(m.Rules))
			for i := range marks {
				marks[i] = counted(round-d.below(2), d.between(-2, 2), d.between(-2, 2), d.below(m.Until+2))
			}
			checkLaps(t, d, m, round, marks)
		}
	}
}

// checkLaps lets a new token go round, and once more after the missing messages have come.
func checkLaps(t *testing.T, d *draw, m model, round int, marks []count) {
	t.Helper()
	tok := token{On: true, Round: round, Least: m.Until + 1}
	total, bound, floor := 0, -1, m.Until+1
	for lap := range 2 {
		floor = m.Until + 1
		for i, g := range marks {
			total += []int{g.Odd, g.Even}[round%2]
			least := d.below(m.Until + 2)
			floor = min(floor, least)
			if g.Round == round {
				floor = min(floor, g.Least)
			}
			if !tok.On || tok.At != i || bound != -1 {
				t.Fatalf("host %d of %v: %v %d", i, marks, tok, bound)
			}
			tok, marks[i], bound = impl.TokVisit(m, tok, g, least)
			if tok.Many != total || tok.Round != round || marks[i].Round != round {
				t.Fatalf("after host %d: %v, not %d", i, tok, total)
			}
		}
		if tok.At != 0 || tok.On == (total == 0) || (bound != -1) != (total == 0) || bound != -1 && bound != floor {
			t.Fatalf("lap %d of %v: %v %d, not %d", lap, marks, tok, bound, floor)
		}
		if total == 0 {
			return
		}
		late := &marks[d.below(len(marks))]
		late.Even, late.Odd = late.Even-total*(round%2), late.Odd-total*(1-round%2)
	}
	t.Fatalf("no bound after two laps: %v", tok)
}

func TestConstantsOfTokens(t *testing.T) {
	if impl.RndTop != 999 {
		t.Fatal(impl.RndTop)
	}
}

func TestTokensOwnTheirMemory(t *testing.T) {
	d := &draw{at: 41}
	for _, m := range append(badModels()[:4], someModel(), exampleModel(), plainModel(4, 99)) {
		list := []meeting{someMeeting(m), {M: m}}
		for range 30 {
			v := d.meeting(someModel())
			v.M = m
			list = append(list, v)
		}
		for _, v := range list {
			checkOwned(t, "MrkOk", v, func(v meeting) bool { return impl.MrkOk(v.M, v.Mark) })
			checkOwned(t, "TokOk", v, func(v meeting) bool { return impl.TokOk(v.M, v.Tok) })
			checkOwned(t, "TokVisit", v, meeting.visit)
		}
	}
}
