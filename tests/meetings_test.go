package tests

import (
	"math"
	"testing"

	"loop.example/turnback/impl"
)

type (
	count = impl.GvtMark
	token = impl.GvtTok
)

// meeting is a token that visits a host, which has a mark and a least timestamp.
type meeting struct {
	M     model
	Tok   token
	Mark  count
	Least int
}

// outcome is what a visit results in.
type outcome struct {
	Tok   token
	Mark  count
	Bound int
}

// refused is the outcome of an invalid visit.
var refused = outcome{Bound: -1}

func active(round, at, many, least int) token {
	return token{On: true, Round: round, At: at, Many: many, Least: least}
}

func ended(round, at, many, least int) token {
	return token{Round: round, At: at, Many: many, Least: least}
}

func counted(round, even, odd, least int) count {
	return count{Round: round, Even: even, Odd: odd, Least: least}
}

func (v meeting) visit() outcome {
	tok, g, bound := impl.TokVisit(v.M, v.Tok, v.Mark, v.Least)
	return outcome{tok, g, bound}
}

// inRange says whether n is in low..high.
func inRange(n, low, high int) bool {
	return n >= low && n <= high
}

// markByDefinition is MrkOk as the document describes it.
func markByDefinition(m model, g count) bool {
	return impl.MdlOk(m) && inRange(g.Round, 0, 999) && inRange(g.Least, 0, m.Until+1) &&
		inRange(g.Even, -9999, 9999) && inRange(g.Odd, -9999, 9999)
}

// tokenByDefinition is TokOk as the document describes it.
func tokenByDefinition(m model, k token) bool {
	return impl.MdlOk(m) && inRange(k.Round, 0, 999) && inRange(k.Least, 0, m.Until+1) &&
		inRange(k.At, 0, len(m.Rules)-1) && inRange(k.Many, -4*9999, 4*9999)
}

// visitByDefinition is TokVisit as the document describes it.
func visitByDefinition(v meeting) outcome {
	k, g, end := v.Tok, v.Mark, v.M.Until+1
	switch {
	case !tokenByDefinition(v.M, k), !markByDefinition(v.M, g), !k.On, !inRange(v.Least, 0, end):
		return refused
	case k.Round != g.Round && k.Round != g.Round+1:
		return refused
	}
	return moveByDefinition(v)
}

// moveByDefinition is what a visit does, whether it is valid or not.
func moveByDefinition(v meeting) outcome {
	k, g, end := v.Tok, v.Mark, v.M.Until+1
	if g.Round < k.Round {
		g.Round, g.Least = k.Round, end
	}
	if k.Round%2 == 1 {
		k.Many, g.Even = k.Many+g.Even, 0
	} else {
		k.Many, g.Odd = k.Many+g.Odd, 0
	}
	k.Least = min(k.Least, v.Least, g.Least)
	if k.At < len(v.M.Rules)-1 {
		k.At++
		return outcome{k, g, -1}
	}
	bound := -1
	if k.Many == 0 {
		k.On, bound = false, k.Least
	}
	k.At, k.Least = 0, end
	return outcome{k, g, bound}
}

// plainModel has no rules and no external events.
func plainModel(many, until int) model {
	return model{Rules: make([][]rule, many), Until: until}
}

// plainModels have every number of components, and ends from the least to the greatest one.
func plainModels() []model {
	var list []model
	for many := 1; many <= impl.CmpMost; many++ {
		for _, until := range []int{0, 1, 20, 98, 99} {
			list = append(list, plainModel(many, until))
		}
	}
	return list
}

// part names a number in a meeting, how to reach it, and its bounds.
type part struct {
	name string
	of   func(*meeting) *int
	low  int
	high int
}

// around are the bounds of a part, and numbers beyond them.
func (p part) around() []int {
	return []int{math.MinInt, p.low - 1, p.low, p.high, p.high + 1, math.MaxInt}
}

func markParts(m model) []part {
	return []part{
		{"Round of the mark", func(v *meeting) *int { return &v.Mark.Round }, 0, 999},
		{"Even", func(v *meeting) *int { return &v.Mark.Even }, -9999, 9999},
		{"Odd", func(v *meeting) *int { return &v.Mark.Odd }, -9999, 9999},
		{"Least of the mark", func(v *meeting) *int { return &v.Mark.Least }, 0, m.Until + 1},
	}
}

func tokenParts(m model) []part {
	return []part{
		{"Round of the token", func(v *meeting) *int { return &v.Tok.Round }, 0, 999},
		{"At", func(v *meeting) *int { return &v.Tok.At }, 0, len(m.Rules) - 1},
		{"Many", func(v *meeting) *int { return &v.Tok.Many }, -39996, 39996},
		{"Least of the token", func(v *meeting) *int { return &v.Tok.Least }, 0, m.Until + 1},
	}
}

// corners are copies of a meeting in which each of these parts is at its least or at its greatest value.
func corners(v meeting, parts []part) []meeting {
	var list []meeting
	for bits := range 1 << len(parts) {
		w := v
		for i, p := range parts {
			*p.of(&w) = p.low
			if bits>>i&1 == 1 {
				*p.of(&w) = p.high
			}
		}
		list = append(list, w)
	}
	return list
}

// someMeeting is valid for every model with an end of at least 6; its host has sent since the token came by.
func someMeeting(m model) meeting {
	return meeting{
		M:     m,
		Tok:   active(7, 0, 3, 5),
		Mark:  counted(7, 2, -5, 6),
		Least: 7,
	}
}

// near is a number in low..high, as often as not one of these; now and then one beyond.
func (d *draw) near(low, high int) int {
	switch n := d.below(60); {
	case n == 0:
		return low - 1
	case n == 1:
		return high + 1
	case n < 15:
		return low
	case n < 30:
		return high
	}
	return d.between(low, high)
}

// meeting makes a visit in the model, most often a valid one.
func (d *draw) meeting(m model) meeting {
	v := meeting{M: m, Least: d.near(0, m.Until+1)}
	for _, p := range append(markParts(m), tokenParts(m)...) {
		*p.of(&v) = d.near(p.low, p.high)
	}
	v.Tok.On = d.below(20) > 0
	if d.below(20) > 0 {
		v.Mark.Round = max(0, v.Tok.Round-d.below(2))
	}
	if d.below(3) == 0 {
		v.Tok.At = len(m.Rules) - 1
	}
	// Totals of 0 would be rare.
	switch d.below(4) {
	case 0:
		v.Tok.Many, v.Mark.Even = -v.Mark.Odd, v.Mark.Odd
	case 1:
		v.Tok.Many, v.Mark.Even, v.Mark.Odd = 0, 0, 0
	}
	return v
}

// manyMeetings are visits in models of all sizes.
func manyMeetings() []meeting {
	d := &draw{at: 23}
	var list []meeting
	for _, m := range append(plainModels(), someModel(), exampleModel()) {
		for range 1500 {
			list = append(list, d.meeting(m))
		}
	}
	return list
}

func TestManyMeetingsAreVaried(t *testing.T) {
	var invalid, onWay, bound, waits, beyond int
	for _, v := range manyMeetings() {
		switch got := visitByDefinition(v); {
		case got == refused:
			invalid++
		case got.Bound >= 0:
			bound++
		case got.Tok.At > 0:
			onWay++
		default:
			waits++
			if !tokenByDefinition(v.M, got.Tok) {
				beyond++
			}
		}
	}
	if invalid < 5000 || onWay < 3000 || bound < 3000 || waits < 3000 || beyond < 300 {
		t.Fatalf("%d invalid, %d on the way, %d with a bound, %d without, of which %d are beyond", invalid, onWay, bound, waits, beyond)
	}
}
