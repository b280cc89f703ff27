package tests

import (
	"fmt"
	"math"
	"slices"
	"strconv"
	"strings"
	"testing"

	"loop.example/turnback/impl"
)

// textByDefinition is DskText as the document describes it.
func textByDefinition(a action) string {
	numbered := a.At >= 0 && a.At <= 999
	switch {
	case a.Kind == 1 && numbered:
		return fmt.Sprintf("do %d", a.At)
	case a.Kind == 2 && numbered:
		return fmt.Sprintf("hear %d", a.At)
	case a.Kind == 3 && a.At == 0:
		return "begin"
	case a.Kind == 4 && a.At == 0:
		return "visit"
	case a.Kind == 5 && numbered:
		return fmt.Sprintf("free %d", a.At)
	}
	return ""
}

// actionLines are all lines that are actions.
func actionLines() map[string]action {
	lines := map[string]action{"begin": beginning, "visit": visiting}
	for n := range 1000 {
		lines["do "+strconv.Itoa(n)] = doing(n)
		lines["hear "+strconv.Itoa(n)] = hearing(n)
		lines["free "+strconv.Itoa(n)] = freeing(n)
	}
	return lines
}

// textByRecord is RecText as the document describes it.
func textByRecord(r record) string {
	e := r.Ev
	if !inRange(e.T, 0, 99) || !inRange(e.To, 0, 3) || !inRange(e.From, -1, 3) || !inRange(e.Seq, 0, 11) ||
		!inRange(e.Kind, 0, 2) || !inRange(e.Data, 0, 96) || !inRange(r.S, 0, 96) {
		return ""
	}
	from := "-"
	if e.From >= 0 {
		from = strconv.Itoa(e.From)
	}
	return fmt.Sprintf("at %d to %d from %s kind %d data %d then %d", e.T, e.To, from, e.Kind, e.Data, r.S)
}

// checkRead fails unless a line is this action, or none.
func checkRead(t *testing.T, s string, want action, ok bool) {
	t.Helper()
	if got, read := impl.DskRead(s); got != want || read != ok {
		t.Errorf("%q is %v, %v, not %v, %v", s, got, read, want, ok)
	}
}

// Actions.

func TestActionsAsLines(t *testing.T) {
	for s, a := range map[string]action{
		"do 0": doing(0), "do 9": doing(9), "do 10": doing(10), "do 99": doing(99), "do 100": doing(100), "do 999": doing(999),
		"hear 0": hearing(0), "hear 9": hearing(9), "hear 10": hearing(10), "hear 99": hearing(99), "hear 100": hearing(100), "hear 999": hearing(999),
		"free 0": freeing(0), "free 9": freeing(9), "free 10": freeing(10), "free 99": freeing(99), "free 100": freeing(100), "free 999": freeing(999),
		"begin": beginning, "visit": visiting,
	} {
		if got := impl.DskText(a); got != s {
			t.Errorf("%v is %q, not %q", a, got, s)
		}
		checkRead(t, s, a, true)
	}
}

// manyKinds are all kinds of actions, and others, also those that would be kinds of other lines.
func manyKinds() []int {
	list := []int{math.MinInt, math.MaxInt, 1 << 32, 1<<32 + 1}
	for kind := -20; kind <= 20; kind++ {
		list = append(list, kind)
	}
	return list
}

func TestDskTextOfAllActions(t *testing.T) {
	texts := 0
	for _, kind := range manyKinds() {
		ats := []int{math.MinInt, math.MaxInt, 1 << 32, 1<<32 + 1}
		for at := -1001; at <= 2000; at++ {
			ats = append(ats, at)
		}
		for _, at := range ats {
			a := action{Kind: kind, At: at}
			got := impl.DskText(a)
			if got != textByDefinition(a) {
				t.Fatalf("%v is %q, not %q", a, got, textByDefinition(a))
			}
			if got != "" {
				texts++
			}
		}
	}
	if texts != 3002 {
		t.Fatalf("%d actions have a text", texts)
	}
}

func TestInvalidActionsHaveNoText(t *testing.T) {
	for _, a := range []action{
		{}, {At: 1}, {Kind: -1}, {Kind: 6}, {Kind: 6, At: 3}, {Kind: math.MinInt}, {Kind: math.MaxInt},
		doing(-1), doing(1000), hearing(-1), hearing(1000), freeing(-1), freeing(1000),
		doing(math.MinInt), hearing(math.MaxInt), freeing(math.MinInt),
		{Kind: impl.ActBegin, At: 1}, {Kind: impl.ActBegin, At: -1}, {Kind: impl.ActBegin, At: 999},
		{Kind: impl.ActVisit, At: 1}, {Kind: impl.ActVisit, At: -1}, {Kind: impl.ActVisit, At: math.MaxInt},
	} {
		if got := impl.DskText(a); got != "" {
			t.Errorf("%v is %q", a, got)
		}
	}
}

// strayLines are no actions.
func strayLines() []string {
	list := []string{
		"", " ", "  ", "\n", "\x00", "0", "7", "-", "halt", "stop 1", "d", "o 1",
		// Leading zeros, signs, and other ways to write numbers.
		"do 00", "do 01", "do 007", "hear 000", "hear 0999", "free 010", "free 00000000000000000000000000000001",
		"do +0", "do +5", "hear +999", "do -0", "do -1", "hear -5", "free -999", "do --1", "do 1-", "do 1+",
		"do 0x1", "do 0b1", "do 0o7", "do 1e2", "do 1.0", "do 1.", "do .5", "do 1_0", "do 1,0", "do a", "do 1a", "do a1", "do one", "do #", "do %d", "do ١", "do ５", "do ²", "hear ⅷ",
		// Numbers beyond the range.
		"do 1000", "hear 1000", "free 1000", "do 1001", "do 9999", "hear 10000", "free 65536", "do 4294967296", "do 4294967297",
		"do 9223372036854775807", "do 9223372036854775808", "do 18446744073709551616", "do 18446744073709551617", "hear -9223372036854775808", "free -9223372036854775809",
		"do " + strings.Repeat("9", 400), "hear 1" + strings.Repeat("0", 400), "free " + strings.Repeat("0", 5000), "do " + strings.Repeat("0", 400) + "1", "do -" + strings.Repeat("9", 400),
		// A number too many, or missing.
		"do", "hear", "free", "do ", "hear ", "free ", "do 1 2", "do 1 ", "hear 1 1", "free 0 0", "do 1 begin", "begin 0", "begin 1", "visit 0", "visit 5", "begin begin", "begin visit", "do do 1", "do do",
		// Spaces.
		"do  1", "hear  0", " do 1", " begin", "begin ", "visit ", " visit", "  visit", "do 1  ", "do1", "do0", "hear12", "be gin", "do 1 0", "d o 1",
		"do\t1", "do\u00a01", "do\u20031", "do\u200b1", "do\n1", "\tdo 1", "do 1\n", "do 1\r", "do 1\r\n", "do 1\t", "begin\n", "begin\x00", "do 1\x00", "do\x001", "\x00do 1", "\ufeffdo 1", "begin\nvisit", "do 1\ndo 2",
		// Capital letters, and letters that look alike.
		"Do 1", "DO 1", "dO 1", "HEAR 0", "Hear 0", "FREE 2", "Begin", "BEGIN", "VISIT", "Visit", "dо 1", "ｄｏ 1", "begın",
		// Bytes that are no UTF-8.
		"\xff", "do \xff", "do 1\xff", "\xffdo 1", "do\xc01", "do \xc0\xb1", "begin\x80", "\xe2\x82", "vis\xfft", "free \xed\xa0\x80",
		// Parts of actions, and more than one.
		"b", "begi", "beginn", "visi", "visits", "ddo 1", "do, 1", "do:1", "do=1", "do-1", "do_1", "do #1", "hears 1", "frees 1", "undo 1", "\"do 1\"", "do 1;", "do 1, do 2",
		// Other lines of the text interface.
		"line 1", "model", "long", "bound 0 on its way 1", "host 0 done 1 waits 1 called off 0 kept 0", "at 1 to 0 from - kind 0 data 5 then 6", "at 0", "bound 0", "host 0", "line #", "do #", "act 1", "calm 1",
	}
	return append(list, strings.Repeat(" ", 300), strings.Repeat("do 1 ", 100), "do"+strings.Repeat(" ", 300)+"1", strings.Repeat("begin", 2000))
}

func TestDskReadRefusesStrayLines(t *testing.T) {
	lines := actionLines()
	for _, s := range strayLines() {
		if _, found := lines[s]; found {
			t.Fatalf("%q is an action", s)
		}
		checkRead(t, s, action{}, false)
	}
}

// Every line that differs by one byte from an action is another action, or none.
func TestDskReadOfLinesNearby(t *testing.T) {
	lines := actionLines()
	check := func(s string) {
		want, ok := lines[s]
		if got, read := impl.DskRead(s); got != want || read != ok {
			t.Fatalf("%q is %v, %v, not %v, %v", s, got, read, want, ok)
		}
	}
	for _, s := range []string{"begin", "visit", "do 0", "do 1", "do 10", "do 999", "hear 0", "hear 99", "hear 100", "free 0", "free 19", "free 909"} {
		for at := range len(s) + 1 {
			for b := range 256 {
				check(s[:at] + string([]byte{byte(b)}) + s[at:])
				if at < len(s) {
					check(s[:at] + string([]byte{byte(b)}) + s[at+1:])
				}
			}
			check(s[:at])
			check(s[at:])
			for end := at; end <= len(s); end++ {
				check(s[:at] + s[end:])
				check(s[:at] + s[at:end] + s[at:])
			}
		}
	}
}

// Words, numbers and spaces in any order.
func TestDskReadOfDrawnLines(t *testing.T) {
	d := &draw{at: 179}
	lines := actionLines()
	words := []string{"do", "hear", "free", "begin", "visit", " ", " ", " ", "0", "1", "9", "10", "99", "999", "1000", "-", "+", "DO", "\t", "\xff"}
	counts := map[bool]int{}
	for range 100000 {
		s := ""
		for range d.between(1, 4) {
			s += words[d.below(len(words))]
		}
		want, ok := lines[s]
		if counts[ok]++; ok && want == (action{}) {
			t.Fatal(s)
		}
		checkRead(t, s, want, ok)
	}
	if counts[true] < 1000 || counts[false] < 1000 {
		t.Fatal(counts)
	}
}

// Promise 65.

func TestActionLinesCanBeReadBack(t *testing.T) {
	for _, kind := range manyKinds() {
		for at := -3; at <= 1003; at++ {
			a := action{Kind: kind, At: at}
			if s := impl.DskText(a); s != "" {
				checkRead(t, s, a, true)
			}
		}
	}
	read := 0
	lines := strayLines()
	for s := range actionLines() {
		lines = append(lines, s, s+" ", "0"+s, strings.ToUpper(s), strings.Replace(s, " ", " 0", 1), strings.Replace(s, " ", "  ", 1))
	}
	for _, s := range lines {
		if a, ok := impl.DskRead(s); ok {
			if read++; impl.DskText(a) != s || s == "" {
				t.Errorf("%q is %v, which is %q", s, a, impl.DskText(a))
			}
		}
	}
	// Behind a space in "begin" and "visit" there is nothing to be changed, so that they are read three times each.
	if read != 3002+2*2 {
		t.Errorf("%d lines are actions", read)
	}
}

// Records.

func TestRecordsAsLines(t *testing.T) {
	for s, r := range map[string]record{
		"at 0 to 0 from - kind 0 data 0 then 0":    {Ev: event{From: -1}},
		"at 0 to 0 from 0 kind 0 data 0 then 0":    {},
		"at 99 to 3 from 3 kind 2 data 96 then 96": {Ev: event{T: 99, To: 3, From: 3, Seq: 11, Kind: 2, Data: 96}, S: 96},
		"at 99 to 3 from - kind 2 data 96 then 0":  {Ev: event{T: 99, To: 3, From: -1, Seq: 11, Kind: 2, Data: 96}},
		"at 10 to 1 from 2 kind 1 data 9 then 10":  {Ev: event{T: 10, To: 1, From: 2, Seq: 5, Kind: 1, Data: 9}, S: 10},
		"at 9 to 2 from 1 kind 0 data 10 then 9":   {Ev: event{T: 9, To: 2, From: 1, Data: 10}, S: 9},
		"at 1 to 2 from 3 kind 0 data 4 then 5":    {Ev: event{T: 1, To: 2, From: 3, Seq: 7, Data: 4}, S: 5},
		"at 50 to 0 from 0 kind 2 data 30 then 40": {Ev: event{T: 50, Kind: 2, Data: 30}, S: 40},
	} {
		if got := impl.RecText(r); got != s {
			t.Errorf("%v is %q, not %q", r, got, s)
		}
	}
}

func TestRecordsOfTheExample(t *testing.T) {
	var got []string
	for _, r := range impl.SeqAll(exampleModel()).Log {
		got = append(got, impl.RecText(r))
	}
	checkLines(t, "the example", got,
		"at 0 to 0 from - kind 0 data 0 then 1",
		"at 3 to 1 from 0 kind 0 data 1 then 1",
		"at 5 to 0 from 1 kind 0 data 1 then 2",
		"at 8 to 1 from 0 kind 0 data 2 then 2",
		"at 10 to 0 from 1 kind 0 data 2 then 3")
}

// someRecords are valid for RecText.
func someRecords() []record {
	return []record{
		{},
		{Ev: event{From: -1}},
		{Ev: event{T: 3, To: 1, From: -1, Seq: 2, Kind: 1, Data: 40}, S: 7},
		{Ev: event{T: 42, To: 2, From: 0, Seq: 10, Kind: 1, Data: 1}, S: 95},
		{Ev: event{T: 99, To: 3, From: 3, Seq: 11, Kind: 2, Data: 96}, S: 96},
	}
}

// recordsNearby are records with one field changed, to all values in and around its range.
func recordsNearby(r record) []record {
	list := []record{r}
	far := []int{math.MinInt, math.MinInt32, -1 << 16, -256, 256, 1 << 16, math.MaxInt32, 1 << 32, math.MaxInt}
	for n := -3; n <= 102; n++ {
		far = append(far, n)
	}
	for _, n := range far {
		for _, f := range fields() {
			list = append(list, record{Ev: with(r.Ev, f, n), S: r.S})
		}
		list = append(list, record{Ev: r.Ev, S: n})
	}
	return list
}

func TestRecTextIsAsDefined(t *testing.T) {
	counts := map[bool]int{}
	for _, r := range someRecords() {
		for _, x := range recordsNearby(r) {
			want := textByRecord(x)
			if counts[want != ""]++; impl.RecText(x) != want {
				t.Fatalf("%v is %q, not %q", x, impl.RecText(x), want)
			}
		}
	}
	d := &draw{at: 181}
	for range 20000 {
		x := record{Ev: event{T: d.near(0, 99), To: d.near(0, 3), From: d.near(-1, 3), Seq: d.near(0, 11), Kind: d.near(0, 2), Data: d.near(0, 96)}, S: d.near(0, 96)}
		want := textByRecord(x)
		if counts[want != ""]++; impl.RecText(x) != want {
			t.Fatalf("%v is %q, not %q", x, impl.RecText(x), want)
		}
	}
	if counts[true] < 1000 || counts[false] < 1000 {
		t.Fatal(counts)
	}
}

func TestInvalidRecordsHaveNoText(t *testing.T) {
	for _, r := range someRecords() {
		for _, f := range fields() {
			for _, n := range []int{math.MinInt, f.low - 1, f.high + 1, math.MaxInt} {
				if got := impl.RecText(record{Ev: with(r.Ev, f, n), S: r.S}); got != "" {
					t.Errorf("%s is %d: %q", f.name, n, got)
				}
			}
		}
		for _, n := range []int{math.MinInt, -1, 97, math.MaxInt} {
			if got := impl.RecText(record{Ev: r.Ev, S: n}); got != "" {
				t.Errorf("S is %d: %q", n, got)
			}
		}
	}
}

// Promise 66.

// numbersOf reads the numbers of a record's text.
func numbersOf(t *testing.T, s string) []int {
	t.Helper()
	words := strings.Split(s, " ")
	var list []int
	for i, w := range words {
		if i%2 == 0 {
			continue
		}
		n, err := strconv.Atoi(w)
		if w == "-" && words[i-1] == "from" {
			n, err = -1, nil
		}
		if err != nil {
			t.Fatalf("%q in %q is no number", w, s)
		}
		list = append(list, n)
	}
	return list
}

func TestRecordTextsTellAllButSeq(t *testing.T) {
	texts := map[string]record{}
	records := 0
	for _, at := range []int{0, 1, 9, 10, 99} {
		for i := range 4 * 5 * 3 {
			for _, data := range []int{0, 1, 9, 10, 96} {
				for _, s := range []int{0, 1, 19, 96} {
					e := event{T: at, To: i % 4, From: i/4%5 - 1, Kind: i / 20, Data: data}
					r := record{Ev: e, S: s}
					text := impl.RecText(r)
					if other, found := texts[text]; found || text == "" {
						t.Fatalf("%v is %q, like %v", r, text, other)
					}
					texts[text] = r
					records++
					if got, want := numbersOf(t, text), []int{e.T, e.To, e.From, e.Kind, e.Data, s}; !slices.Equal(got, want) {
						t.Fatalf("%q tells %v, not %v", text, got, want)
					}
					for seq := range 12 {
						r.Ev.Seq = seq
						if got := impl.RecText(r); got != text {
							t.Fatalf("%v is %q, not %q", r, got, text)
						}
					}
					for _, seq := range []int{-1, 12} {
						r.Ev.Seq = seq
						if got := impl.RecText(r); got != "" {
							t.Fatalf("%v is %q", r, got)
						}
					}
				}
			}
		}
	}
	if len(texts) != records || records != 6000 {
		t.Fatalf("%d texts of %d records", len(texts), records)
	}
}
