package own

import (
	"slices"
	"strings"
	"testing"

	"pipewright/api"
)

// P8.2: each act that can break a rule, where there is none of 0 ahead of it,
// where there is one, and where there may be; 1 is such that it breaks none.
func TestNotesOfEachAct(t *testing.T) {
	wants := map[string][3]int{
		"use":  {api.RuleGone, 0, api.RuleMaybe},
		"drop": {api.RuleGone, 0, api.RuleMaybe},
		"bind": {0, api.RuleKept, api.RuleKept},
		"over": {0, api.RuleLeft, api.RuleLeft},
	}
	for _, c := range []struct{ act, other, line string }{
		{"use", "1", "clone 1 0"}, {"use", "2", "send 0"}, {"use", "2", "give 0 1"}, {"use", "1", "take 1 0 :99"},
		{"use", "1", "take 9 0 :99"}, {"use", "3", "take 9 0 :99"}, {"use", "2", "clone -1 0"}, {"use", "3", "send 0 1"},
		{"drop", "2", "give 1 0"}, {"drop", "3", "give 9 0"}, {"drop", "3", "close 0 1"}, {"drop", "1", "abandon 0 1"},
		{"drop", "2", "drain 0 1"}, {"drop", "2", "spawn 0"}, {"drop", "2", "spawn 1 0"}, {"drop", "2", "spawn 0 1"},
		{"drop", "1", "spawn e1 0"}, {"drop", "3", "spawn 9 0 e1"},
		{"bind", "1", "chan 0 1"}, {"bind", "1", "chan 1 0"}, {"bind", "3", "chan 9 0"}, {"bind", "3", "chan 0 9"},
		{"bind", "2", "clone 0 1"}, {"bind", "3", "clone 0 9"}, {"bind", "2", "take 0 1 :99"}, {"bind", "2", "take 0 9 :99"},
		{"over", "1", "over 0"}, {"over", "2", "over 0 1"}, {"over", "3", "over 0 1"},
	} {
		for n, rule := range wants[c.act] {
			p, at := aheadOf(string(rune('1'+n))+c.other, c.line, "exit")
			var want []api.Note
			if rule != 0 {
				want = []api.Note{{Rule: rule, At: at, Var: 0}}
			}
			wantNotes(t, p, want...)
		}
	}
}

// P8.2: what does nothing to an end breaks nothing.
func TestNotesOfNoActs(t *testing.T) {
	for _, ahead := range []string{"11", "12", "13", "21", "22", "23", "31", "32", "33"} {
		for _, line := range []string{
			"let 0 1", "emit 0 1", "turns 0 1", "count 0 1 :99", "if 0 1 :99", "jump 0 1 :99", "exit 0 1", "none 0 1",
			"spawn", "spawn e0 e1", "spawn e0 2 -1", "send 2", "close 2", "close -1", "over 2", "chan 2 -1", "give 2 3",
			"take 2 3 :99", "clone 2 2", "drain 99", "abandon -5",
		} {
			p, _ := aheadOf(ahead, line, "exit")
			wantNotes(t, p)
		}
	}
	for _, op := range append(slices.Clone(wild), 0, 18) {
		p := code("si ri", 1, "let; exit")
		p.Ins[0] = api.Ins{Op: op, A: 0, B: 1, Args: []api.Arg{{V: 1}}}
		wantNotes(t, p)
	}
	// Numbers, and variables without a type.
	wantNotes(t, code("i -", 2, "over 0; close 1; close 1; chan 0 1; chan 0 1; spawn 0 0; give 0 1; take 0 0 :0; over 1; exit"))
}

// P8.2: nothing is told at the end of a Proc alone.
func TestNotesAtTheEnd(t *testing.T) {
	wantNotes(t, code("si ri", 2, "exit"))
	wantNotes(t, code("si ri", 2, "let"))
	wantNotes(t, code("si ri", 0, "chan 0 1"))
	wantNotes(t, code("si ri", 2, "jump :0"))
	wantNotes(t, code("si ri", 2, ""))
	wantNotes(t, api.Proc{})
	wantNotes(t, api.Proc{Params: 3})
	wantNotes(t, code("", 3, "chan 0 1; chan 0 1; close 0; over 1"))
}

// P8.2: the acts of one instruction, each seen behind those ahead of it.
func TestNotesBehindActsAhead(t *testing.T) {
	for _, c := range []struct {
		line             string
		none, one, maybe []int
	}{
		{"chan 0 0", []int{api.RuleKept}, []int{api.RuleKept, api.RuleKept}, []int{api.RuleKept, api.RuleKept}},
		{"clone 0 0", []int{api.RuleGone}, []int{api.RuleKept}, []int{api.RuleMaybe, api.RuleKept}},
		{"take 0 0 :99", []int{api.RuleGone}, []int{api.RuleKept}, []int{api.RuleMaybe, api.RuleKept}},
		{"give 0 0", []int{api.RuleGone, api.RuleGone}, nil, []int{api.RuleMaybe, api.RuleMaybe}},
		{"spawn 0 0", []int{api.RuleGone, api.RuleGone}, []int{api.RuleGone}, []int{api.RuleMaybe, api.RuleGone}},
		{"spawn 0 e0 9 0", []int{api.RuleGone, api.RuleGone}, []int{api.RuleGone}, []int{api.RuleMaybe, api.RuleGone}},
		{"spawn e0 0 e0", []int{api.RuleGone}, nil, []int{api.RuleMaybe}},
	} {
		for n, rules := range [][]int{c.none, c.one, c.maybe} {
			p, at := aheadOf(string(rune('1'+n)), c.line, "exit")
			var want []api.Note
			for _, rule := range rules {
				want = append(want, api.Note{Rule: rule, At: at})
			}
			wantNotes(t, p, want...)
		}
	}
	wantNotes(t, code("si", 1, "spawn 0 0 0; exit"), gone(0, 0), gone(0, 0))
	wantNotes(t, code("si ri", 2, "spawn 0 1 1 0; exit"), gone(0, 1), gone(0, 0))
	wantNotes(t, code("si ri", 2, "spawn 1 1 0 0 1; exit"), gone(0, 1), gone(0, 0), gone(0, 1))
	// Of another one nothing changes.
	wantNotes(t, code("si ri", 1, "spawn 0 1 0; exit"), gone(0, 1), gone(0, 0))
}

// P8.2: several rules broken at one instruction, in the order of its acts.
func TestNotesInTheOrderOfActs(t *testing.T) {
	wantNotes(t, code("si ri si", 3, "chan 2 0; exit"), kept(0, 2), kept(0, 0))
	wantNotes(t, code("si ri si", 3, "chan 0 2; exit"), kept(0, 0), kept(0, 2))
	wantNotes(t, code("si ri si", 1, "clone 0 2; exit"), gone(0, 2), kept(0, 0))
	wantNotes(t, code("si ri si", 1, "take 0 1 :1; exit"), gone(0, 1), kept(0, 0))
	wantNotes(t, code("si ri si", 0, "give 2 0; exit"), gone(0, 2), gone(0, 0))
	wantNotes(t, code("si ri si", 0, "give 0 2; exit"), gone(0, 0), gone(0, 2))
	wantNotes(t, code("si ri si", 0, "spawn 2 0 1; exit"), gone(0, 2), gone(0, 0), gone(0, 1))
	p, at := aheadOf("132", "spawn 1 0 2 1", "exit")
	wantNotes(t, p, maybe(at, 1), gone(at, 0), gone(at, 1))
	p, at = aheadOf("3231", "spawn 2 3 1 0", "exit")
	wantNotes(t, p, maybe(at, 2), gone(at, 3), maybe(at, 0))
	p, at = aheadOf("33", "clone 0 1", "exit")
	wantNotes(t, p, maybe(at, 1), kept(at, 0))
	// Variables that are far from one another.
	many := strings.Repeat("si ", 200)
	wantNotes(t, code(many, 0, "spawn 199 0 100 31 32 64 63; give 150 3; exit"),
		gone(0, 199), gone(0, 0), gone(0, 100), gone(0, 31), gone(0, 32), gone(0, 64), gone(0, 63), gone(1, 150), gone(1, 3))
	wantNotes(t, code(many, 200, "chan 150 3; clone 2 199; over 70; over 1; exit"),
		kept(0, 150), kept(0, 3), kept(1, 2), left(2, 70), left(3, 1))
}

// P8.2: by instructions, as they stand, not as they are come to.
func TestNotesByInstructions(t *testing.T) {
	wantNotes(t, code("si ri", 0, "jump :3; close 0; exit; drain 1; jump :1"), gone(1, 0), gone(3, 1))
	wantNotes(t, code("si ri", 2, "jump :4; over 1; over 0; exit; chan 1 1; jump :1"),
		left(1, 1), left(2, 0), kept(4, 1), kept(4, 1))
}

// P8.2: what follows a rule that is broken is as if nothing had been broken.
func TestNotesGoOn(t *testing.T) {
	// A use leaves it, again and again.
	wantNotes(t, code("si ri", 0, "send 0; send 0; close 0; over 0; exit"), gone(0, 0), gone(1, 0), gone(2, 0))
	// Behind a drop there is none, also where there was none.
	wantNotes(t, code("si ri", 1, "close 0; close 0; close 0; over 0; exit"), gone(1, 0), gone(2, 0))
	wantNotes(t, code("si ri", 1, "close 0; close 0; chan 0 1; close 0; drain 1; over 0; exit"), gone(1, 0))
	// Behind a bind there is one, also where there was one.
	wantNotes(t, code("si ri", 0, "chan 0 1; chan 0 1; send 0; close 0; drain 1; over 0; over 1; exit"), kept(1, 0), kept(1, 1))
	wantNotes(t, code("si ri", 0, "chan 0 1; chan 0 1; over 0; over 1; exit"), kept(1, 0), kept(1, 1), left(2, 0), left(3, 1))
	// Behind an over there is none, also where there was one.
	wantNotes(t, code("si ri", 1, "over 0; over 0; close 0; exit"), left(0, 0), gone(2, 0))
	wantNotes(t, code("si ri", 1, "over 0; chan 0 1; exit"), left(0, 0))
	// Where there may be one: a use leaves that, too; all others don't.
	wantNotes(t, code("si", 1, "if :2; close 0; send 0; send 0; close 0; close 0; over 0; exit"), maybe(2, 0), maybe(3, 0), maybe(4, 0), gone(5, 0))
	wantNotes(t, code("si", 1, "if :2; close 0; chan 0 9; send 0; close 0; exit"), kept(2, 0))
	wantNotes(t, code("si", 1, "if :2; close 0; over 0; over 0; send 0; exit"), left(2, 0), gone(4, 0))
	// What was broken on one way counts on the others, too.
	wantNotes(t, code("si", 0, "if :3; close 0; jump :4; chan 0 9; close 0; exit"), gone(1, 0), maybe(4, 0))
}

// P8.2: nothing is told where no way comes.
func TestNotesWhereNoWayComes(t *testing.T) {
	wantNotes(t, code("si ri", 1, "jump :2; close 1; exit"))
	wantNotes(t, code("si ri", 1, "exit; send 1; close 1; chan 0 1; chan 0 0; over 0; over 1; spawn 0 0 1 1; clone 0 0; give 1 1; take 0 0 :0"))
	wantNotes(t, code("si ri", 1, "jump :0; chan 0 0; spawn 1 1; jump :1"))
	wantNotes(t, code("si ri", 1, "close 0; jump :9; close 0; over 0"))
	wantNotes(t, code("si ri", 1, "close 0; jump :3; close 0; close 0"), gone(3, 0))
	// Out of there nothing comes either.
	wantNotes(t, code("si ri", 1, "jump :3; close 0; let; close 0; exit"))
	wantNotes(t, code("si ri", 1, "jump :3; chan 1 1; jump :3; chan 1 9; exit"))
}

// P8.2: InTake: its bind is seen, and holds on the way to the next one alone.
func TestNotesOfTake(t *testing.T) {
	// On the way to To nothing is bound.
	wantNotes(t, code("ri rri", 0, "chan 1 9; take 0 1 :4; drain 0; jump :4; drain 1; exit"))
	wantNotes(t, code("ri rri", 0, "chan 1 9; take 0 1 :4; drain 0; jump :4; drain 0; exit"), gone(4, 0))
	wantNotes(t, code("ri rri", 0, "chan 1 9; take 0 1 :3; jump :3; drain 0; exit"), maybe(3, 0))
	wantNotes(t, code("ri rri", 0, "chan 1 9; take 0 1 :3; jump :3; over 0; exit"), left(3, 0))
	// A loop: what is bound anew is kept, if it was not dropped.
	wantNotes(t, code("ri rri", 0, "chan 1 9; take 0 1 :4; drain 0; jump :1; drain 1; exit"))
	wantNotes(t, code("ri rri", 0, "chan 1 9; take 0 1 :3; jump :1; drain 1; exit"), kept(1, 0))
	wantNotes(t, code("ri rri", 0, "chan 1 9; take 0 1 :5; if :4; drain 0; jump :1; drain 1; exit"), kept(1, 0))
	wantNotes(t, code("ri rri", 1, "chan 1 9; take 0 1 :2; exit"), kept(1, 0))
	// It goes on to the next one, wherever To is.
	wantNotes(t, code("ri rri", 0, "chan 1 9; take 0 1 :2; drain 0; exit"))
	wantNotes(t, code("ri rri", 0, "chan 1 9; take 0 1 :2; over 0; exit"), left(2, 0))
	wantNotes(t, code("ri rri", 0, "chan 1 9; take 0 1 :1; drain 0; exit"))
	wantNotes(t, code("ri rri", 0, "chan 1 9; take 0 1 :-1; drain 0; exit"))
	wantNotes(t, code("ri rri", 0, "chan 1 9; take 0 1 :0; drain 0; exit"), kept(0, 1))
	// The act is seen where there is no next one, too.
	wantNotes(t, code("ri rri", 2, "take 0 1 :0"), kept(0, 0))
	wantNotes(t, code("ri rri", 0, "take 0 1 :0"), gone(0, 1))
	// A number is taken.
	wantNotes(t, code("i ri", 2, "take 0 1 :0; take 0 1 :0; drain 1; take 0 1 :4; exit"), gone(3, 1))
}

// P8.2: Params below 0 and above the number of variables.
func TestNotesByParams(t *testing.T) {
	for _, n := range append(slices.Clone(wild), 0, 1, 2, 3) {
		p := code("si ri", n, "close 0; over 1; exit")
		var want []api.Note
		if n < 1 {
			want = append(want, gone(0, 0))
		}
		if n > 1 {
			want = append(want, left(1, 1))
		}
		wantNotes(t, p, want...)
	}
}

// P8.2: the chapter's example, and DOC.md's.
func TestExamples(t *testing.T) {
	// in s r: 0 chan 1 if 2 close 3 jump 4 close 5 drain 6 over 7 over 8 over 9 exit
	wantNotes(t, lowered(t, "chan s r int 1; if 1 { close s; } close s; drain in;"), maybe(4, 1), left(7, 2))
	wantNotes(t, lowered(t, "chan s r int 1; if 1 { close s; } close s;"), maybe(4, 1), left(6, 2), left(7, 0))
	wantNotes(t, lowered(t, "chan s r int 1; close s; close s; drain r; drain in;"), gone(2, 1))
	wantNotes(t, lowered(t, "chan s r int 1; for x from in { send s x; } close s; drain r; drain in;"))
}

// P8.2: code out of programs, fine and wrong.
func TestNotesOfPrograms(t *testing.T) {
	for _, fine := range []string{
		"drain in;",
		"abandon in;",
		"for x from in { emit x; } drain in;",
		"take x from in { emit x; } else { emit 0; } drain in;",
		"if 1 { drain in; } else { abandon in; }",
		"chan s r int 1; clone t s; spawn two(s, t); drain r; drain in;",
		"chan s r send int 2; chan a b int 1; send s a; for x from r { close x; } close s; drain r; drain b; drain in;",
		"chan s r recv int 1; send s in; close s; take x from r { drain x; } drain r;",
		"repeat 3 { chan s r int 1; close s; drain r; } drain in;",
	} {
		wantNotes(t, lowered(t, fine))
	}
	// in: 0 drain 1 take 2 jump 3 over 4 exit
	wantNotes(t, lowered(t, "drain in; for x from in { }"), gone(1, 0))
	wantNotes(t, lowered(t, ""), left(0, 0))
	wantNotes(t, lowered(t, "chan s r int 1; spawn two(s, s); drain r; drain in;"), gone(1, 1))
	wantNotes(t, lowered(t, "repeat 2 { drain in; }"), maybe(2, 0), left(4, 0))
	wantNotes(t, lowered(t, "for x from in { drain in; }"), maybe(0, 0), maybe(1, 0), left(3, 0))
	// in s r a b x: 0 chan 1 chan 2 give 3 take 4 over x 5 jump 6 close s 7 drain r 8 drain b 9 drain in
	wantNotes(t, lowered(t, "chan s r send int 2; chan a b int 1; send s a; for x from r { } close s; drain r; drain b; drain in;"), left(4, 5))
	wantNotes(t, lowered(t, "chan s r send int 2; chan a b int 1; send s a; send s a; close s; drain r; drain b; drain in;"), gone(3, 3))
}
