package own

import (
	"math"
	"slices"
	"strings"
	"testing"

	"pipewright/api"
)

// P8.1: at the first instruction there are ends for the parameters, and none
// for the others; what is no end is 0, as a parameter, too.
func TestStatesAtFirst(t *testing.T) {
	types := "si i ri - rsi"
	for params, want := range []string{"10101", "20101", "20101", "20201", "20201", "20202", "20202", "20202"} {
		wantStates(t, code(types, params, "exit"), want)
		wantStates(t, code(types, params, "let; exit"), want+" "+want)
		wantStates(t, code(types, params, "jump :0"), want)
	}
	for _, params := range []int{-1, -2, -32, -33, math.MinInt64} {
		wantStates(t, code(types, params, "exit"), "10101")
	}
	for _, params := range []int{1 << 31, 1 << 32, 1<<32 + 1, math.MaxInt64} {
		wantStates(t, code(types, params, "exit"), "20202")
	}
}

// P8.1: as many variables as they may be, each alone a parameter's last.
func TestStatesOfManyVars(t *testing.T) {
	for n := range 140 {
		for _, params := range []int{0, 1, n / 2, n - 1, n, n + 1} {
			p := code(strings.Repeat("si ", n), params, "let; exit")
			some := min(max(params, 0), n)
			want := strings.Repeat("2", some) + strings.Repeat("1", n-some)
			if n == 0 {
				want = "."
			}
			wantStates(t, p, want+" "+want)
		}
	}
}

// P8.1: one variable is turned, wherever it stands, and no other one.
func TestStatesTurnOneAlone(t *testing.T) {
	const n = 100
	for v := range n {
		p := code(strings.Repeat("ri ", n), n, "if :2; let; exit")
		p.Ins[1] = api.Ins{Op: api.InDrain, A: v}
		all := strings.Repeat("2", n)
		wantStates(t, p, all+" "+all+" "+all[:v]+"3"+all[v+1:])
		p.Params = 0
		p.Ins[1] = api.Ins{Op: api.InTake, A: v, B: n - 1 - v}
		all = strings.Repeat("1", n)
		wantStates(t, p, strings.Repeat(all[:v]+"1"+all[v+1:]+" ", 2)+all[:v]+"3"+all[v+1:])
	}
}

// P8.1: what is no variable of an end stays 0, whatever is done.
func TestStatesOfNoEnds(t *testing.T) {
	for _, v := range []int{0, 1, -1, 2, math.MaxInt64, math.MinInt64} {
		for _, op := range someOps() {
			p := code("i -", 2, "let; let; exit")
			p.Ins[0] = api.Ins{Op: op, A: v, B: v, To: 1, Args: []api.Arg{{V: v}}}
			want := "00 00 00"
			wantStates(t, p, want)
			p.Vars = append(p.Vars, api.Var{T: "si"})
			if v == 2 {
				continue
			}
			want = "001 001 001"
			if op == api.InExit {
				want = "001 000 000"
			}
			wantStates(t, p, want)
		}
	}
}

// P8.1: where no way comes, 0 for every variable, parameters, too.
func TestStatesWhereNoWayComes(t *testing.T) {
	wantStates(t, code("si ri", 1, "jump :2; close 0; exit"), "21 00 21")
	wantStates(t, code("si ri", 1, "exit; close 0; chan 0 1; exit"), "21 00 00 00")
	wantStates(t, code("si ri", 1, "jump :0; chan 0 1; jump :0"), "21 00 00")
	wantStates(t, code("si ri", 1, "jump :3; exit; let; close 0; exit"), "21 00 00 21 11")
	for _, to := range wild {
		p := code("si ri", 1, "jump; let; exit")
		p.Ins[0].To = to
		wantStates(t, p, "21 00 00")
	}
	// Out of what is not come to nothing comes either.
	wantStates(t, code("si ri", 1, "jump :4; chan 0 1; close 0; jump :4; exit"), "21 00 00 00 21")
	wantStates(t, code("si ri", 1, "jump :3; drain 0; if :3; exit"), "21 00 00 21")
	wantStates(t, code("si ri", 1, "jump :3; let; take 1 0 :0; exit"), "21 00 00 21")
}

// aheadOf makes a Proc in which the variables are so, ahead of the lines that
// are laid behind ("1" none, "2" one, "3" on some ways), and tells where these
// begin.
func aheadOf(states string, lines ...string) (api.Proc, int) {
	var said []string
	for v, state := range states {
		n := string(rune('0' + v))
		to := string(rune('0' + len(said) + 2))
		switch state {
		case '1':
			said = append(said, "close "+n)
		case '3':
			said = append(said, "if :"+to, "close "+n)
		}
	}
	at := len(said)
	return code(strings.Repeat("si ", len(states)), len(states), strings.Join(append(said, lines...), ";")), at
}

// wantBehind: what there is behind an instruction, of 0 and 1 ("=": what was
// ahead of it), whatever there was.
func wantBehind(t *testing.T, line, behind string) {
	t.Helper()
	for _, ahead := range []string{"11", "12", "13", "21", "22", "23", "31", "32", "33"} {
		p, at := aheadOf(ahead, line, "let", "exit")
		rows := States(p)
		for v := range 2 {
			was, is := int(ahead[v]-'0'), int(behind[v]-'0')
			if behind[v] == '=' {
				is = was
			}
			if rows[at][v] != was || rows[at+1][v] != is {
				t.Errorf("%s: %q makes %d of %d %d, want %d of %d", said(p), line, rows[at][v], v, rows[at+1][v], is, was)
			}
		}
	}
}

// P8.1: behind a bind there is an end, behind a drop or an over there is none,
// and a use leaves what there is, whatever was ahead.
func TestStatesBehindEachAct(t *testing.T) {
	for line, behind := range map[string]string{
		"chan 0 1": "22", "chan 1 0": "22", "chan 0 0": "2=", "chan 0 7": "2=", "chan -1 1": "=2",
		"clone 0 1": "2=", "clone 1 0": "=2", "clone 1 1": "=2", "clone 9 0": "==",
		"send 0": "==", "send 1": "==", "send 1 0": "==",
		"give 0 1": "=1", "give 1 0": "1=", "give 0 0": "1=", "give 0 5": "==", "give 5 0": "1=",
		"close 0": "1=", "close 1": "=1", "close 1 0": "=1", "close -1": "==",
		"abandon 0": "1=", "abandon 1": "=1", "abandon 1 0": "=1",
		"drain 0": "1=", "drain 1": "=1", "drain 0 1": "1=",
		"spawn": "==", "spawn 0": "1=", "spawn 1": "=1", "spawn 0 1": "11", "spawn 1 1": "=1",
		"spawn e0 1": "=1", "spawn e1 e0": "==", "spawn 7 0": "1=",
		"over 0": "1=", "over 1": "=1", "over 2": "==", "over 0 1": "1=",
		"let 0 1": "==", "emit 0 1": "==", "turns 0 1": "==", "none 0 1": "==",
		"count 0 1 :99": "==", "if 0 1 :-1": "==", // led nowhere else
		"take 0 1 :-1": "2=", "take 1 0 :-1": "=2", "take 1 1 :-1": "=2", "take 0 0 :99": "2=", "take 5 0 :99": "==",
	} {
		wantBehind(t, line, behind)
	}
	wantStates(t, code("si ri", 1, "jump 0 1 :1; exit"), "21 21")
}

// P8.1: two ways that meet: with the same states, and with other ones.
func TestStatesWhereWaysMeet(t *testing.T) {
	// On neither, on one, on the other one, on both.
	wantStates(t, code("si", 1, "if :3; let; jump :4; let; exit"), "2 2 2 2 2")
	wantStates(t, code("si", 1, "if :3; close 0; jump :4; let; exit"), "2 2 1 2 3")
	wantStates(t, code("si", 1, "if :3; let; jump :4; close 0; exit"), "2 2 2 2 3")
	wantStates(t, code("si", 1, "if :3; close 0; jump :4; drain 0; exit"), "2 2 1 2 1")
	wantStates(t, code("si", 0, "if :3; let; jump :4; let; exit"), "1 1 1 1 1")
	wantStates(t, code("si", 0, "if :3; take 0 9 :99; jump :4; let; exit"), "1 1 2 1 3")
	wantStates(t, code("si", 0, "if :3; chan 0 0; jump :4; clone 0 0; exit"), "1 1 2 1 2")
	// Variables do not mix: one is dropped on the one way, one on the other.
	wantStates(t, code("si ri", 2, "if :3; close 0; jump :4; drain 1; exit"), "22 22 12 22 33")
	wantStates(t, code("si ri si", 3, "count 0 :3; spawn 0 2; jump :4; spawn 1 2; exit"), "222 222 121 222 331")
	// A third way, and what is behind it all.
	wantStates(t, code("si", 1, "if :5; if :4; close 0; jump :5; chan 0 0; let; over 0; exit"), "2 2 2 1 2 3 3 1")
	// What may be there is one thing behind a drop, a bind, an over.
	wantStates(t, code("si", 1, "if :2; close 0; close 0; let; exit"), "2 2 3 1 1")
	wantStates(t, code("si", 1, "if :2; close 0; chan 0 0; let; exit"), "2 2 3 2 2")
	wantStates(t, code("si", 1, "if :2; close 0; over 0; let; exit"), "2 2 3 1 1")
	wantStates(t, code("si", 1, "if :2; close 0; send 0; let; exit"), "2 2 3 3 3")
}

// P8.1: loops lead back, and turn what was told before.
func TestStatesInLoops(t *testing.T) {
	wantStates(t, code("si", 1, "if :3; close 0; jump :0; exit"), "3 3 1 3")
	wantStates(t, code("si", 0, "if :3; chan 0 0; jump :0; exit"), "3 3 2 3")
	wantStates(t, code("si", 1, "close 0; jump :0"), "3 1")
	wantStates(t, code("si", 0, "chan 0 0; jump :0"), "3 2")
	wantStates(t, code("si ri", 0, "chan 0 1; jump :0"), "33 22")
	// Bound and dropped in each turn: the same each time.
	wantStates(t, code("si ri", 0, "if :4; chan 0 1; spawn 0 1; jump :0; exit"), "11 11 22 11 11")
	// The turn comes to what was told ahead of the loop within, and behind it.
	wantStates(t, code("si", 1, "let; if :7; let; if :6; close 0; jump :3; jump :1; exit"), "2 3 3 3 3 1 3 3")
	// A loop within leads to the outer one's first alone.
	wantStates(t, code("si", 1, "if :5; let; if :4; jump :2; jump :0; exit"), "2 2 2 2 2 2")
	// Back, and back again, each further ahead: told behind all of them.
	wantStates(t, code("si ri", 2, "jump :6; close 0; exit; drain 1; if :1; exit; if :3; jump :4"), "22 23 13 22 23 23 22 22")
	// A loop that never ends, and one on itself.
	wantStates(t, code("si", 1, "let; close 0; jump :1; exit"), "2 3 1 0")
	wantStates(t, code("si", 1, "if :0; close 0; if :2; exit"), "2 2 1 1")
	wantStates(t, code("si", 1, "count 9 :1; spawn 0; jump :0"), "3 3 1")
}

// P8.1: code whose instructions stand from the last to the first.
func TestStatesBackwards(t *testing.T) {
	p := code("si ri", 1, "jump :8; exit; jump :1; over 0; jump :3; close 0; if :1; jump :5; let; jump :7")
	// 8 9 7 5 6 7 5 .., 6 1
	wantStates(t, p, "21 11 00 00 00 31 11 31 21 21")
}

// P8.1: InTake binds on the way to the next instruction alone.
func TestStatesOfTake(t *testing.T) {
	wantStates(t, code("ri rri", 2, "take 0 1 :2; exit; exit"), "22 22 22")
	wantStates(t, code("ri rri", 0, "take 0 1 :2; exit; exit"), "11 21 11")
	wantStates(t, code("ri rri", 0, "take 0 1 :2; over 0; exit"), "11 21 11")
	wantStates(t, code("ri rri", 0, "take 0 1 :2; send 0; exit"), "11 21 31")
	// For: what is bound is over at the end of each turn; or it is not.
	wantStates(t, code("ri rri", 0, "chan 1 1; take 0 1 :5; drain 0; over 0; jump :1; drain 1; exit"), "11 12 22 12 12 12 11")
	wantStates(t, code("ri rri", 0, "chan 1 1; take 0 1 :3; jump :1; drain 1; exit"), "11 32 22 32 31")
	// To just behind it: what goes on there goes on to the next one.
	wantStates(t, code("ri rri", 0, "take 0 1 :1; exit"), "11 21")
	wantStates(t, code("ri rri", 0, "let; take 0 1 :2; let; exit"), "11 11 21 21")
	// To itself, and back.
	wantStates(t, code("ri rri", 0, "take 0 1 :0; exit"), "11 21")
	wantStates(t, code("ri rri", 0, "let; take 0 1 :0; exit"), "11 11 21")
	wantStates(t, code("ri rri", 2, "close 0; take 0 1 :0; exit"), "32 12 22")
	// To nowhere; and no next one.
	for _, to := range append(slices.Clone(wild), 2, 3) {
		p := code("ri rri", 0, "take 0 1; exit")
		p.Ins[0].To = to
		wantStates(t, p, "11 21")
		p.Ins = p.Ins[:1]
		wantStates(t, p, "11")
	}
	wantStates(t, code("ri rri", 0, "jump :2; exit; take 0 1 :1"), "11 11 11")
	wantStates(t, code("ri rri", 0, "let; take 0 1 :0"), "11 11")
	// A number is taken: nothing is bound.
	wantStates(t, code("i ri", 2, "take 0 1 :2; let; exit"), "02 02 02")
	// A is B.
	wantStates(t, code("ri", 0, "take 0 0 :2; exit; exit"), "1 2 1")
	wantStates(t, code("ri", 1, "take 0 0 :2; exit; exit"), "2 2 2")
	// B is no end, or none.
	wantStates(t, code("ri i", 0, "take 0 1 :2; exit; exit"), "10 20 10")
	wantStates(t, code("ri i", 0, "take 0 -1 :2; exit; exit"), "10 20 10")
	// Both ways come to one place at last.
	wantStates(t, code("ri rri", 0, "take 0 1 :2; let; let; exit"), "11 21 31 31")
	// The others with a To bind nothing.
	wantStates(t, code("ri rri", 0, "if 0 1 :2; let; count 0 1 :1; exit"), "11 11 11 11")
}

// P8.1: all others with acts lead on alone, whatever their To.
func TestStatesPassNoTo(t *testing.T) {
	for _, line := range []string{"close 0", "over 0", "spawn 0", "drain 0", "abandon 0", "give 1 0"} {
		wantStates(t, code("si ri", 2, line+" :3; jump :2; exit; exit"), "22 12 12 00")
	}
	for _, line := range []string{"chan 0 0", "clone 0 1"} {
		wantStates(t, code("si ri", 0, line+" :3; jump :2; exit; exit"), "11 21 21 00")
	}
	wantStates(t, code("si ri", 1, "exit :1; exit"), "21 00")
}

// P8.1: an Op that is none of the api's does nothing, and leads on.
func TestStatesOfOtherOps(t *testing.T) {
	for _, op := range append(slices.Clone(wild), 0, 18, 19) {
		p := code("si ri", 1, "let; exit; exit")
		p.Ins[0] = api.Ins{Op: op, A: 0, B: 1, To: 2, Args: []api.Arg{{V: 0}}}
		wantStates(t, p, "21 21 00")
	}
}

// P8.1: without instructions there is nothing, and without variables there are
// rows without anything.
func TestStatesOfNothing(t *testing.T) {
	for _, params := range []int{-1, 0, 1, 5} {
		wantStates(t, api.Proc{Params: params}, "")
		wantStates(t, code("si ri", params, ""), "")
		wantStates(t, code("", params, "let; jump :0; exit"), ". . .")
		wantStates(t, code("", params, "chan 0 1; close 0; take 0 0 :0"), ". . .")
		wantStates(t, code("i i -", params, "chan 0 1; close 2; take 0 0 :0"), "000 000 000")
		if got := States(api.Proc{Params: params, Ins: make([]api.Ins, 7)}); len(got) != 7 {
			t.Errorf("%d rows, want 7", len(got))
		}
	}
}

// P8.1: code out of programs.
func TestStatesOfPrograms(t *testing.T) {
	// in s r x: 0 chan 1 take 2 jump 3 close 4 drain 5 drain 6 over 7 over 8 over 9 exit
	wantStates(t, lowered(t, "chan s r int 1; for x from in { } close s; drain r; drain in;"),
		"2110 2220 2220 2220 2120 2110 1110 1110 1110 1110")
	// in: 0 turns 1 count 2 drain 3 jump 4 over 5 exit
	wantStates(t, lowered(t, "repeat 2 { drain in; }"), "20 30 30 10 30 10")
	// in s r: 0 if 1 chan 2 close 3 over 4 over 5 jump 6 over 7 exit
	wantStates(t, lowered(t, "if 1 { chan s r int 1; close s; }"),
		"211 211 222 212 212 211 211 111")
}
