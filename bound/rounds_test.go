package bound

import (
	"fmt"
	"slices"
	"testing"

	"pipewright/api"
)

// manyTimes is a list of one number, so many times.
func manyTimes(n, of int) []int { return slices.Repeat([]int{of}, n) }

// ring has so many channels, and in one task a for for each of them that sends
// through the next one, from the last one on through the first one; and what
// else is said, of the variables 0 (what comes in), 1 and 2 (the first channel's
// ends), 3 and 4, ..; the block of the first channel's for is 1.
func ring(channels int, more string) api.Proc {
	types, blocks, said := "ri", "", ""
	for k := range channels {
		types += " si ri"
		blocks += fmt.Sprintf("for 0 %d;", 2+2*k)
		said += fmt.Sprintf("chan %d %d; send %d @%d;", 1+2*k, 2+2*k, 1+2*((k+1)%channels), k+1)
	}
	return proc(types, 1, blocks, said+more)
}

// P12: rounds of one and of many, that something comes to: all of it is Cap.
func TestRounds(t *testing.T) {
	for channels := 1; channels <= 29; channels++ {
		for from := range channels {
			start := fmt.Sprintf("send %d", 1+2*from)
			wantThings(t, code(ring(channels, start)), 3, append([]int{3}, manyTimes(channels, api.Cap)...)...)
			wantSteps(t, code(ring(channels, start)), 3, api.Cap)
		}
	}
	// The first variable may be what comes in, and the channel that is sent
	// through.
	in := proc("ri si", 1, "for 0 0", "chan 1 0; send 1 @1")
	wantThings(t, code(in), 3, 3, api.Cap)
	wantThings(t, code(in), 0, 0, 0)
}

// P12: a round that nothing comes to is 0.
func TestRoundsOfNothing(t *testing.T) {
	for channels := 1; channels <= 29; channels++ {
		wantThings(t, code(ring(channels, "")), 3, append([]int{3}, make([]int, channels)...)...)
		wantSteps(t, code(ring(channels, "")), 3, channels+1) // the chans and the exit
	}
	c := mainOf(t, "chan s r int 1; for x from in { send s x; } for y from r { send s y; } close s; drain r; drain in;")
	wantThings(t, c, 0, 0, 0)
	for _, inputs := range manyInputs[1:] {
		wantThings(t, c, inputs, most(inputs), api.Cap)
	}
}

// P12: a round that a repeat of no turns breaks is none; one of a turn is.
func TestRoundsOfNoTurns(t *testing.T) {
	for _, c := range []struct {
		turns, want int
	}{{0, 1}, {1, api.Cap}, {2, api.Cap}, {6, api.Cap}} {
		body := fmt.Sprintf("chan s r int 1; send s 1; for x from r { repeat %d { send s x; } } close s; drain r; drain in;", c.turns)
		wantThings(t, mainOf(t, body), 3, 3, c.want)
	}
	wantSteps(t, mainOf(t, "chan s r int 1; send s 1; for x from r { repeat 0 { send s x; } } close s; drain r; drain in;"), 3,
		// InChan, InSend, InTake, InTurns, InCount, InSend, InJump, InJump
		1+1+2+1+1+0+0+1+
			// InClose, InDrain, InDrain, InOver three times, InExit
			1+2+4+3+1)
	// Two rounds through one channel: one that is broken, and one that is not.
	wantThings(t, mainOf(t, "chan s r int 1; send s 1; for x from r { repeat 0 { send s x; } if x { send s x; } } close s; drain r; drain in;"), 3, 3, api.Cap)
}

// P12: what hangs on a round is Cap, but 0 times of it; what it hangs on, and
// what has nothing to do with it, is not.
func TestWhatHangsOnRounds(t *testing.T) {
	const body = `
		chan a b int 1; chan c d int 1; chan e f int 1; chan g h int 1; chan i j int 1; chan k l int 1;
		for x from in { send a x; send a x; }
		for x2 from b { send c x2; }
		for x3 from d { send c x3; send e x3; }
		for x4 from f { send g x4; repeat 0 { send i x4; } }
		for x5 from b { send k x5; repeat 3 { send k x5; } }
		drain in;`
	c := mainOf(t, body)
	wantThings(t, c, 5, 5, 10, api.Cap, api.Cap, api.Cap, 0, 40)
	wantThings(t, c, 0, 0, 0, 0, 0, 0, 0, 0)
	wantThings(t, c, 1, 1, 2, api.Cap, api.Cap, api.Cap, 0, 8)
	wantSteps(t, c, 5, api.Cap)
	// A round behind a round, and one beside it.
	c = mainOf(t, `
		chan a b int 1; chan c d int 1; chan e f int 1;
		send a 1;
		for x from b { send a x; send c x; }
		for x2 from d { send c x2; }
		for x3 from f { send e x3; }
		drain in;`)
	wantThings(t, c, 5, 5, api.Cap, api.Cap, 0)
}

// P12: rounds that share a channel, of lengths that have no part in common.
func TestRoundsWithinRounds(t *testing.T) {
	for long := 2; long <= 12; long++ {
		for back := range long {
			more := fmt.Sprintf("send 1; send 1 @%d", back+1)
			c := code(ring(long, more))
			wantThings(t, c, 0, append([]int{0}, manyTimes(long, api.Cap)...)...)
			wantSecond(t, c, 0)
		}
	}
}

// P12: rounds through tasks: of tasks that are spawned again and again, and of
// tasks that send to one another.
func TestRoundsOfTasks(t *testing.T) {
	again := proc("si", 1, "", "send 0")
	main := proc("ri si ri", 1, "for 0 2", "chan 1 2; spawn 0 1 @1")
	wantThings(t, code(again, main), 2, 2, 0)
	main = proc("ri si ri", 1, "for 0 2", "chan 1 2; send 1; spawn 0 1 @1")
	wantThings(t, code(again, main), 2, 2, api.Cap)
	main = proc("ri si ri", 1, "for 0 2; repeat 1 0", "chan 1 2; send 1; spawn 0 1 @2")
	wantThings(t, code(again, main), 2, 2, 1)
	const hand = "stage f(a recv int, b send int) { for x from a { send b x; } drain a; close b; } "
	c := lowered(t, hand+"stage main(in recv int) { chan s r int 1; chan u v int 1; spawn f(r, u); spawn f(v, s); drain in; }")
	wantThings(t, c, 4, 4, 0, 0)
	c = lowered(t, hand+"stage main(in recv int) { chan s r int 1; chan u v int 1; send s 1; spawn f(r, u); spawn f(v, s); drain in; }")
	wantThings(t, c, 4, 4, api.Cap, api.Cap)
	c = lowered(t, hand+"stage main(in recv int) { chan s r int 1; chan u v int 1; clone o s; spawn f(in, o); spawn f(r, u); spawn f(v, s); }")
	wantThings(t, c, 4, 4, api.Cap, api.Cap)
	wantThings(t, c, 0, 0, 0, 0)
	c = lowered(t, hand+"stage main(in recv int) { chan s r int 1; chan u v int 1; spawn f(in, s); spawn f(r, u); drain v; }")
	wantThings(t, c, 4, 4, 4, 4)
}

// P12: rounds by what an end may be: a channel that is given round.
func TestRoundsOfGivenEnds(t *testing.T) {
	c := mainOf(t, `
		chan q p send int 1; chan s r int 1;
		send q s;
		for e from p { send e 1; close e; }
		for x from r { emit x; }
		drain in;`)
	wantThings(t, c, 4, 4, 1, 1)
	c = mainOf(t, `
		chan q p send int 1; chan s r int 1;
		send q s;
		for e from p { send e 1; send q e; }
		for x from r { emit x; }
		drain in;`)
	wantThings(t, c, 4, 4, api.Cap, api.Cap)
	c = mainOf(t, `
		chan q p send int 1; chan s r int 1;
		repeat 2 { take e from p { send e 1; send q e; } }
		for x from r { emit x; }
		drain in;`)
	wantThings(t, c, 4, 4, 2, 0) // e may be of no channel
}

// P12: rounds that grow fast are Cap, too, long before the last time.
func TestRoundsThatGrow(t *testing.T) {
	for turns := 1; turns <= api.MaxTurns; turns++ {
		for long := 1; long <= 29; long++ {
			main := ring(long, "send 1")
			last := len(main.Blocks)
			main.Blocks = append(main.Blocks, api.Block{Kind: api.BlockRepeat, Parent: 1, N: turns})
			main.Ins[1].Block = last
			wantThings(t, code(main), 7, append([]int{7}, manyTimes(long, api.Cap)...)...)
		}
	}
}
