package bound

import (
	"fmt"
	"slices"
	"testing"

	"pipewright/api"
)

// P12.2: N of the channel 0 is as many as come in, 0 among them, and Cap at
// most, whatever is done with it.
func TestWhatComesIn(t *testing.T) {
	for _, inputs := range manyInputs {
		for _, c := range []api.Code{
			code(proc("ri", 1, "", "")),
			mainOf(t, "drain in;"),
			mainOf(t, "abandon in;"),
			mainOf(t, "for x from in { } drain in;"),
			mainOf(t, "take x from in { } take y from in { } drain in;"),
			mainOf(t, "repeat 3 { take x from in { } } abandon in;"),
			lowered(t, "stage f(a recv int) { drain a; } stage main(in recv int) { spawn f(in); }"),
		} {
			wantThings(t, c, inputs, min(inputs, api.Cap))
		}
	}
}

// P12.2: through a channel goes what InSend and InGive say, each for itself: E
// of the block that it stands in.
func TestSentAndGiven(t *testing.T) {
	const blocks = "for 0 0; repeat 1 2; then 2; repeat 0 0; else 0"
	passes := []int{1, 7, 14, 14, 0, 1}
	for a, n := range passes {
		main := proc("ri si ri", 1, blocks, fmt.Sprintf("chan 1 2; send 1 @%d", a))
		wantThings(t, code(main), 7, 7, n)
		main = proc("ri sri rri", 1, blocks, fmt.Sprintf("chan 1 2; give 1 0 @%d", a))
		wantThings(t, code(main), 7, 7, n)
		for b, m := range passes {
			main := proc("ri si ri", 1, blocks, fmt.Sprintf("send 1 @%d; chan 1 2 @3; send 1 @%d", a, b))
			wantThings(t, code(main), 7, 7, n+m)
			main = proc("ri sri rri si ri", 1, blocks, fmt.Sprintf("give 1 0 @%d; send 3 @%d; chan 1 2 @4; chan 3 4; give 1 4 @%d", a, a, b))
			wantThings(t, code(main), 7, 7, n+m, n)
		}
	}
	wantThings(t, code(proc("ri si ri", 1, "", "chan 1 2;"+rep("send 1;", 50))), 7, 7, 50)
	wantThings(t, code(proc("ri sri rri", 1, "repeat 0 3", "chan 1 2;"+rep("give 1 0 @1;", 50))), 7, 7, 150)
}

// P12.2: what a Loop says is no matter, nor where the channel is made, nor
// whether a way comes there.
func TestSentByTheBlockAlone(t *testing.T) {
	main := proc("ri si ri", 1, "repeat 0 3; repeat 1 4", "chan 1 2 @2; send 1 %2; send 1 @1 %2; jump :3; send 1; exit; send 1 @2")
	wantThings(t, code(main), 2, 2, 1+3+1+12)
}

// P12.2: by A of InSend and InGive alone; all others, and B, send nothing.
func TestOthersSendNothing(t *testing.T) {
	main := proc("ri sri rri sri rri ri si ri si i", 1, "repeat 0 5",
		"chan 1 2; chan 6 7; clone 3 1; clone 8 6; close 1; close 6; abandon 2; drain 2; drain 7; drain 0; take 5 2 @1; take 9 7 @1; take 9 0; over 1; over 7; let 9; turns 9; count 9; emit; if; jump")
	wantThings(t, code(main), 3, 3, 0, 0)
	// The end that is given is that of another channel.
	main = proc("ri sri rri si ri ssri rsri", 1, "", "chan 1 2; chan 3 4; chan 5 6; give 1 4; give 5 1")
	wantThings(t, code(main), 3, 3, 1, 0, 1)
}

// P12.2: an instruction whose A may be of several channels sends through each of
// them.
func TestSentThroughSeveral(t *testing.T) {
	for n := range 29 {
		main := proc("ri si ri", 1, "for 0 0", rep("chan 1 2;", n+1)+"send 1; send 1 @1")
		wantThings(t, code(main), 4, append([]int{4}, slices.Repeat([]int{5}, n+1)...)...)
	}
	main := proc("ri si ri si ri si", 1, "repeat 0 2", "chan 1 2; chan 3 4; clone 5 1; clone 5 3; send 5; send 1 @1")
	wantThings(t, code(main), 4, 4, 3, 1)
}

// P12.2: by several tasks, of one stage and of several.
func TestSentByTasks(t *testing.T) {
	f := proc("si", 1, "repeat 0 2", "send 0; send 0 @1")
	g := proc("si ri", 2, "for 0 1", "send 0 @1; spawn 0 0")
	main := proc("ri si ri si ri", 1, "repeat 0 5", "chan 1 2; chan 3 4; spawn 0 1; spawn 0 1; spawn 0 3")
	wantThings(t, code(f, main), 9, 9, 6, 3)
	main = proc("ri si ri si ri", 1, "repeat 0 5", "chan 1 2; chan 3 4; spawn 0 1; spawn 0 1 @1; spawn 0 3 @1")
	wantThings(t, code(f, main), 9, 9, 18, 15)
	main = proc("ri si ri si ri", 1, "repeat 0 5", "chan 1 2; chan 3 4; spawn 0 1; spawn 1 3 2; spawn 1 3 0 @1")
	wantThings(t, code(f, g, main), 9, 9, 3, 3+3+9+15)
	main = proc("ri si ri si ri", 1, "repeat 0 5", "chan 1 2; chan 3 4; spawn 0 1; send 3 @1; send 1")
	wantThings(t, code(f, main), 9, 9, 4, 5)
}

// P12.2: what goes through an end that came through a channel.
func TestSentThroughWhatIsTaken(t *testing.T) {
	c := lowered(t, `
stage serve(q recv send int) { for s from q { send s 7; send s 8; close s; } drain q; }
stage ask(q send send int, n int) { repeat n { chan s r int 1; send q s; for x from r { emit x + n; } drain r; } close q; }
stage main(in recv int) {
	chan q p send int 2;
	clone o q;
	spawn serve(p);
	spawn ask(q, 1);
	spawn ask(o, 3);
	drain in;
}`)
	// Both tasks that ask go through 6 turns at most, so that 12 ends come to
	// the one that serves: it may send twice through each.
	wantThings(t, c, 2, 2, 12, 24, 24)
	c = lowered(t, `
stage hand(a recv recv int, b send recv int) { for x from a { send b x; } drain a; close b; }
stage main(in recv int) {
	chan a b recv int 1;
	chan c d recv int 2;
	spawn hand(b, c);
	repeat 4 { chan s r int 1; send s 1; send s 2; close s; send a r; }
	send a in;
	close a;
	for y from d { for z from y { emit z; } drain y; }
	drain d;
}`)
	wantThings(t, c, 3, 3, 5, 5, 8)
	wantPasses(t, c, 1, 3, 1, 4, 5, 11)
}

// P12.2: nothing goes through a channel that nobody sends through, and through
// one that hangs on such a one.
func TestNothingGoesThrough(t *testing.T) {
	wantThings(t, mainOf(t, "chan s r int 1; close s; drain r; drain in;"), 3, 3, 0)
	wantThings(t, mainOf(t, "chan s r int 1; chan u v int 2; for x from r { send u x; } close s; close u; drain r; drain v; drain in;"), 3, 3, 0, 0)
	wantThings(t, mainOf(t, "chan s r int 1; repeat 0 { send s 1; } close s; drain r; drain in;"), 3, 3, 0)
	wantThings(t, mainOf(t, "chan s r int 1; for x from in { send s x; } close s; drain r; drain in;"), 0, 0, 0)
	wantThings(t, flat(0, 29), 3, append([]int{3}, make([]int, 29)...)...)
}

// P12.2: one number for each channel of the tree, in its order: task by task,
// and not as they stand in the code.
func TestInTheOrderOfTheTree(t *testing.T) {
	f := proc("si ri", 0, "repeat 0 2", "chan 0 1; send 0 @1")
	g := proc("si ri si ri", 0, "repeat 0 3", "chan 0 1; send 0 @1; spawn 0; chan 2 3; send 2; send 2")
	main := proc("ri si ri si ri", 1, "repeat 0 5; repeat 1 2", "spawn 1; chan 1 2; spawn 0 @1; send 1 @2; chan 3 4; send 3 @1")
	wantThings(t, code(f, g, main), 6, 6, 10, 5, 3, 2, 10, 2)
	var sites []int
	types, said := "ri", ""
	for k := range 29 {
		types += " si ri"
		said += fmt.Sprintf("chan %d %d;", 1+2*k, 2+2*k) + rep(fmt.Sprintf("send %d;", 1+2*k), k)
		sites = append(sites, k)
	}
	wantThings(t, code(proc(types, 1, "", said)), 6, append([]int{6}, sites...)...)
}

// P12: the chapter's example.
func TestExample(t *testing.T) {
	c := mainOf(t, "chan s r int 1; for x from in { repeat 2 { send s x; } } close s; drain r; drain in;")
	wantThings(t, c, 3, 3, 6)
	c = lowered(t, "stage f(a recv int, b send int) { for x from a { repeat 2 { send b x; } } drain a; close b; } stage main(in recv int) { chan s r int 1; spawn f(in, s); drain r; }")
	wantThings(t, c, 3, 3, 6)
	// The document's: of a stage that sends each of 3 numbers twice, 6 go through.
	c = lowered(t, "stage f(a recv int, b send int) { for x from a { send b x; send b x; } drain a; close b; } stage main(in recv int) { chan s r int 1; spawn f(in, s); drain r; }")
	wantThings(t, c, 3, 3, 6)
	for inputs := range 50 {
		wantThings(t, c, inputs, inputs, 2*inputs)
	}
}
