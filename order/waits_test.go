package order

import (
	"fmt"
	"strings"
	"testing"

	"pipewright/api"
)

// P11.1: InSend, InGive and InDrain may wait for A, InTake for B.
func TestWhatMayWait(t *testing.T) {
	for _, c := range []struct{ types, said, want string }{
		{"ri si ri", "chan 1 2; send 1", "0>2:0@1,0,1 2>2:0@1,2,1"},
		{"ri sri rri", "chan 1 2; give 1 0", "0>2:0@1,0,1 2>2:0@1,2,1"},
		{"ri si ri", "chan 1 2; drain 2", "0>3:0@1,0,2 3>3:0@1,1,2"},
		{"ri si ri i", "chan 1 2; take 3 2 :2", "0>3:0@1,0,2 3>3:0@1,1,2"},
		{"ri sri rri ri", "chan 1 2; take 3 2 :2", "0>3:0@1,0,2 3>3:0@1,1,2"},
		{"ri si ri", "chan 1 2; drain 0", "3>1:0@1,1,0 2>1:0@1,2,0"},
		{"ri si ri i", "chan 1 2; take 3 0 :2", "3>1:0@1,1,0 2>1:0@1,2,0"},
	} {
		wantWaits(t, code(proc(c.types, 1, c.said)), c.want)
	}
}

// P11.1: all other instructions wait for none, whatever there is.
func TestWhatWaitsForNone(t *testing.T) {
	for _, said := range []string{
		"let 3", "emit", "chan 1 2", "chan 4 5", "clone 4 1", "clone 1 4", "close 1", "abandon 2", "abandon 0", "spawn 0 1 2", "spawn 0 4 0",
		"turns 3", "count 3 :2", "if :2", "jump :2", "over 1", "over 0", "exit",
	} {
		wantWaits(t, code(proc("si ri", 2, ""), proc("ri si ri i si ri", 1, "chan 1 2;"+said)), "")
	}
	for op, word := range words[1:] {
		may := strings.Contains(" send give drain take ", " "+word+" ")
		if on, is := waitsFor(api.Ins{Op: op + 1, A: 7, B: 8}); is != may || is && on != 7+strings.Count("take", word) {
			t.Errorf("%s waits for %d: %v", word, on, is)
		}
	}
}

// P11.1: y is what may have an end there: 2 or 3; 1 and 0 are not.
func TestHeld(t *testing.T) {
	for _, c := range []struct{ what, said, want string }{
		{"there", "chan 1 2; send 1", "0>2:0@1,0,1 2>2:0@1,2,1"},
		{"gone", "chan 1 2; abandon 0; send 1", "2>2:0@2,2,1"},
		{"both gone", "chan 1 2; abandon 0; abandon 2; send 1", ""},
		{"may be gone", "chan 1 2; if :3; abandon 0; send 1", "0>2:0@3,0,1 2>2:0@3,2,1"},
		{"may not have come", "abandon 0; if :3; chan 1 2; send 1", "2>2:0@3,2,1"},
		{"has not come", "abandon 0; send 1; chan 1 2", ""},
		{"out of use", "chan 1 2; over 2; send 1", "0>2:0@2,0,1"},
		{"another one", "chan 1 2; abandon 0; clone 3 1; send 1", "2>2:0@3,2,1 3>2:0@3,3,1"},
		{"the other one", "chan 1 2; abandon 0; clone 3 1; send 3", "3>2:0@3,1,3 2>2:0@3,2,3"},
		{"only behind it", "chan 1 2; abandon 0; abandon 2; send 1; chan 1 2; exit", ""},
		{"round about", "abandon 0; chan 1 2; send 1; chan 4 5; jump :2", "2>2:0@2,2,1 5>2:0@2,4,1 4>2:0@2,5,1"},
	} {
		t.Run(c.what, func(t *testing.T) { wantWaits(t, code(proc("ri si ri si si ri", 1, c.said)), c.want) })
	}
}

// P11.1: instructions that no way comes to wait for nobody; but channels that
// are made there are channels.
func TestWaitsWhereNoWayComes(t *testing.T) {
	for _, ahead := range []string{"exit;", "jump :0;", "chan 1 2; exit;", "if :0; jump :0;"} {
		for _, behind := range []string{"send 1", "drain 2", "take 3 2 :0", "chan 1 2; send 1", "drain 0", "take 3 0 :0"} {
			wantWaits(t, code(proc("ri si ri i", 1, ahead+behind)), "")
		}
	}
	wantWaits(t, code(proc("ri si ri", 1, "send 1; exit; chan 1 2")), "0>2:0@0,0,1")
}

// P11.1: x need not have an end.
func TestWaitsForWhatIsGone(t *testing.T) {
	wantWaits(t, code(proc("ri si ri", 1, "chan 1 2; close 1; send 1")), "0>2:0@2,0,1 2>2:0@2,2,1")
	wantWaits(t, code(proc("ri si ri", 1, "chan 1 2; abandon 2; drain 2")), "0>3:0@2,0,2 3>3:0@2,1,2")
	wantWaits(t, code(proc("ri si ri i", 1, "chan 1 2; abandon 2; take 3 2 :0")), "0>3:0@2,0,2 3>3:0@2,1,2")
}

// P11.1: what is given is there, and what is taken may be there still.
func TestWaitsOfWhatIsHandedOn(t *testing.T) {
	wantWaits(t, code(proc("ri sri rri", 1, "chan 1 2; abandon 2; give 1 0")), "0>2:0@2,0,1")
	wantWaits(t, code(proc("ri sri rri ri", 1, "chan 1 2; give 1 0; close 1; take 3 2 :2; jump :3")),
		"0>2:0@1,0,1 2>2:0@1,2,1 0>3:0@3,3,2")
	wantWaits(t, code(proc("ri sri rri", 1, "chan 1 2; give 1 0; close 1; take 0 2 :2; take 0 2 :0")),
		"0>2:0@1,0,1 2>2:0@1,2,1 0>3:0@4,0,2")
}

// P11.1: y to receive and to send, x to receive and to send.
func TestNodesOfWaits(t *testing.T) {
	for _, c := range []struct{ said, want string }{
		{"abandon 2; close 3; send 1", "4>2:0@5,4,1"},
		{"abandon 2; abandon 4; send 1", "5>2:0@5,3,1"},
		{"close 1; close 3; drain 2", "4>3:0@5,4,2"},
		{"close 1; abandon 4; drain 2", "5>3:0@5,3,2"},
		{"close 1; close 3; take 5 2 :0", "4>3:0@5,4,2"},
		{"close 1; abandon 4; take 5 2 :0", "5>3:0@5,3,2"},
		{"abandon 4; close 1; send 3", "2>4:0@5,2,3"},
		{"abandon 4; abandon 2; send 3", "3>4:0@5,1,3"},
		{"close 3; close 1; drain 4", "2>5:0@5,2,4"},
		{"close 3; abandon 2; drain 4", "3>5:0@5,1,4"},
		{"abandon 4; close 3; send 1", "2>2:0@5,2,1"},
		{"abandon 4; close 3; drain 2", "3>3:0@5,1,2"},
	} {
		wantWaits(t, code(proc("ri si ri si ri i", 1, "abandon 0; chan 1 2; chan 3 4;"+c.said)), c.want)
	}
}

// P11.1: the same of ends of all types, of the channels 1 and 2.
func TestNodesByTypes(t *testing.T) {
	for _, of := range allTypes[:7] {
		for _, other := range allTypes[:7] {
			types := fmt.Sprintf("ri s%s r%s s%s r%s %s", of, of, other, other, of)
			from := 2 * 2
			for k, keeps := range []string{"abandon 0; close 3;", "abandon 0; abandon 4;"} {
				held := 4 - k
				wantWaits(t, code(proc(types, 1, "chan 1 2; chan 3 4; close 1;"+keeps+"drain 2")), fmt.Sprintf("%d>3:0@5,%d,2", from+k, held))
				wantWaits(t, code(proc(types, 1, "chan 1 2; chan 3 4; close 1;"+keeps+"take 5 2 :0")), fmt.Sprintf("%d>3:0@5,%d,2", from+k, held))
				if of == "i" {
					wantWaits(t, code(proc(types, 1, "chan 1 2; chan 3 4; abandon 2;"+keeps+"send 1")), fmt.Sprintf("%d>2:0@5,%d,1", from+k, held))
				} else {
					wantWaits(t, code(proc(types, 1, "chan 1 2; chan 3 4; abandon 2;"+keeps+"give 1 5")), fmt.Sprintf("%d>2:0@5,%d,1", from+k, held))
				}
			}
		}
	}
}

// P11.1: each channel that y may be of, with each that x may be of, in order.
func TestWaitsOfSeveralChannels(t *testing.T) {
	ahead := "chan 1 2; chan 1 2; chan 3 4; chan 3 4;"
	types := "ri si ri si ri"
	wantWaits(t, code(proc(types, 1, ahead+"send 1")), `
		0>2:0@4,0,1 0>4:0@4,0,1
		2>2:0@4,2,1 2>4:0@4,2,1 4>2:0@4,2,1 4>4:0@4,2,1
		7>2:0@4,3,1 7>4:0@4,3,1 9>2:0@4,3,1 9>4:0@4,3,1
		6>2:0@4,4,1 6>4:0@4,4,1 8>2:0@4,4,1 8>4:0@4,4,1`)
	wantWaits(t, code(proc(types, 1, ahead+"drain 4")), `
		0>7:0@4,0,4 0>9:0@4,0,4
		3>7:0@4,1,4 3>9:0@4,1,4 5>7:0@4,1,4 5>9:0@4,1,4
		2>7:0@4,2,4 2>9:0@4,2,4 4>7:0@4,2,4 4>9:0@4,2,4
		7>7:0@4,3,4 7>9:0@4,3,4 9>7:0@4,3,4 9>9:0@4,3,4`)
	wantWaits(t, code(proc(types, 1, "chan 1 2; chan 3 2; chan 1 4; abandon 0; close 3; abandon 4; drain 2")), `
		3>3:0@6,1,2 3>5:0@6,1,2 7>3:0@6,1,2 7>5:0@6,1,2`)
}

// P11.1: by tasks first, then by instructions, then by Held.
func TestOrderOfWaits(t *testing.T) {
	c := code(proc("ri si", 2, "drain 0; send 1"), proc("si ri i", 2, "take 2 1 :0; close 0"), proc("ri si ri si ri", 1,
		"chan 1 2; chan 3 4; spawn 0 0 1; spawn 1 3 2; spawn 0 4 1; drain 4; send 1"))
	wantWaits(t, c, `
		3>1:1@0,1,0
		5>3:2@0,0,1
		3>5:3@0,1,0`)
	c = code(proc("si ri", 2, "send 0; drain 1; drain 1; send 0"), proc("ri si ri", 1,
		"chan 1 2; drain 0; drain 2; chan 1 2; spawn 0 1 2"))
	wantWaits(t, c, `
		3>1:0@1,1,0 5>1:0@1,1,0 2>1:0@1,2,0 4>1:0@1,2,0
		3>3:0@2,1,2 3>5:0@2,1,2 5>3:0@2,1,2 5>5:0@2,1,2
		2>2:1@0,1,0 2>4:1@0,1,0 4>2:1@0,1,0 4>4:1@0,1,0
		3>3:1@1,0,1 3>5:1@1,0,1 5>3:1@1,0,1 5>5:1@1,0,1
		3>3:1@2,0,1 3>5:1@2,0,1 5>3:1@2,0,1 5>5:1@2,0,1`)
}

const pipe = "stage f(a recv int, b send int) { for x from a { send b x; } drain a; close b; } "

// The chapter's example, and DOC.md's: the waits of a stage that copies.
func TestExampleOfWaits(t *testing.T) {
	for a := 1; a <= 3; a++ { // there are other channels ahead
		ahead := ""
		for k := 1; k < a; k++ {
			ahead += fmt.Sprintf("chan s%d r%d int 1; close s%d; abandon r%d; ", k, k, k, k)
		}
		b := a + 1
		at := func(from, to, i, held, on int) string { return fmt.Sprintf("%d>%d:1@%d,%d,%d ", from, to, i, held, on) }
		c := lowered(t, pipe+"stage main(in recv int) { drain in; "+ahead+"chan p q int 1; chan s r int 1; close p; spawn f(q, s); drain r; }")
		wantWaits(t, c, at(2*b+1, 2*a+1, 0, 1, 0)+at(2*a, 2*b, 1, 0, 1)+at(2*b+1, 2*a+1, 3, 1, 0))
		wantFine(t, c, true)
		wantNarrow(t, c, true)
	}
	c := lowered(t, pipe+"stage main(in recv int) { chan s r int 1; spawn f(in, s); drain r; }")
	wantWaits(t, c, "3>1:1@0,1,0 0>2:1@1,0,1 3>1:1@3,1,0")
}

// P11.1: each task of a stage waits for itself, for the channels that it has.
func TestWaitsOfSeveralTasks(t *testing.T) {
	c := lowered(t, pipe+"stage main(in recv int) { chan s r int 1; chan u v int 1; chan y z int 2; spawn f(in, s); spawn f(r, u); spawn f(v, y); drain z; }")
	wantWaits(t, c, `
		3>1:1@0,1,0 0>2:1@1,0,1 3>1:1@3,1,0
		5>3:2@0,1,0 2>4:2@1,0,1 5>3:2@3,1,0
		7>5:3@0,1,0 4>6:3@1,0,1 7>5:3@3,1,0`)
	wantRanks(t, c, 0, 3, 1, 2, 2, 1, 3, 0)
	c = lowered(t, pipe+"stage g(a recv int, b send int) { spawn f(a, b); } stage main(in recv int) { chan s r int 1; spawn g(in, s); drain r; }")
	wantWaits(t, c, "3>1:2@0,1,0 0>2:2@1,0,1 3>1:2@3,1,0")
}

// P11.1: what may be of no channel makes no wait, be it y or x.
func TestWaitsOfNoChannel(t *testing.T) {
	// Nobody gives anything: 3 has an end, as far as its stage shows, but of none.
	wantWaits(t, code(proc("ri sri rri ri si ri", 1, "abandon 0; chan 1 2; take 3 2 :2; close 1; abandon 2; chan 4 5; abandon 5; send 4")), "3>3:0@2,1,2")
	wantWaits(t, code(proc("ri sri rri ri", 1, "abandon 0; chan 1 2; take 3 2 :2; drain 3")), "3>3:0@2,1,2")
	wantWaits(t, code(proc("ri si", 1, "send 1")), "")
	wantWaits(t, code(proc("ri sri", 1, "give 1 0")), "")
	wantWaits(t, code(proc("ri ri i", 1, "drain 1; take 2 1 :0")), "")
}

// P11.1: stages that no task is of have no waits.
func TestWaitsOfNoTask(t *testing.T) {
	loose := proc("si ri", 2, "send 0; drain 1")
	c := code(loose, loose, proc("ri", 1, "drain 0"), proc("ri si ri", 1, "chan 1 2; send 1; drain 2"))
	c.Main = 2
	wantWaits(t, c, "")
	c.Main = 3
	wantWaits(t, c, "0>2:0@1,0,1 2>2:0@1,2,1 0>3:0@2,0,2 3>3:0@2,1,2")
}
