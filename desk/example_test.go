package desk

import (
	"strings"
	"testing"
)

// The chapter's example, in one Do, and in one for each line.
func TestExample(t *testing.T) {
	asked := []string{"|stage main(in recv int) { drain in; }", "check", "judge", "begin 5", "run 9", "out"}
	want := []string{"", "yes 1\n", "fine 0 0\n", "begun\n", "ran 4\n", "out\n"}
	tells(t, New(), strings.Join(want, ""), asked...)
	d := New()
	for n, line := range asked {
		tells(t, d, want[n], line)
	}
}

// The document's: the second close uses what is gone; the way: the chan, the first
// close, the second one.
func TestClosedTwice(t *testing.T) {
	played(t, `
		|stage main(in recv int) { chan s r int 1; close s; close s; drain r; drain in; }
		check => yes 5
		judge => gone main 2 s
		why 0 => way 0 1 2
		why 1 => what
		begin => begun
		run 100 => ran 9
		events => event twice 0 51 2
		tasks => task 0 main over
		chans => chan 0 0 gone 0 / chan 1 0 gone 0`)
}

// The document's: a stage that copies is fine; two such stages that send to one
// another: a round of waiting.
func TestCopies(t *testing.T) {
	played(t, `
		|stage f(a recv int, b send int) { for x from a { send b x; } drain a; close b; }
		|stage main(in recv int) { chan s r int 1; spawn f(in, s); for x from r { emit x; } drain r; }
		check => yes 9
		judge => fine 0 1 1 0
		begin 4 5 6 => begun
		run 1000 => ran 32
		out => out 4 5 6
		events
		run 1 => ran 0
		new
		|stage f(a recv int, b send int) { for x from a { send b x; } drain a; close b; }
		|stage main(in recv int) { chan s r int 1; chan u v int 1; spawn f(r, u); spawn f(v, s); drain in; }
		check => yes 9
		judge => round 2 4 by 1 1 / round 4 2 by 2 1
		why 0 => what
		begin 4 => begun
		run 1000 => ran 12
		tasks => task 0 main over / task 1 f waits 1 / task 2 f waits 2
		chans => chan 0 0 gone 0 / chan 1 1 there 0 / chan 2 1 there 0`)
}

// The document's: of a stage that sends each of 3 numbers twice, 6 go through.
func TestSentTwice(t *testing.T) {
	played(t, `
		|stage f(a recv int, b send int) { for x from a { repeat 2 { send b x; } } drain a; close b; }
		|stage main(in recv int) { chan s r int 1; spawn f(in, s); for x from r { emit x; } drain r; }
		check => yes 10
		begin 4 -5 6 => begun
		run 100000 => ran 62
		out => out 4 4 -5 -5 6 6`)
}

// The document's: an end that is sent through a channel whose end to receive is
// dropped is dropped with it.
func TestSentAndDropped(t *testing.T) {
	played(t, `
		|stage main(in recv int) { chan a b recv int 2; send a in; abandon b; close a; }
		check => yes 4
		judge => round 2 2 by 0 1
		begin 1 2 => begun
		run 2 => ran 2
		chans => chan 0 0 there 2 / chan 1 1 there 1
		run 1 => ran 1
		chans => chan 0 0 gone 0 / chan 1 1 gone 0
		run 9 => ran 5
		events`)
}
