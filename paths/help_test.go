package paths

import (
	"fmt"
	"math"
	"slices"
	"strconv"
	"strings"
	"testing"
	"time"

	"pipewright/api"
)

// words of the Ops, each at its number.
var words = strings.Fields("none let emit chan clone send give close abandon drain spawn take turns count if jump over exit")

// wild are numbers that no instruction has.
var wild = []int{math.MinInt64, math.MinInt64 + 1, -1 << 32, -2, -1, 1 << 32, math.MaxInt64 - 1, math.MaxInt64}

// code makes a Proc of words: "if:2 jump:0 exit". Where no To is said, it is 0.
func code(said string) api.Proc {
	var p api.Proc
	for _, one := range strings.Fields(said) {
		word, to, _ := strings.Cut(one, ":")
		op := slices.Index(words, word)
		if op < 0 {
			panic("no word: " + word)
		}
		n, err := strconv.Atoi(to)
		if to != "" && err != nil {
			panic(err)
		}
		p.Ins = append(p.Ins, api.Ins{Op: op, To: n})
	}
	return p
}

// said is the Proc in words, but the middle of a long one.
func said(p api.Proc) string {
	var all []string
	for _, ins := range p.Ins {
		word := strconv.Itoa(ins.Op)
		if ins.Op >= 0 && ins.Op < len(words) {
			word = words[ins.Op]
		}
		all = append(all, fmt.Sprint(word, ":", ins.To))
	}
	return short(strings.Join(all, " "))
}

func short(s string) string {
	if len(s) > 400 {
		return s[:200] + " .. " + s[len(s)-200:]
	}
	return s
}

func shown(x any) string { return short(fmt.Sprint(x)) }

func l(numbers ...int) []int { return numbers }

func wantNext(t *testing.T, p api.Proc, i int, want ...int) {
	t.Helper()
	if got := Next(p, i); !slices.Equal(got, want) {
		t.Errorf("Next(%s, %d): %s, want %s", said(p), i, shown(got), shown(want))
	}
}

func wantReach(t *testing.T, p api.Proc, want ...int) {
	t.Helper()
	if got := Reach(p); !slices.Equal(got, want) {
		t.Errorf("Reach(%s): %s, want %s", said(p), shown(got), shown(want))
	}
}

func wantPath(t *testing.T, p api.Proc, from, to int, want ...int) {
	t.Helper()
	if got := Path(p, from, to); !slices.Equal(got, want) {
		t.Errorf("Path(%s, %d, %d): %s, want %s", said(p), from, to, shown(got), shown(want))
	}
}

func wantIs(t *testing.T, p api.Proc, way []int, want bool) {
	t.Helper()
	if got := Is(p, way); got != want {
		t.Errorf("Is(%s, %s): %v, want %v", said(p), shown(way), got, want)
	}
}

// inTime fails where a call does not end.
func inTime(t *testing.T, what string, do func()) {
	t.Helper()
	done := make(chan int)
	go func() {
		defer close(done)
		do()
	}()
	select {
	case <-done:
	case <-time.After(60 * time.Second):
		t.Fatalf("%s: it goes on and on", what)
	}
}

// upTo counts from 0 on.
func upTo(n int) []int {
	all := make([]int, n)
	for i := range all {
		all[i] = i
	}
	return all
}
