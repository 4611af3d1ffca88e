package bound

import (
	"math"
	"math/rand"
	"slices"
	"testing"

	"pipewright/api"
	"pipewright/order"
	"pipewright/tree"
)

// What follows: no number is below 0 or above Cap; the channel 0 has what comes
// in; there is a number for each channel.
func TestNumbersFollow(t *testing.T) {
	for k, c := range manyCodes(t) {
		g, _ := tree.Grow(c)
		for _, inputs := range append(slices.Clone(manyInputs), k) {
			a := answers(c, inputs)
			if a.noSteps.Code != 0 {
				continue
			}
			if len(a.things) != len(g.Sites) || a.things[0] != most(inputs) {
				t.Fatalf("of %s with %d: %v", said(c), inputs, a.things)
			}
			for _, n := range append(slices.Clone(a.things), a.steps) {
				if n < 0 || n > api.Cap {
					t.Fatalf("of %s with %d: %d", said(c), inputs, n)
				}
			}
		}
	}
}

// What follows: more that comes in makes nothing less.
func TestMoreMakesNothingLess(t *testing.T) {
	rising := []int{0, 1, 2, 3, 4, 5, 10, 11, 100, 1000, 1 << 20, 1 << 30, api.Cap / 36, api.Cap / 6, api.Cap/6 + 1, api.Cap/2 - 1, api.Cap / 2, api.Cap - 1, api.Cap, api.Cap + 1, math.MaxInt64}
	more := 0
	for _, c := range manyCodes(t) {
		if _, f := Steps(c, 0); f.Code != 0 {
			continue
		}
		last := answers(c, 0)
		for _, inputs := range rising {
			a := answers(c, inputs)
			for site, n := range last.things {
				if a.things[site] < n {
					t.Fatalf("of %s with %d: %v, but with less %v", said(c), inputs, a.things, last.things)
				}
				if site > 0 && a.things[site] > n {
					more++
				}
			}
			if a.steps < last.steps {
				t.Fatalf("of %s with %d: %d, but with less %d", said(c), inputs, a.steps, last.steps)
			}
			last = a
		}
	}
	if more < 300 {
		t.Errorf("%d became more: too few", more)
	}
}

func someIn(r *rand.Rand) []int64 {
	var in []int64
	for range r.Intn(6) {
		in = append(in, r.Int63n(9)-3)
	}
	return in
}

// wantWithin runs code for so many steps at most, whoever goes on, and asks that
// no more goes through any channel than is told.
func wantWithin(t *testing.T, r *rand.Rand, c api.Code, in []int64, steps int) (w *run, full int) {
	t.Helper()
	g, _ := tree.Grow(c)
	things := thingsOf(t, c, len(in))
	w = newRun(c, g, in)
	for range steps {
		ready := w.readyTasks()
		if len(ready) == 0 || len(w.tasks) > 200 {
			break
		}
		w.step(ready[r.Intn(len(ready))])
	}
	for site, n := range w.things {
		if n > things[site] {
			t.Fatalf("%s with %d: %v went through, but %v may", said(c), len(in), w.things, things)
		}
		if site > 0 && n > 0 && n == things[site] {
			full++
		}
	}
	return w, full
}

// What follows: no more goes through, of programs in which ends are used as it
// comes.
func TestNoMoreGoesThrough(t *testing.T) {
	r := rand.New(rand.NewSource(61))
	seen := map[string]int{}
	for _, src := range scribbled(62, 6000) {
		c := lowered(t, src)
		if _, f := tree.Grow(c); f.Code != 0 {
			seen["a crowd"]++
			continue
		}
		for range 3 {
			in := someIn(r)
			w, full := wantWithin(t, r, c, in, 400)
			things := thingsOf(t, c, len(in))
			seen["full"] += full
			for site, n := range w.things {
				switch {
				case things[site] == api.Cap && n > 0:
					seen["Cap"]++
				case n > 0:
					seen["some"]++
				}
			}
			if w.wrong > 0 {
				seen["wrong"]++
			}
		}
	}
	wantSeen(t, seen, 100, "full", "Cap", "some", "wrong")
}

// What follows: what is fine is over within so many steps, whoever goes on, and
// no more goes through.
func TestWhatIsFineEnds(t *testing.T) {
	r := rand.New(rand.NewSource(63))
	seen := map[string]int{}
	for _, src := range somePrograms(64, 4000) {
		c := lowered(t, src)
		v, f := order.Judge(c)
		if f.Code != 0 {
			continue
		}
		fine := order.Fine(v)
		for range 3 {
			in := someIn(r)
			steps := stepsOf(t, c, len(in))
			w, full := wantWithin(t, r, c, in, 3000)
			if !fine {
				continue
			}
			seen["fine"]++
			seen["full"] += full
			if steps < 3000 && (!w.over() || w.steps > steps || w.wrong > 0) {
				t.Fatalf("%s with %d: it is not over within %d steps: %d, %d of them wrong", src, len(in), steps, w.steps, w.wrong)
			}
			if w.steps == steps {
				seen["just as many"]++
			}
		}
	}
	wantSeen(t, seen, 100, "fine", "full", "just as many")
}

// What follows: of programs that do all that they may, so many go through, and
// take so many steps.
func TestBoundsThatAreMet(t *testing.T) {
	r := rand.New(rand.NewSource(65))
	for _, src := range []string{
		"stage main(in recv int) { drain in; }",
		"stage main(in recv int) { for x from in { emit x; } drain in; }",
		"stage f(a recv int, b send int) { for x from a { repeat 2 { send b x; } } drain a; close b; } stage main(in recv int) { chan s r int 1; spawn f(in, s); drain r; }",
		"stage f(a recv int, b send int) { for x from a { send b x; send b x; } drain a; close b; } stage main(in recv int) { chan s r int 1; chan u v int 3; spawn f(in, s); spawn f(r, u); drain v; }",
	} {
		c := lowered(t, src)
		for n := range 8 {
			w, _ := wantWithin(t, r, c, make([]int64, n), 3000)
			things, steps := thingsOf(t, c, n), stepsOf(t, c, n)
			if !slices.Equal(w.things, things) {
				t.Errorf("%s with %d: %v went through, want %v", src, n, w.things, things)
			}
			// A for and a drain of one channel both count all that goes through it,
			// so that there may be less steps.
			if !w.over() || w.steps > steps {
				t.Errorf("%s with %d: %d steps, want %d at most", src, n, w.steps, steps)
			}
		}
	}
}
