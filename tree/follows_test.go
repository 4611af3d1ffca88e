package tree

import (
	"math/rand"
	"slices"
	"testing"

	"pipewright/api"
)

// witness is that a variable of a task had an end of a channel.
type witness struct{ node, v, site int }

// watch runs code for so many steps, whoever goes on, and asks at each step
// that each variable has only what the tree names there.
func watch(t *testing.T, r *rand.Rand, c api.Code, g api.Tree, steps int, seen map[witness]bool) *run {
	t.Helper()
	var in []int64
	for range r.Intn(5) {
		in = append(in, r.Int63n(9)-4)
	}
	w := newRun(c, g, in)
	for range steps {
		var ready []int
		for k := range w.tasks {
			if w.ready(k) {
				ready = append(ready, k)
			}
		}
		if len(ready) == 0 || len(w.tasks) > 60 {
			break
		}
		w.step(ready[r.Intn(len(ready))])
		for _, k := range w.tasks {
			for v, e := range k.ends {
				if e < 0 {
					continue
				}
				site := w.chans[w.ends[e].of].site
				if !slices.Contains(g.May[k.node][v], site) {
					t.Fatalf("%s: the variable %d of the task %d has an end of %d, but %s", said(c), v, k.node, site, toldMay(g))
				}
				seen[witness{k.node, v, site}] = true
			}
		}
	}
	return w
}

// What follows: of code as it comes, that is mostly wrong.
func TestRunsHaveWhatTheTreeNames(t *testing.T) {
	r := rand.New(rand.NewSource(51))
	named, found, taken := 0, 0, 0
	for _, c := range append(someCodes(52, 3000, 12), someCodes(53, 1500, 40)...) {
		g, f := Grow(c)
		if f.Code != 0 {
			continue
		}
		seen := map[witness]bool{}
		for range 4 {
			watch(t, r, c, g, 150, seen)
		}
		found += len(seen)
		for _, may := range g.May {
			for _, list := range may {
				named += len(list)
			}
		}
		for w := range seen {
			if s := g.Sites[w.site]; s.Task != w.node {
				taken++
			}
		}
	}
	if found < 5000 || taken < 1000 || found > named {
		t.Errorf("of %d that the trees name %d are found, %d of them elsewhere: too few", named, found, taken)
	}
}

// programs that hand ends round, and use none wrongly.
var programs = []string{
	`stage f(s send int) { close s; }
stage main(in recv int) { chan a b int 1; spawn f(a); drain b; drain in; }`,
	`stage serve(q recv send int) { for s from q { send s 7; close s; } drain q; }
stage ask(q send send int, n int) { repeat n { chan s r int 1; send q s; for x from r { emit x + n; } drain r; } close q; }
stage main(in recv int) {
	chan q p send int 2;
	clone o q;
	spawn serve(p);
	spawn ask(q, 1);
	spawn ask(o, 3);
	drain in;
}`,
	`stage hand(a recv recv int, b send recv int) { for x from a { send b x; } drain a; close b; }
stage main(in recv int) {
	chan a b recv int 1;
	chan c d recv int 2;
	chan e f recv int 3;
	spawn hand(b, c);
	spawn hand(d, e);
	repeat 4 { chan s r int 1; send s 1; close s; send a r; }
	send a in;
	close a;
	for y from f { for z from y { emit z; } drain y; }
	drain f;
}`,
	`stage inner(u send send recv int, n int) {
	chan v w recv int 1;
	send u v;
	close u;
	for x from w { for k from x { emit k * n; } drain x; }
	drain w;
}
stage outer(n int) {
	chan u t send recv int 1;
	spawn inner(u, n + 1);
	for v from t { chan s r int 5; send v r; close v; repeat n { send s n; } close s; }
	drain t;
}
stage main(in recv int) { for x from in { spawn outer(x); spawn outer(2); } drain in; spawn outer(1); }`,
}

// What follows: of programs in which each list is just what comes to be.
func TestRunsHaveAllThatTheTreeNames(t *testing.T) {
	r := rand.New(rand.NewSource(54))
	for _, src := range programs {
		c := lowered(t, src)
		g := grown(t, c)
		seen := map[witness]bool{}
		for range 60 {
			if w := watch(t, r, c, g, 3000, seen); w.wrong > 0 {
				t.Fatalf("%s: something is used wrongly", src)
			}
		}
		for node, may := range g.May {
			for v, list := range may {
				for _, site := range list {
					if !seen[witness{node, v, site}] {
						t.Errorf("%s: the variable %d of the task %d never has an end of %d", src, v, node, site)
					}
				}
			}
		}
	}
}
