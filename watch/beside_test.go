package watch

import (
	"sync"
	"testing"

	"pipewright/api"
)

// P1: what is told hangs on the arguments alone: the same call once more tells the
// same, whatever was run in between.
func TestAgain(t *testing.T) {
	w := newWriter(31)
	var list []given
	var want []api.Report
	for range 300 {
		g := w.given()
		list = append(list, g)
		want = append(want, g.ran(t))
	}
	for _, k := range append(w.Perm(len(list)), w.Perm(len(list))...) {
		wantSame(t, list[k].ran(t), want[k])
		Run(list[k].C, nil, nil, -1)
		Run(api.Code{}, nil, nil, 5)
	}
}

// P1: runs at the same time know nothing of each other.
func TestBeside(t *testing.T) {
	w := newWriter(32)
	var list []given
	for range 40 {
		list = append(list, w.given())
	}
	reports := make([][]api.Report, 8)
	var all sync.WaitGroup
	for k := range reports {
		all.Go(func() {
			for _, g := range list {
				r, _ := Run(g.C, g.In, g.Picks, 120)
				reports[k] = append(reports[k], r)
			}
		})
	}
	all.Wait()
	for n, g := range list {
		want := g.ran(t)
		for k := range reports {
			wantSame(t, reports[k][n], want)
		}
	}
}
