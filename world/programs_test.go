package world

// programs that hand ends round; all but the last ones use none wrongly.
var programs = []string{
	`stage main(in recv int) { for x from in { emit x; } drain in; }`,
	`stage f(s send int) { close s; }
stage main(in recv int) { chan a b int 1; spawn f(a); drain b; drain in; }`,
	`stage serve(q recv send int) { for s from q { send s 7; close s; } drain q; }
stage ask(q send send int, n int) { repeat n { chan s r int 1; send q s; for x from r { emit x + n; } drain r; } close q; }
stage main(in recv int) {
	chan q p send int 2;
	clone o q;
	spawn serve(p);
	spawn ask(q, 1);
	spawn ask(o, 3);
	drain in;
}`,
	`stage hand(a recv recv int, b send recv int) { for x from a { send b x; } drain a; close b; }
stage main(in recv int) {
	chan a b recv int 1;
	chan c d recv int 2;
	chan e f recv int 3;
	spawn hand(b, c);
	spawn hand(d, e);
	repeat 4 { chan s r int 1; send s 1; close s; send a r; }
	send a in;
	close a;
	for y from f { for z from y { emit z; } drain y; }
	drain f;
}`,
	`stage inner(u send send recv int, n int) {
	chan v w recv int 1;
	send u v;
	close u;
	for x from w { for k from x { emit k * n; } drain x; }
	drain w;
}
stage outer(n int) {
	chan u t send recv int 1;
	spawn inner(u, n + 1);
	for v from t { chan s r int 5; send v r; close v; repeat n { send s n; } close s; }
	drain t;
}
stage main(in recv int) { for x from in { spawn outer(x); spawn outer(2); } drain in; spawn outer(1); }`,
	`stage f(a recv int, b send int) { for x from a { send b x; } drain a; close b; }
stage main(in recv int) { chan s r int 1; chan u v int 1; spawn f(r, u); spawn f(v, s); send s 1; drain in; }`,
	`stage f(s send int) { send s 1; send s 2; }
stage main(in recv int) { chan s r int 1; spawn f(s); close s; send s 1; take x from r { emit x; } drain r; close s; }`,
	`stage two(a recv int, b recv int) { take x from a { emit x; } else { emit 0 - 1; } abandon b; }
stage main(in recv int) { chan s r int 2; send s 4; spawn two(r, r); spawn two(r, in); close s; drain in; }`,
}
