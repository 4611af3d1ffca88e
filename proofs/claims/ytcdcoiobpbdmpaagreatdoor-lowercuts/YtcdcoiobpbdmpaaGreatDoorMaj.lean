import Derived.Test.YtcdcoiobpbdmpaaGreatDoorMai
namespace Go.Proofs.YtcdcoiobpbdmpaaGreatDoor
open Go.RowKit
theorem flatten_set {z:Nat} (l:List (List Value)) (hz: ∀ c ∈ l,c.length=z) (k j:Nat) (c:List Value) (u:Value) (hk:l[k]? =some c) (hj:j<z):l.flatten.set (k * z+j) u=(l.set k (c.set j u)).flatten:=by
 induction l generalizing k with
 |nil=>simp at hk
 |cons x r ih=>
  have hx:x.length=z:=hz x List.mem_cons_self
  cases k with
  |zero=>
   simp at hk
   subst hk
   rw [List.flatten_cons,Nat.zero_mul,Nat.zero_add,List.set_append_left _ _ (by omega),List.set_cons_zero,List.flatten_cons]
  |succ k=>
   rw [List.flatten_cons,List.set_append_right _ _ (by rw [hx,Nat.succ_mul];omega),hx,show (k+1) * z+j - z=k * z+j from by rw [Nat.succ_mul];omega,ih (fun c hc=>hz c (List.mem_cons_of_mem _ hc)) k (by simpa using hk),List.set_cons_succ,List.flatten_cons]
section
variable {C:MC} {m:MA} {s:Lw.St} {bk at':Int} {w:World}
theorem MK.poke (h:MK C m s bk at' w) (k:Nat) (u:Value):MS C.g m w m (w.setCell ⟨C.g,k,none⟩ u)∧(∀ j,j ≠ k→(w.setCell ⟨C.g,k,none⟩ u).cell? ⟨C.g,j,none⟩=w.cell? ⟨C.g,j,none⟩)∧(∀ j,j ≠ C.g→(w.setCell ⟨C.g,k,none⟩ u).heap[j]? =w.heap[j]?)∧(w.setCell ⟨C.g,k,none⟩ u).heap.size=w.heap.size∧ ∀ j,(w.setCell ⟨C.g,k,none⟩ u).frozen? ⟨C.g,j,none⟩=false:=by
 refine ⟨⟨(Kx.refl _ _).set (.inr (fun hn=>hn (.inl rfl))) _,fun _ h=> .inl h⟩,fun j hj=> ?_,fun j hj=> ?_,?_,fun j=> ?_⟩
 ·exact World.cell?_setCell_other _ _ _ _ (fun e=>by injection e with e1 e2;omega)
 ·exact Below.heap_setCell _ _ _ _ (fun e=>hj e)
 ·simp [World.setCell]
 ·rw [World.frozen?_setCell];exact h.thaw j
theorem MK.rows (h:MK C m s bk at' w) {w':World} (hk: ∀ j,j ≠ C.g→w'.heap[j]? =w.heap[j]?) (hs:w'.heap.size=w.heap.size) (hm:Kx (fun j=> ¬ m.mut C.g j) w w'):
  w'.ownsRow 0 98 2 (.slice m.av s.vs.length m.cv) s.vs.length (s.vs.flatMap Cd.vcl)∧w'.ownsRow (C.g+1) 92 4 (.slice m.ab s.bs.length m.cb) s.bs.length (s.bs.flatMap Cd.bcl)∧
  ∃ iv:List (List Value),w'.ownsRow (C.g+1) 44 11 (.slice m.ai s.is.length m.ci) s.is.length iv.flatten∧iv.length=s.is.length∧ ∀ (k:Nat) x,s.is[k]? =some x→ ∃ cs,iv[k]? =some cs∧IX w' (fun j=>j<w'.heap.size∧ ¬ m.mut C.g j∧ ¬ C.J j) x cs:=by
 obtain ⟨iv,i1,i2,i3⟩:=h.oi
 refine ⟨own_keepT h.ov (fun j hj=>hk j (h.d1 j (by rw [←ob_own m.av s.vs.length m.cv];exact hj)).1),own_keepT h.obk (fun j hj=>hk j (by have:=(h.obk.lt j hj).1;omega)),iv,own_keepT i1 (fun j hj=>hk j (by have:=(i1.lt j hj).1;omega)),i2,fun k x hx=> ?_⟩
 obtain ⟨cs,h1,h2⟩:=i3 k x hx
 exact ⟨cs,h1,h2.up (hm.mono (fun j _ hj=>hj.2.1)) (fun j hj=>⟨by rw [hs];exact hj.1,hj.2⟩)⟩
theorem MK.set6 (h:MK C m s bk at' w) (b2:Int):MK C m s b2 at' (w.setCell ⟨C.g,6,none⟩ (.int .i64 b2))∧MS C.g m w m (w.setCell ⟨C.g,6,none⟩ (.int .i64 b2)):=by
 obtain ⟨p1,p2,p3,p4,p5⟩:=h.poke 6 (.int .i64 b2)
 obtain ⟨r1,r2,r3⟩:=h.rows p3 p4 p1.kx
 exact ⟨⟨(p2 0 (by decide)).trans h.c0,(p2 1 (by decide)).trans h.c1,(p2 2 (by decide)).trans h.c2,(p2 3 (by decide)).trans h.c3,(p2 4 (by decide)).trans h.c4,(p2 5 (by decide)).trans h.c5,World.cell?_setCell_same _ _ _ h.c6,(p2 7 (by decide)).trans h.c7,r1,r2,r3,h.d1,h.d2,p5,by rw [p4];exact h.gl,h.vl,by rw [p4];exact h.jl⟩,p1⟩
theorem MK.set7 (h:MK C m s bk at' w) (b2:Int):MK C m s bk b2 (w.setCell ⟨C.g,7,none⟩ (.int .i64 b2))∧MS C.g m w m (w.setCell ⟨C.g,7,none⟩ (.int .i64 b2)):=by
 obtain ⟨p1,p2,p3,p4,p5⟩:=h.poke 7 (.int .i64 b2)
 obtain ⟨r1,r2,r3⟩:=h.rows p3 p4 p1.kx
 exact ⟨⟨(p2 0 (by decide)).trans h.c0,(p2 1 (by decide)).trans h.c1,(p2 2 (by decide)).trans h.c2,(p2 3 (by decide)).trans h.c3,(p2 4 (by decide)).trans h.c4,(p2 5 (by decide)).trans h.c5,(p2 6 (by decide)).trans h.c6,World.cell?_setCell_same _ _ _ h.c7,r1,r2,r3,h.d1,h.d2,p5,by rw [p4];exact h.gl,h.vl,by rw [p4];exact h.jl⟩,p1⟩
theorem MK.far {bj k:Nat} {u:Value} (h:MK C m s bk at' w) (hn: ¬ m.mut C.g bj) (hJ:C.J bj):MK C m s bk at' (w.setCell ⟨bj,k,none⟩ u):=by
 have hset: ∀ j,m.mut C.g j→(w.setCell ⟨bj,k,none⟩ u).heap[j]? =w.heap[j]? :=fun j hj=>Below.heap_setCell _ _ _ _ (fun e=>hn (by rw [show bj=j from e.symm];exact hj))
 have hsz:(w.setCell ⟨bj,k,none⟩ u).heap.size=w.heap.size:=by simp [World.setCell]
 have hc: ∀ j,(w.setCell ⟨bj,k,none⟩ u).cell? ⟨C.g,j,none⟩=w.cell? ⟨C.g,j,none⟩:=fun j=>World.cell?_of_block (a:=⟨C.g,j,none⟩) (hset C.g (.inl rfl))
 obtain ⟨iv,i1,i2,i3⟩:=h.oi
 refine ⟨(hc 0).trans h.c0,(hc 1).trans h.c1,(hc 2).trans h.c2,(hc 3).trans h.c3,(hc 4).trans h.c4,(hc 5).trans h.c5,(hc 6).trans h.c6,(hc 7).trans h.c7,own_keepT h.ov (fun j hj=>hset j (.inr (.inl (by rw [←ob_own m.av s.vs.length m.cv];exact hj)))),own_keepT h.obk (fun j hj=>hset j (.inr (.inr (.inl (by rw [←ob_own m.ab s.bs.length m.cb];exact hj))))),⟨iv,own_keepT i1 (fun j hj=>hset j (.inr (.inr (.inr (by rw [←ob_own m.ai s.is.length m.ci];exact hj))))),i2,fun k x hx=> ?_⟩,h.d1,h.d2,fun j=>by rw [World.frozen?_setCell];exact h.thaw j,by rw [hsz];exact h.gl,h.vl,by rw [hsz];exact h.jl⟩
 obtain ⟨cs,h1,h2⟩:=i3 k x hx
 exact ⟨cs,h1,h2.up ((Kx.refl _ _).set (.inr (fun hm=>hm.2.2 hJ)) _) (fun j hj=>⟨by rw [hsz];exact hj.1,hj.2⟩)⟩
theorem MK.aside {bj:Nat} (h:MK C m s bk at' w) {w':World} (hb:Below w.heap.size w w') (hj:w.heap.size≤bj) (hj':bj<w'.heap.size):MK ⟨C.g,fun j=>C.J j∨j=bj,C.nm,C.ps,C.uA⟩ m s bk at' w':=by
 have h1:=h.below hb
 obtain ⟨iv,i1,i2,i3⟩:=h.oi
 refine ⟨h1.c0,h1.c1,h1.c2,h1.c3,h1.c4,h1.c5,h1.c6,h1.c7,h1.ov,h1.obk,⟨iv,own_keepT i1 (fun j hj=>hb.block j (i1.lt j hj).2),i2,fun k x hx=> ?_⟩,h.d1,h.d2,h1.thaw,h1.gl,h.vl,fun j hj=>hj.elim (fun e=>h1.jl j e) (fun e=>by rw [e];exact hj')⟩
 obtain ⟨cs,h3,h4⟩:=i3 k x hx
 refine ⟨cs,h3,h4.up (Kx.of_below hb) (fun j hj2=>⟨Nat.lt_of_lt_of_le hj2.1 hb.size,hj2.2.1,fun e=> ?_⟩)⟩
 rcases e with e|e
 ·exact hj2.2.2 e
 ·have:=hj2.1;omega
theorem MK.back {J:Nat→Prop} (h:MK ⟨C.g,J,C.nm,C.ps,C.uA⟩ m s bk at' w) (hJ: ∀ j,C.J j→J j):MK C m s bk at' w:=by
 obtain ⟨iv,i1,i2,i3⟩:=h.oi
 refine ⟨h.c0,h.c1,h.c2,h.c3,h.c4,h.c5,h.c6,h.c7,h.ov,h.obk,⟨iv,i1,i2,fun k x hx=> ?_⟩,h.d1,h.d2,h.thaw,h.gl,h.vl,fun j hj=>h.jl j (hJ j hj)⟩
 obtain ⟨cs,h3,h4⟩:=i3 k x hx
 exact ⟨cs,h3,h4.up (Kx.refl _ _) (fun j hj=>⟨hj.1,hj.2.1,fun e=>hj.2.2 (hJ j e)⟩)⟩
theorem MK.addB (h:MK C m s bk at' w) {w1 w7:World} {gn cap:Nat} {b:Lw.Bk} (hb:Below w.heap.size w w1) (hown:w7.ownsRow (C.g+1) 92 4 (.slice (some ⟨gn,0,none⟩) (s.bs.length+1) cap) (s.bs.length+1) (s.bs.flatMap Cd.bcl++Cd.bcl b)) (hgr:w1.grownBy w7 (Value.slice m.ab s.bs.length m.cb).ownBlock) (hat:(Value.slice m.ab s.bs.length m.cb).ownBlock=some gn∨gn=w1.heap.size):
  MK C ⟨m.av,m.cv,some ⟨gn,0,none⟩,cap,m.ai,m.ci⟩ ⟨s.vs,s.bs++[b],s.is⟩ bk at' (w7.setCell ⟨C.g,3,none⟩ (.slice (some ⟨gn,0,none⟩) (s.bs.length+1) cap))∧MS C.g m w ⟨m.av,m.cv,some ⟨gn,0,none⟩,cap,m.ai,m.ci⟩ (w7.setCell ⟨C.g,3,none⟩ (.slice (some ⟨gn,0,none⟩) (s.bs.length+1) cap)):=by
 rw [ob_own] at hgr hat
 have h1:=h.below hb
 have hl1:=h1.lt
 have hobg:ob m.ab ≠ some C.g:=fun e=>by have:=(h1.obk.lt C.g (by rw [ob_own];exact e)).1;omega
 have hbl: ∀ j,j<w1.heap.size→ob m.ab ≠ some j→w7.heap[j]? =w1.heap[j]? :=fun j hj hne=>hgr.block j hj (fun e=>hne e.symm)
 have hc: ∀ k,w7.cell? ⟨C.g,k,none⟩=w1.cell? ⟨C.g,k,none⟩:=fun k=>World.cell?_of_block (a:=⟨C.g,k,none⟩) (hbl C.g h1.gl hobg)
 have hset: ∀ j,j ≠ C.g→(w7.setCell ⟨C.g,3,none⟩ (.slice (some ⟨gn,0,none⟩) (s.bs.length+1) cap)).heap[j]? =w7.heap[j]? :=fun j hj=>Below.heap_setCell _ _ _ _ (fun e=>hj e)
 have hsz:(w7.setCell ⟨C.g,3,none⟩ (.slice (some ⟨gn,0,none⟩) (s.bs.length+1) cap)).heap.size=w7.heap.size:=by simp [World.setCell]
 have hco: ∀ k,k ≠ 3→(w7.setCell ⟨C.g,3,none⟩ (.slice (some ⟨gn,0,none⟩) (s.bs.length+1) cap)).cell? ⟨C.g,k,none⟩=w1.cell? ⟨C.g,k,none⟩:=fun k hk=>(World.cell?_setCell_other _ _ _ _ (fun e=>by injection e with e1 e2;omega)).trans (hc k)
 have kx1:Kx (fun j=> ¬ m.mut C.g j) w1 (w7.setCell ⟨C.g,3,none⟩ (.slice (some ⟨gn,0,none⟩) (s.bs.length+1) cap)):=((Kx.refl _ _).grown hgr (fun k hk=> .inr (fun hn=>hn (.inr (.inr (.inl hk)))))).set (.inr (fun hn=>hn (.inl rfl))) _
 have hgn:gn ≠ C.g:=fun e=>by have:=(hown.lt gn rfl).1;omega
 have hmu: ∀ j,MA.mut ⟨m.av,m.cv,some ⟨gn,0,none⟩,cap,m.ai,m.ci⟩ C.g j→m.mut C.g j∨w1.heap.size≤j:=by
  rintro j (h3|h3|h3|h3)
  ·exact .inl (.inl h3)
  ·exact .inl (.inr (.inl h3))
  ·have e:gn=j:=by simpa [ob] using h3
   rcases hat with h4|h4
   ·exact .inl (.inr (.inr (.inl (by rw [h4,e]))))
   ·exact .inr (by omega)
  ·exact .inl (.inr (.inr (.inr h3)))
 obtain ⟨iv,i1,i2,i3⟩:=h1.oi
 refine ⟨⟨(hco 0 (by decide)).trans h1.c0,(hco 1 (by decide)).trans h1.c1,(hco 2 (by decide)).trans h1.c2,?_,(hco 4 (by decide)).trans h1.c4,(hco 5 (by decide)).trans h1.c5,(hco 6 (by decide)).trans h1.c6,(hco 7 (by decide)).trans h1.c7,?_,?_,⟨iv,?_,i2,fun k x hx=> ?_⟩,?_,?_,?_,?_,h.vl,fun j hj=>by rw [hsz];exact Nat.lt_of_lt_of_le (h1.jl j hj) hgr.size⟩,MS.trans (MS.of_below hb) ⟨kx1,hmu⟩⟩
 ·rw [List.length_append];exact World.cell?_setCell_same _ _ _ ((hc 3).trans h1.c3)
 ·refine own_keepT h1.ov (fun j hj=> ?_)
  have hj':ob m.av=some j:=by rw [←ob_own m.av s.vs.length m.cv];exact hj
  exact (hset j (h.d1 j hj').1).trans (hbl j (h1.ov.lt j hj).2 (h.d1 j hj').2.1)
 ·rw [List.length_append,List.flatMap_append]
  have:w7.ownsRow (C.g+1) 92 4 (.slice (some ⟨gn,0,none⟩) (s.bs.length+[b].length) cap) (s.bs.length+[b].length) (s.bs.flatMap Cd.bcl++[b].flatMap Cd.bcl):=by simpa using hown
  exact ownsRow_setCell_below this (a:=⟨C.g,3,none⟩) (by show C.g<C.g+1;omega) _
 ·refine own_keepT i1 (fun j hj=> ?_)
  have hj':ob m.ai=some j:=by rw [←ob_own m.ai s.is.length m.ci];exact hj
  exact (hset j (by have:=(i1.lt j hj).1;omega)).trans (hbl j (i1.lt j hj).2 (fun e=>h.d2 j e hj'))
 ·obtain ⟨cs,h3,h4⟩:=i3 k x hx
  refine ⟨cs,h3,h4.up (kx1.mono (fun j _ hj=>hj.2.1)) (fun j hj=>⟨?_,fun hm=> ?_,hj.2.2⟩)⟩
  ·rw [hsz];exact Nat.lt_of_lt_of_le hj.1 hgr.size
  ·rcases hmu j hm with h5|h5
   ·exact hj.2.1 h5
   ·omega
 ·intro j hj
  refine ⟨(h.d1 j hj).1,fun e=> ?_,(h.d1 j hj).2.2⟩
  have e2:gn=j:=by simpa [ob] using e
  rcases hat with h4|h4
  ·exact (h.d1 j hj).2.1 (by rw [h4,e2])
  ·have:=hl1 j (.inr (.inl hj));omega
 ·intro j hj e
  have e2:gn=j:=by simpa [ob] using hj
  rcases hat with h4|h4
  ·exact h.d2 j (by rw [h4,e2]) e
  ·have:=hl1 j (.inr (.inr (.inr e)));omega
 ·intro k
  rw [World.frozen?_setCell]
  exact (World.frozen?_of_block (a:=⟨C.g,k,none⟩) (hbl C.g h1.gl hobg)).trans (h1.thaw k)
 ·rw [hsz];exact Nat.lt_of_lt_of_le h1.gl hgr.size
theorem MK.addV (h:MK C m s bk at' w) (hvl:s.vs.length<1000000) {w1 w7:World} {gn cap:Nat} {b:Lw.Vr} (hb:Below w.heap.size w w1) (hown:w7.ownsRow 0 98 2 (.slice (some ⟨gn,0,none⟩) (s.vs.length+1) cap) (s.vs.length+1) (s.vs.flatMap Cd.vcl++Cd.vcl b)) (hgr:w1.grownBy w7 (Value.slice m.av s.vs.length m.cv).ownBlock) (hat:(Value.slice m.av s.vs.length m.cv).ownBlock=some gn∨gn=w1.heap.size):
  MK C ⟨some ⟨gn,0,none⟩,cap,m.ab,m.cb,m.ai,m.ci⟩ ⟨s.vs++[b],s.bs,s.is⟩ bk at' (w7.setCell ⟨C.g,1,none⟩ (.slice (some ⟨gn,0,none⟩) (s.vs.length+1) cap))∧MS C.g m w ⟨some ⟨gn,0,none⟩,cap,m.ab,m.cb,m.ai,m.ci⟩ (w7.setCell ⟨C.g,1,none⟩ (.slice (some ⟨gn,0,none⟩) (s.vs.length+1) cap)):=by
 rw [ob_own] at hgr hat
 have h1:=h.below hb
 have hl1:=h1.lt
 have hobg:ob m.av ≠ some C.g:=fun e=>(h1.d1 C.g e).1 rfl
 have hbl: ∀ j,j<w1.heap.size→ob m.av ≠ some j→w7.heap[j]? =w1.heap[j]? :=fun j hj hne=>hgr.block j hj (fun e=>hne e.symm)
 have hc: ∀ k,w7.cell? ⟨C.g,k,none⟩=w1.cell? ⟨C.g,k,none⟩:=fun k=>World.cell?_of_block (a:=⟨C.g,k,none⟩) (hbl C.g h1.gl hobg)
 have hset: ∀ j,j ≠ C.g→(w7.setCell ⟨C.g,1,none⟩ (.slice (some ⟨gn,0,none⟩) (s.vs.length+1) cap)).heap[j]? =w7.heap[j]? :=fun j hj=>Below.heap_setCell _ _ _ _ (fun e=>hj e)
 have hsz:(w7.setCell ⟨C.g,1,none⟩ (.slice (some ⟨gn,0,none⟩) (s.vs.length+1) cap)).heap.size=w7.heap.size:=by simp [World.setCell]
 have hco: ∀ k,k ≠ 1→(w7.setCell ⟨C.g,1,none⟩ (.slice (some ⟨gn,0,none⟩) (s.vs.length+1) cap)).cell? ⟨C.g,k,none⟩=w1.cell? ⟨C.g,k,none⟩:=fun k hk=>(World.cell?_setCell_other _ _ _ _ (fun e=>by injection e with e1 e2;omega)).trans (hc k)
 have kx1:Kx (fun j=> ¬ m.mut C.g j) w1 (w7.setCell ⟨C.g,1,none⟩ (.slice (some ⟨gn,0,none⟩) (s.vs.length+1) cap)):=((Kx.refl _ _).grown hgr (fun k hk=> .inr (fun hn=>hn (.inr (.inl hk))))).set (.inr (fun hn=>hn (.inl rfl))) _
 have hgn:gn ≠ C.g:=fun e=>by
  rcases hat with h4|h4
  ·exact hobg (by rw [h4,e])
  ·have:=h1.gl;omega
 have hmu: ∀ j,MA.mut ⟨some ⟨gn,0,none⟩,cap,m.ab,m.cb,m.ai,m.ci⟩ C.g j→m.mut C.g j∨w1.heap.size≤j:=by
  rintro j (h3|h3|h3|h3)
  ·exact .inl (.inl h3)
  ·have e:gn=j:=by simpa [ob] using h3
   rcases hat with h4|h4
   ·exact .inl (.inr (.inl (by rw [h4,e])))
   ·exact .inr (by omega)
  ·exact .inl (.inr (.inr (.inl h3)))
  ·exact .inl (.inr (.inr (.inr h3)))
 obtain ⟨iv,i1,i2,i3⟩:=h1.oi
 refine ⟨⟨(hco 0 (by decide)).trans h1.c0,?_,(hco 2 (by decide)).trans h1.c2,(hco 3 (by decide)).trans h1.c3,(hco 4 (by decide)).trans h1.c4,(hco 5 (by decide)).trans h1.c5,(hco 6 (by decide)).trans h1.c6,(hco 7 (by decide)).trans h1.c7,?_,?_,⟨iv,?_,i2,fun k x hx=> ?_⟩,?_,h.d2,?_,?_,by rw [List.length_append];exact hvl,fun j hj=>by rw [hsz];exact Nat.lt_of_lt_of_le (h1.jl j hj) hgr.size⟩,MS.trans (MS.of_below hb) ⟨kx1,hmu⟩⟩
 ·rw [List.length_append];exact World.cell?_setCell_same _ _ _ ((hc 1).trans h1.c1)
 ·rw [List.length_append,List.flatMap_append]
  have:w7.ownsRow 0 98 2 (.slice (some ⟨gn,0,none⟩) (s.vs.length+[b].length) cap) (s.vs.length+[b].length) (s.vs.flatMap Cd.vcl++[b].flatMap Cd.vcl):=by simpa using hown
  exact own_keepT this (fun j hj=>hset j (by have e2:gn=j:=by simpa [Value.ownBlock] using hj
                                             rw [←e2];exact hgn))
 ·refine own_keepT h1.obk (fun j hj=> ?_)
  have hj':ob m.ab=some j:=by rw [←ob_own m.ab s.bs.length m.cb];exact hj
  exact (hset j (by have:=(h1.obk.lt j hj).1;omega)).trans (hbl j (h1.obk.lt j hj).2 (fun e=>(h.d1 j e).2.1 hj'))
 ·refine own_keepT i1 (fun j hj=> ?_)
  have hj':ob m.ai=some j:=by rw [←ob_own m.ai s.is.length m.ci];exact hj
  exact (hset j (by have:=(i1.lt j hj).1;omega)).trans (hbl j (i1.lt j hj).2 (fun e=>(h.d1 j e).2.2 hj'))
 ·obtain ⟨cs,h3,h4⟩:=i3 k x hx
  refine ⟨cs,h3,h4.up (kx1.mono (fun j _ hj=>hj.2.1)) (fun j hj=>⟨?_,fun hm=> ?_,hj.2.2⟩)⟩
  ·rw [hsz];exact Nat.lt_of_lt_of_le hj.1 hgr.size
  ·rcases hmu j hm with h5|h5
   ·exact hj.2.1 h5
   ·omega
 ·intro j hj
  have e2:gn=j:=by simpa [ob] using hj
  rw [←e2]
  refine ⟨hgn,fun e=> ?_,fun e=> ?_⟩
  ·rcases hat with h4|h4
   ·exact (h.d1 gn h4).2.1 e
   ·have:=hl1 gn (.inr (.inr (.inl e)));omega
  ·rcases hat with h4|h4
   ·exact (h.d1 gn h4).2.2 e
   ·have:=hl1 gn (.inr (.inr (.inr e)));omega
 ·intro k
  rw [World.frozen?_setCell]
  exact (World.frozen?_of_block (a:=⟨C.g,k,none⟩) (hbl C.g h1.gl hobg)).trans (h1.thaw k)
 ·rw [hsz];exact Nat.lt_of_lt_of_le h1.gl hgr.size
theorem Lw.setTo_some {s s':Lw.St} {k:Nat} {to:Int} (h:Lw.setTo s k to=some s'): ∃ x,s.is[k]? =some x∧s'=⟨s.vs,s.bs,s.is.set k ⟨x.op,x.a,x.b,x.n,to,x.t,x.e,x.args,x.bk,x.lp,x.at'⟩⟩:=by
 unfold Lw.setTo at h
 cases hx:s.is[k]? with
 |none=>rw [hx] at h;cases h
 |some x=>rw [hx] at h;exact ⟨x,rfl,(Option.some.inj h).symm⟩
theorem MK.turn {s':Lw.St} {k:Nat} {to:Int} (h:MK C m s bk at' w) (hs:Lw.setTo s k to=some s'):
  k<s.is.length∧ ∃ gi,m.ai=some ⟨gi,0,none⟩∧(∃ x,w.cell? ⟨gi,k * 11+4,none⟩=some (.int .i64 x))∧w.frozen? ⟨gi,k * 11+4,none⟩=false∧MK C m s' bk at' (w.setCell ⟨gi,k * 11+4,none⟩ (.int .i64 to))∧MS C.g m w m (w.setCell ⟨gi,k * 11+4,none⟩ (.int .i64 to)):=by
 obtain ⟨x,hx,rfl⟩:=Lw.setTo_some hs
 have hk:=(List.getElem?_eq_some_iff.1 hx).1
 obtain ⟨iv,i1,i2,i3⟩:=h.oi
 rcases i1.2 with ⟨_,h0⟩|⟨gi,cap,cur,hv,_⟩
 ·omega
 obtain ⟨hai,hci⟩:m.ai=some ⟨gi,0,none⟩∧m.ci=cap:=by simpa using hv
 have hlen: ∀ c ∈ iv,c.length=11:=by
  intro c hc
  obtain ⟨j,hj,he⟩:=List.mem_iff_getElem.1 hc
  obtain ⟨y,hy⟩: ∃ y,s.is[j]? =some y:=⟨_,List.getElem?_eq_getElem (by omega)⟩
  obtain ⟨cs,h1,h2⟩:=i3 j y hy
  rw [List.getElem?_eq_getElem hj] at h1
  obtain rfl:=Option.some.inj h1
  rw [←he];exact h2.len
 obtain ⟨cs,hcs,hix⟩:=i3 k x hx
 obtain ⟨ae,ce,aa,ca,e1,e2,e3⟩:=hix
 have hob:ob m.ai=some gi:=by rw [hai];rfl
 have hgi:gi ≠ C.g:=fun e=>by have:=(i1.lt gi (by rw [ob_own];exact hob)).1;omega
 have hfl:=flatten_set iv hlen k 4 cs (.int .i64 to) hcs (by decide)
 have hset: ∀ j,j ≠ gi→(w.setCell ⟨gi,k * 11+4,none⟩ (.int .i64 to)).heap[j]? =w.heap[j]? :=fun j hj=>Below.heap_setCell _ _ _ _ (fun e=>hj e)
 have hco: ∀ j,(w.setCell ⟨gi,k * 11+4,none⟩ (.int .i64 to)).cell? ⟨C.g,j,none⟩=w.cell? ⟨C.g,j,none⟩:=fun j=>World.cell?_of_block (a:=⟨C.g,j,none⟩) (hset C.g (fun e=>hgi e.symm))
 have hsz:(w.setCell ⟨gi,k * 11+4,none⟩ (.int .i64 to)).heap.size=w.heap.size:=by simp [World.setCell]
 have kx:Kx (fun j=> ¬ m.mut C.g j) w (w.setCell ⟨gi,k * 11+4,none⟩ (.int .i64 to)):=(Kx.refl _ _).set (.inr (fun hn=>hn (.inr (.inr (.inr hob))))) _
 rw [hai,hci] at i1
 refine ⟨hk,gi,hai,⟨x.to,?_⟩,i1.frozenAt _,⟨(hco 0).trans h.c0,(hco 1).trans h.c1,(hco 2).trans h.c2,(hco 3).trans h.c3,?_,(hco 5).trans h.c5,(hco 6).trans h.c6,(hco 7).trans h.c7,?_,?_,⟨iv.set k (cs.set 4 (.int .i64 to)),?_,?_,fun j y hy=> ?_⟩,h.d1,h.d2,?_,?_,h.vl,fun j hj=>by rw [hsz];exact h.jl j hj⟩,⟨kx,fun _ h=> .inl h⟩⟩
 ·rw [i1.cellAt _ (by omega)]
  have hcell: ∀ (l:List (List Value)) (k:Nat),(∀ c ∈ l,c.length=11)→l[k]? =some cs→l.flatten[k * 11+4]? =some (.int .i64 x.to):=by
   intro l
   induction l with
   |nil=>intro k _ h;simp at h
   |cons a r ih=>
    intro k hl hk
    have ha:a.length=11:=hl a List.mem_cons_self
    cases k with
    |zero=>
     simp at hk
     subst hk
     rw [List.flatten_cons,List.getElem?_append_left (by omega),e1]
     rfl
    |succ k=>
     rw [List.flatten_cons,List.getElem?_append_right (by omega),ha,show (k+1) * 11+4 - 11=k * 11+4 from by omega]
     exact ih k (fun c hc=>hl c (List.mem_cons_of_mem _ hc)) (by simpa using hk)
  exact hcell iv k hlen hcs
 ·rw [List.length_set];exact (hco 4).trans h.c4
 ·exact own_keepT h.ov (fun j hj=>hset j (fun e=>(h.d1 j (by rw [←ob_own m.av s.vs.length m.cv];exact hj)).2.2 (by rw [e];exact hob)))
 ·exact own_keepT h.obk (fun j hj=>hset j (fun e=>h.d2 j (by rw [←ob_own m.ab s.bs.length m.cb];exact hj) (by rw [e];exact hob)))
 ·rw [List.length_set,hai,hci,←hfl]
  exact (i1.stored (k * 11+4) (.int .i64 to)).1
 ·simp [i2]
 ·have hN: ∀ j,(j<w.heap.size∧ ¬ m.mut C.g j∧ ¬ C.J j)→(j<(w.setCell ⟨gi,k * 11+4,none⟩ (.int .i64 to)).heap.size∧ ¬ m.mut C.g j∧ ¬ C.J j):=fun j hj=>⟨by rw [hsz];exact hj.1,hj.2⟩
  have kxN:=kx.mono (Y:=fun j=>j<w.heap.size∧ ¬ m.mut C.g j∧ ¬ C.J j) (fun j _ hj=>hj.2.1)
  by_cases hjk:j=k
  ·subst hjk
   rw [List.getElem?_set_self hk] at hy
   obtain rfl:=Option.some.inj hy
   refine ⟨_,List.getElem?_set_self (by omega),ae,ce,aa,ca,?_,e2.up kxN hN,e3.up kxN hN⟩
   rw [e1];rfl
  ·rw [List.getElem?_set_ne (fun e=>hjk e.symm)] at hy
   obtain ⟨cs2,h3,h4⟩:=i3 j y hy
   exact ⟨cs2,by rw [List.getElem?_set_ne (fun e=>hjk e.symm)];exact h3,h4.up kxN hN⟩
 ·intro j
  rw [World.frozen?_setCell]
  exact h.thaw j
 ·rw [hsz];exact h.gl
end
end Go.Proofs.YtcdcoiobpbdmpaaGreatDoor
