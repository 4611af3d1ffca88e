import Derived.Test.YtcdcoiobpbdmpaaGreatDoorMbk
namespace Go.Proofs.YtcdcoiobpbdmpaaGreatDoor
open Go.RowKit Go.Maps Go.ChangeMaps
set_option maxRecDepth 100000 in
set_option maxHeartbeats 1000000 in
theorem newNames_any (w:World):
  Calls Tryz.prog 39 #[] w fun e w'=> ∃ mb mo,e= .returned (.agg #[.slice none 0 0,.map (some mb),.map (some mo)])∧MV w' mb 0 (fun _=>none)∧MV w' mo 0 (fun _=>none)∧mb ≠ mo∧w.heap.size≤mb∧w.heap.size≤mo∧Kp [] w w':=by
 have hmm:= @run_makeMap Tryz.prog
 go_enter Tryz.func39,Tryz.ntmps39
 go_wp2
 refine bodyPost_ret (v:= .agg #[.slice none 0 0,.map (some (w.heap.size+1)),.map (some (w.heap.size+1+1))]) (by simp [results,Tryz.results39,go_sem]) rfl ?_
 have m1:=MV.made (w.alloc (.cells #[.slice none 0 0,.map (some (w.heap.size+1)),.map (some (w.heap.size+1+1))] 81))
 have m2:=MV.made ((w.alloc (.cells #[.slice none 0 0,.map (some (w.heap.size+1)),.map (some (w.heap.size+1+1))] 81)).alloc (.map #[] 0))
 have e1:(w.alloc (.cells #[.slice none 0 0,.map (some (w.heap.size+1)),.map (some (w.heap.size+1+1))] 81)).heap.size=w.heap.size+1:=by simp
 have e2:((w.alloc (.cells #[.slice none 0 0,.map (some (w.heap.size+1)),.map (some (w.heap.size+1+1))] 81)).alloc (.map #[] 0)).heap.size=w.heap.size+1+1:=by simp
 rw [e1] at m1
 rw [e2] at m2
 exact ⟨_,_,rfl,m1.of_block (Below.heap_alloc _ _ _ (by rw [e2];omega)),m2,by omega,by omega,by omega,(((Kp.refl _ _).alloc _).alloc _).alloc _⟩
structure CK (g ma na:Nat) (fa:List UInt8→Option Value) (w:World) (t:Nat):Prop where
 lt:g<w.heap.size
 c0: ∃ a n c,w.cell? ⟨g,0,none⟩=some (.slice a n c)
 c1: ∃ m,w.cell? ⟨g,1,none⟩=some (.map m)
 c2: ∃ m,w.cell? ⟨g,2,none⟩=some (.map m)
 c3:w.cell? ⟨g,3,none⟩=some (.map (some ma))
 c4:w.cell? ⟨g,4,none⟩=some (.int .i64 t)
 fz: ∀ k,w.frozen? ⟨g,k,none⟩=false
 mv:MV w ma na fa
 lat:t≤100000
theorem CK.kp {g ma na:Nat} {fa:List UInt8→Option Value} {w w':World} {t:Nat} (h:CK g ma na fa w t) (k:Kp [] w w'):CK g ma na fa w' t:=by
 obtain ⟨a,n,c,h0⟩:=h.c0
 obtain ⟨m1,h1⟩:=h.c1
 obtain ⟨m2,h2⟩:=h.c2
 exact ⟨Nat.lt_of_lt_of_le h.lt k.size,⟨a,n,c,k.some h0 (by simp)⟩,⟨m1,k.some h1 (by simp)⟩,⟨m2,k.some h2 (by simp)⟩,k.some h.c3 (by simp),k.some h.c4 (by simp),fun j=>(k.frozen (p:=⟨g,j,none⟩) h.lt (by simp)).trans (h.fz j),h.mv.of_block (k.block _ h.mv.lt (by simp)),h.lat⟩
theorem CK.begin {g ma na mb mo:Nat} {fa:List UInt8→Option Value} {w w':World} {t:Nat} (h:CK g ma na fa w t) (k:Kp [] w w') (h1:MV w' mb 0 (fun _=>none)) (h2:MV w' mo 0 (fun _=>none)) (hne:mb ≠ mo) (hb:w.heap.size≤mb) (ho:w.heap.size≤mo):
  KS ⟨g,mb,mo,ma,na,fa⟩ (((w'.setCell ⟨g,0,none⟩ (.slice none 0 0)).setCell ⟨g,1,none⟩ (.map (some mb))).setCell ⟨g,2,none⟩ (.map (some mo))) (.slice none 0 0) [] (Kn.fkn [] []) t:=by
 have hk:=h.kp k
 obtain ⟨a,n,c,d0⟩:=hk.c0
 obtain ⟨m1,d1⟩:=hk.c1
 obtain ⟨m2,d2⟩:=hk.c2
 have d3:=hk.c3
 have d4:=hk.c4
 have hgl:=h.lt
 have hml:=h.mv.lt
 have hset: ∀ b,b ≠ g→(((w'.setCell ⟨g,0,none⟩ (.slice none 0 0)).setCell ⟨g,1,none⟩ (.map (some mb))).setCell ⟨g,2,none⟩ (.map (some mo))).heap[b]? =w'.heap[b]? :=fun b hb=>by
  rw [Below.heap_setCell _ _ _ _ (fun e=>hb e),Below.heap_setCell _ _ _ _ (fun e=>hb e),Below.heap_setCell _ _ _ _ (fun e=>hb e)]
 have nag:ma ≠ g:=fun e=>hk.mv.no_cell 3 _ (by rw [e];exact d3)
 refine ⟨by simpa using hk.lt,by simp [go_sem,d0],by simp [go_sem,d1],by simp [go_sem,d2],by simp [go_sem,d3],by simp [go_sem,d4],?_,⟨rfl,.inl ⟨rfl,rfl⟩⟩,h1.of_block (hset _ (by omega)),h2.of_block (hset _ (by omega)),hk.mv.of_block (hset _ nag),hne,⟨by show ma ≠ mb;omega,by show ma ≠ mo;omega⟩,⟨by show g<mb;omega,by show g<mo;omega⟩,by simp,h.lat,fun v hv=>by cases hv⟩
 intro j
 have:=hk.fz j
 simp [go_sem,this]
structure GX (c:Kg) (vv:Value) (w:World) (b:Nat) (nm:List UInt8) (at':Int) (uP uB:Value):Prop where
 q0:w.cell? ⟨b,0,none⟩=some (.string (bs nm))
 q1:w.cell? ⟨b,1,none⟩=some (.int .i64 at')
 q2:w.cell? ⟨b,2,none⟩=some uP
 q3:w.cell? ⟨b,3,none⟩=some uB
 r0:w.cell? ⟨b+1,0,none⟩=some (.int .i64 0)
 r1:w.cell? ⟨b+1,1,none⟩=some (.int .i64 0)
 f0:w.frozen? ⟨b+1,0,none⟩=false
 f1:w.frozen? ⟨b+1,1,none⟩=false
 bb:Bs c vv w b
 br:Bs c vv w (b+1)
theorem GX.go {c:Kg} {vv vv':Value} {w w':World} {b:Nat} {nm:List UInt8} {at':Int} {uP uB:Value} (h:GX c vv w b nm at' uP uB) (k:Kf c vv w vv' w'):GX c vv' w' b nm at' uP uB:=
 ⟨k.kp.some h.q0 h.bb.not,k.kp.some h.q1 h.bb.not,k.kp.some h.q2 h.bb.not,k.kp.some h.q3 h.bb.not,k.kp.some h.r0 h.br.not,k.kp.some h.r1 h.br.not,(k.kp.frozen (p:=⟨b+1,0,none⟩) h.br.lt h.br.not).trans h.f0,(k.kp.frozen (p:=⟨b+1,1,none⟩) h.br.lt h.br.not).trans h.f1,h.bb.go k,h.br.go k⟩
theorem GX.kp {c:Kg} {vv:Value} {w w':World} {b:Nat} {nm:List UInt8} {at':Int} {uP uB:Value} (h:GX c vv w b nm at' uP uB) (k:Kp [] w w'):GX c vv w' b nm at' uP uB:=h.go (Kf.of_kp k)
def Kn.sg (n:Nat) (ab:List Sx.Tr) (V:List Kn.Nv) (nm:List UInt8) (body:List Sx.Tr) (a:Nat) (k:Int):Kn.Rs:=
 if (Kn.abv ab nm).isSome || Kn.twiceP [] V then .inr (9,k) else match Kn.sts n ab ⟨V,V,a⟩ body with
  | .inr f=> .inr f
  | .inl s=>if 30<s.bd.length then .inr (8,k) else .inl s
def SgP (g ma na:Nat) (fa:List UInt8→Option Value) (w:World) (nm:List UInt8) (sv:Value) (r:Kn.Rs) (e:Ending) (w':World):Prop:=match r with
 | .inr f=>e= .returned (.agg #[.int .i64 f.1,.int .i64 f.2])∧f.1 ≠ 0∧Kp [g,ma] w w'
 | .inl s=>e= .returned (.agg #[.int .i64 0,.int .i64 0])∧Kp [g,ma] w w'∧CK g ma (na+1) (upd fa nm sv) w' s.at'∧ ∃ aV cV,w'.cell? ⟨g,0,none⟩=some (.slice aV s.bd.length cV)∧w'.ownsRow (g+1) 98 2 (.slice aV s.bd.length cV) s.bd.length (vcells s.bd)∧ ∀ b,(Value.slice aV s.bd.length cV).ownBlock=some b→b ≠ ma∧w.heap.size≤b
theorem stage_end {c:Kg} {w W:World} {a:Option Addr} {cp:Nat} {bd:List Kn.Nv} {fk fa':List UInt8→Option Value} {t r:Nat} {o:Obj} (h:KS c w (.slice a bd.length cp) bd fk t) (hm:MV (setBlock w c.ma o) c.ma (c.na+1) fa') (hk:Kp [r] (setBlock w c.ma o) W) (hr:Bs c (.slice a bd.length cp) w r) (hrm:r ≠ c.ma):
  CK c.g c.ma (c.na+1) fa' W t∧W.cell? ⟨c.g,0,none⟩=some (.slice a bd.length cp)∧W.ownsRow (c.g+1) 98 2 (.slice a bd.length cp) bd.length (vcells bd)∧ ∀ b,(Value.slice a bd.length cp).ownBlock=some b→b ≠ c.ma:=by
 have nag:c.g ≠ c.ma:=fun e=>h.ma.no_cell 0 _ (by rw [←e];exact h.c0)
 have hg:c.g ∉ [r]:=by simpa using fun e=>hr.n1 e.symm
 have ec: ∀ k v,w.cell? ⟨c.g,k,none⟩=some v→W.cell? ⟨c.g,k,none⟩=some v:=fun k v hv=>hk.some ((setBlock_cell w c.ma o ⟨c.g,k,none⟩ nag).trans hv) hg
 have hlt:c.g<(setBlock w c.ma o).heap.size:=by rw [setBlock_size];exact h.lt
 have nr: ∀ b,(Value.slice a bd.length cp).ownBlock=some b→b ≠ c.ma:=fun b hb e=>h.ma.not_row h.ob (e ▸ hb)
 refine ⟨⟨Nat.lt_of_lt_of_le hlt hk.size,⟨_,_,_,ec 0 _ h.c0⟩,⟨_,ec 1 _ h.c1⟩,⟨_,ec 2 _ h.c2⟩,ec 3 _ h.c3,ec 4 _ h.c4,fun j=>(hk.frozen (p:=⟨c.g,j,none⟩) hlt hg).trans ((setBlock_frozen w c.ma o ⟨c.g,j,none⟩ nag).trans (h.fz j)),hm.of_block (hk.block _ hm.lt (by simpa using fun e=>hrm e.symm)),h.lat⟩,ec 0 _ h.c0,own_keepv h.ob (fun b hb=> ?_),nr⟩
 exact (hk.block b (by rw [setBlock_size];exact (h.ob.lt b hb).2) (fun hm=>by simp at hm;subst hm;exact hr.n4 hb)).trans (setBlock_other w c.ma o b (nr b hb))
theorem stage_kp {c:Kg} {w w3 w5 w6:World} {vv v6:Value} (h3:Kp [c.g] w w3) (h5:Kp [] w3 w5) (h6:Kf c vv w5 v6 w6) (hb:w.heap.size≤c.mb) (ho:w.heap.size≤c.mo) (hv: ∀ b,vv.ownBlock=some b→w.heap.size≤b):Kp [c.g] w w6:=
 ⟨h6.os.trans (h5.os.trans h3.os),h6.tape.trans (h5.tape.trans h3.tape),h6.output.trans (h5.output.trans h3.output),Nat.le_trans h3.size (Nat.le_trans h5.size h6.size),fun b hb' hn=>by
  have hn':b ≠ c.g:=by simpa using hn
  have l3:=h3.size
  have l5:=h5.size
  exact (h6.block b (by omega) hn' (by omega) (by omega) (fun e=>by have:=hv b e;omega)).trans ((h5.block b (by omega) (by simp)).trans (h3.block b hb' hn))⟩
set_option maxRecDepth 100000 in
set_option maxHeartbeats 4000000 in
theorem kStage_any (g ma na:Nat) (fa:List UInt8→Option Value) (w:World) (P:Nat→Prop) (n:Nat) (ab:List Sx.Tr) (nm:List UInt8) (at' k:Int) (ps body:List Sx.Tr) (aP aB:Option Addr) (cP cB t:Nat)
  (h:CK g ma na fa w t) (hn:na≤1000) (hP:Sl RP w P ps (.slice aP ps.length cP)) (hB:SL w P n body (.slice aB body.length cB)) (hok:Rn.okB n body) (hlB:body.length≤1000000) (hnm:nm.length≤12) (hpl:ps.length≤100) (hty:Kn.Tyv (ps.map fun p=>((Sx.pH p).1,(Sx.pH p).2)))
  (hab:ABv ⟨g,0,0,ma,na,fa⟩ w P ab) (hgp: ∀ x y,Kn.abv ab x=some y→(Sx.gP y).length≤1000000) (hpg: ∀ b,P b→b<g∧b<ma) (hfw:ps.length+2 * Kn.cs n body≤1000) (hft:t+Kn.cs n body≤100000):
  Calls Tryz.prog 23 #[.pointer (some ⟨g,0,none⟩),.agg #[.string (bs nm),.int .i64 at',.slice aP ps.length cP,.slice aB body.length cB],.int .i64 k] w
   (SgP g ma na fa w nm (.agg #[.string (bs nm),.int .i64 at',.slice aP ps.length cP,.slice aB body.length cB]) (Kn.sg n ab (ps.map fun p=>((Sx.pH p).1,(Sx.pH p).2)) nm body t k)):=by
 have H:=hide h
 have HP:=hide hP
 have HB:=hide hB
 have HAB:=hide hab
 have hlt:=h.lt
 have CN:=hide (fun w=>newNames_any w)
 have CP:=hide (fun w' (hk:Kp [g] w w')=>paramVars_any w' P nm at' ps aP cP (.slice aB body.length cB) (by omega) (HP.out.keep hk (fun b hb hp=>by simp at hb;subst hb;have:=(hpg _ hp).1;omega) (fun d c h=>h)))
 have hlV:Hid ((ps.map fun p=>((Sx.pH p).1,(Sx.pH p).2)).length=ps.length):=hide (by simp)
 have HSG:Hid (Kn.sg n ab (ps.map fun p=>((Sx.pH p).1,(Sx.pH p).2)) nm body t k=if (Kn.abv ab nm).isSome || Kn.twiceP [] (ps.map fun p=>((Sx.pH p).1,(Sx.pH p).2)) then .inr (9,k) else match Kn.sts n ab ⟨ps.map fun p=>((Sx.pH p).1,(Sx.pH p).2),ps.map fun p=>((Sx.pH p).1,(Sx.pH p).2),t⟩ body with
  | .inr f=> .inr f
  | .inl s=>if 30<s.bd.length then .inr (8,k) else .inl s):=rfl
 generalize Kn.sg n ab (ps.map fun p=>((Sx.pH p).1,(Sx.pH p).2)) nm body t k=R at *
 generalize (ps.map fun p=>((Sx.pH p).1,(Sx.pH p).2))=V at *
 obtain ⟨a0,n0,c0,x0⟩:=h.c0
 obtain ⟨m1,x1⟩:=h.c1
 obtain ⟨m2,x2⟩:=h.c2
 have z0:=h.fz 0
 have z1:=h.fz 1
 have z2:=h.fz 2
 clear h hP hB hab
 have KA:Hid (Kp [] w ((w.alloc (.cells #[.string (bs nm),.int .i64 at',.slice aP ps.length cP,.slice aB body.length cB] 53)).alloc (.cells #[.int .i64 0,.int .i64 0] 31))):=hide (((Kp.refl _ _).alloc _).alloc _)
 go_enter Tryz.func23,Tryz.ntmps23
 go_wp2_with fail
 refine (CN.out _).mono ?_
 rintro e w1 ⟨mb,mo,rfl,hm1,hm2,hne,hmb,hmo,k1⟩
 have K1:=hide (KA.out.trans k1)
 have S2:=hide (H.out.begin K1.out hm1 hm2 hne (by simp at hmb;omega) (by simp at hmo;omega))
 have y0:=K1.out.some x0 (by simp)
 have y1:=K1.out.some x1 (by simp)
 have y2:=K1.out.some x2 (by simp)
 have w0:=(K1.out.frozen (p:=⟨g,0,none⟩) hlt (by simp)).trans z0
 have w01:=(K1.out.frozen (p:=⟨g,1,none⟩) hlt (by simp)).trans z1
 have w02:=(K1.out.frozen (p:=⟨g,2,none⟩) hlt (by simp)).trans z2
 have KG:Hid (Kp [g] w1 (((w1.setCell ⟨g,0,none⟩ (.slice none 0 0)).setCell ⟨g,1,none⟩ (.map (some mb))).setCell ⟨g,2,none⟩ (.map (some mo)))):=hide ((((Kp.refl [g] w1).rb 0 _).rb 1 _).rb 2 _)
 have hmbx:w.heap.size+2≤mb:=by simpa using hmb
 have hmox:w.heap.size+2≤mo:=by simpa using hmo
 have X1:Hid (GX ⟨g,mb,mo,ma,na,fa⟩ (.slice none 0 0) (((w1.setCell ⟨g,0,none⟩ (.slice none 0 0)).setCell ⟨g,1,none⟩ (.map (some mb))).setCell ⟨g,2,none⟩ (.map (some mo))) w.heap.size nm at' (.slice aP ps.length cP) (.slice aB body.length cB)):=hide (by
  have hb1:w.heap.size<w1.heap.size:=by have:=k1.size;simp at this;omega
  have hb2:w.heap.size+1<w1.heap.size:=by have:=k1.size;simp at this;omega
  have ng:w.heap.size ∉ [g]:=by simp;omega
  have ng1:w.heap.size+1 ∉ [g]:=by simp;omega
  exact ⟨KG.out.some (k1.some (by simp [go_sem]) (by simp)) ng,KG.out.some (k1.some (by simp [go_sem]) (by simp)) ng,KG.out.some (k1.some (by simp [go_sem]) (by simp)) ng,KG.out.some (k1.some (by simp [go_sem]) (by simp)) ng,KG.out.some (k1.some (by simp [go_sem]) (by simp)) ng1,KG.out.some (k1.some (by simp [go_sem]) (by simp)) ng1,(KG.out.frozen (p:=⟨w.heap.size+1,0,none⟩) hb2 ng1).trans ((k1.frozen (p:=⟨w.heap.size+1,0,none⟩) (by simp) (by simp)).trans (by simp [go_sem])),(KG.out.frozen (p:=⟨w.heap.size+1,1,none⟩) hb2 ng1).trans ((k1.frozen (p:=⟨w.heap.size+1,1,none⟩) (by simp) (by simp)).trans (by simp [go_sem])),⟨by simpa using hb1,by show w.heap.size ≠ g;omega,by show w.heap.size ≠ mb;omega,by show w.heap.size ≠ mo;omega,by intro e;cases e⟩,⟨by simpa using hb2,by show w.heap.size+1 ≠ g;omega,by show w.heap.size+1 ≠ mb;omega,by show w.heap.size+1 ≠ mo;omega,by intro e;cases e⟩⟩)
 have KW2:Hid (Kp [g] w (((w1.setCell ⟨g,0,none⟩ (.slice none 0 0)).setCell ⟨g,1,none⟩ (.map (some mb))).setCell ⟨g,2,none⟩ (.map (some mo)))):=hide ((K1.out.mono (by simp)).trans KG.out)
 obtain ⟨q0,q1,q2,q3,r0,r1,f0,f1,-,-⟩:=X1.out
 have CP2:=hide (CP.out _ KW2.out)
 clear hm1 hm2 k1 CN CP hmb hmo
 go_wp2_with fail
 refine CP2.out.mono ?_
 rintro e w3 ⟨aV,cV,rfl,hnew,k3,hV⟩
 have S3:=hide (S2.out.kp k3)
 have X3:=hide (X1.out.kp k3)
 have K3:=hide (KW2.out.trans (k3.mono (by simp)))
 have HV:=hide hV
 have HN:Hid (∀ b o,aV=some ⟨b,o,none⟩→Bs ⟨g,mb,mo,ma,na,fa⟩ (.slice none 0 0) w3 b):=hide (fun b o e=>Bs.new S2.out (hnew b o e).1 (hnew b o e).2)
 have CL:=fun W (hk:Kp [] w3 W)=>(S3.out.kp hk).ma.look nm (by omega) Tryz.underlying78 (Tryz.zeroStage W)
 have hg3:=S3.out.c3
 clear q0 q1 q2 q3 r0 r1 f0 f1 hnew k3 hV y0 y1 y2 w0 w01 w02 x0 x1 x2 z0 z1 z2 CP2
 obtain ⟨q0,q1,q2,q3,r0,r1,f0,f1,hbb,hbr⟩:=X3.out
 have hl3:=hbb.lt
 have hl4:=hbr.lt
 have hlg:=S3.out.lt
 cases hav:Kn.abv ab nm with
 |some y=>
  obtain ⟨nm',a2,uP,aB2,nB2,cB2,e1,hSl⟩:=HAB.out.yes nm y hav
  obtain ⟨aP2,cP2,rfl,-⟩:=id hSl
  have e1':fa nm=some (.agg #[.string (bs nm'),.int .i64 a2,.slice aP2 (Sx.gP y).length cP2,.slice aB2 nB2 cB2]):=e1
  have CL': ∀ W,Kp [] w3 W→(Instr.lookup 78 (.map (some ma)) (.string (bs nm)) true).run Tryz.prog W= .ok (.tuple #[(fa nm).getD (.agg #[.string ⟨#[]⟩,.int .i64 0,.slice none 0 0,.slice none 0 0]),.bool (fa nm).isSome]) W:=CL
  rw [e1'] at CL'
  have HL1:=CL' w3.drew ((Kp.refl _ _).drewN 1)
  have HL2:=CL' ((w3.alloc (.cells #[.string ⟨#[]⟩,.int .i64 0,.slice none 0 0,.slice none 0 0] 53)).drew) (((Kp.refl _ _).alloc _).drewN 1)
  have hR:R= .inr (9,k):=by rw [HSG.out,hav];rfl
  have HRf:=hide hR
  clear CL CL' e1 e1' hSl hR HSG
  go_wp2
  go_region_held3 (fun w'=>w'.cell? ⟨w.heap.size,0,none⟩=some (.string (bs nm))∧w'.cell? ⟨g,3,none⟩=some (.map (some ma))) ((first|exact ⟨by assumption,by assumption⟩|go_keep)) (fail)
  all_goals
   go_wp2
   refine bodyPost_ret (v:= .agg #[.int .i64 9,.int .i64 k]) (by simp [results,Tryz.results23,go_sem,r0,r1,hl4]) rfl ?_
   show SgP g ma na fa w nm _ R _ _
   rw [HRf.out]
   exact ⟨rfl,by simp,(((((K3.out.mono (by simp)).nb (by omega) _ _).nb (by omega) _ _).alloc _).drewN 1)⟩
 |none=>
  have e1':fa nm=none:=HAB.out.no nm hav
  have CL': ∀ W,Kp [] w3 W→(Instr.lookup 78 (.map (some ma)) (.string (bs nm)) true).run Tryz.prog W= .ok (.tuple #[(fa nm).getD (.agg #[.string ⟨#[]⟩,.int .i64 0,.slice none 0 0,.slice none 0 0]),.bool (fa nm).isSome]) W:=CL
  rw [e1'] at CL'
  have HL1:=CL' w3.drew ((Kp.refl _ _).drewN 1)
  have HL2:=CL' ((w3.alloc (.cells #[.string ⟨#[]⟩,.int .i64 0,.slice none 0 0,.slice none 0 0] 53)).drew) (((Kp.refl _ _).alloc _).drewN 1)
  have HSG2:Hid (R=if Kn.twiceP [] V then .inr (9,k) else match Kn.sts n ab ⟨V,V,t⟩ body with
   | .inr f=> .inr f
   | .inl s=>if 30<s.bd.length then .inr (8,k) else .inl s):=hide (by rw [HSG.out,hav];rfl)
  have K4:Hid (Kp [] w3 ((w3.alloc (.cells #[.string ⟨#[]⟩,.int .i64 0,.slice none 0 0,.slice none 0 0] 53)).drew)):=hide (((Kp.refl _ _).alloc _).drewN 1)
  have CR:=hide (kRepeats_any ⟨g,mb,mo,ma,na,fa⟩ _ (.slice none 0 0) [] (Kn.fkn [] []) t V aV cV (S3.out.kp K4.out) (HV.out.kpb (fun b o n cp j u hs hc=>K4.out.some hc (by simp))) (by have:=hlV.out;omega) (fun v hv=>Nat.le_trans (hty v hv).2.2 (by decide)))
  clear CL CL' e1' HSG hav
  cases htw:Kn.twiceP [] V with
  |true=>
   rw [htw] at CR HSG2
   have HRf:Hid (R= .inr (9,k)):=hide HSG2.out
   clear HSG2
   go_wp2
   go_region_held3 (fun w'=>w'.cell? ⟨w.heap.size,0,none⟩=some (.string (bs nm))∧w'.cell? ⟨g,3,none⟩=some (.map (some ma))) ((first|exact ⟨by assumption,by assumption⟩|go_keep)) (fail)
   all_goals
    go_wp2_with fail
    refine CR.out.mono ?_
    rintro e w5 ⟨rfl,k5⟩
    have X5:=hide ((X3.out.kp K4.out).kp k5)
    have K5:=hide (K3.out.trans ((K4.out.trans k5).mono (by simp)))
    obtain ⟨-,-,-,-,s0,s1,g0,g1,-,hbr5⟩:=X5.out
    have hl5:=hbr5.lt
    clear k5 hbr5
    go_wp2
    refine bodyPost_ret (v:= .agg #[.int .i64 9,.int .i64 k]) (by simp [results,Tryz.results23,go_sem,s0,s1]) rfl ?_
    show SgP g ma na fa w nm _ R _ _
    rw [HRf.out]
    exact ⟨rfl,by simp,((K5.out.mono (by simp)).nb (by omega) _ _).nb (by omega) _ _⟩
  |false=>
   rw [htw] at CR HSG2
   have HTW:=hide htw
   have HQ3:Hid (Rq ⟨g,mb,mo,ma,na,fa⟩ w3 P ab):=hide ⟨⟨HAB.out.no,(HAB.out.keep K3.out (fun b hb hp=>by simp at hb;subst hb;have:=(hpg _ hp).1;omega)).yes⟩,hgp,fun b hb=>(hpg b hb).1⟩
   have HB3:Hid (SL w3 P n body (.slice aB body.length cB)):=hide (HB.out.keep K3.out (fun b hb hp=>by simp at hb;subst hb;have:=(hpg _ hp).1;omega))
   have CB:=hide (fun w' (hk:Kp [] w3 w')=>kBlk_any ⟨g,mb,mo,ma,na,fa⟩ n w' P ab body aB cB V aV cV (.slice none 0 0) [] [] t (HB3.out.keep hk (by simp)) hok hlB (HQ3.out.kp hk) (HV.out.kpb (fun b o n cp j u hs hc=>hk.some hc (by simp))) (fun b o e=>⟨(HN.out b o e).n1,(HN.out b o e).n2,(HN.out b o e).n3,(HN.out b o e).n4,Nat.lt_of_lt_of_le (HN.out b o e).lt hk.size⟩) HTW.out hty ⟨⟨trivial,fun v hv=>by cases hv⟩,fun v hv=>by cases hv⟩ (by rw [List.length_nil,Nat.zero_add,hlV.out];exact hfw) hft (S3.out.kp hk))
   have HSG3:Hid (R=match Kn.sts n ab ⟨[]++V,[]++V,t⟩ body with
    | .inr f=> .inr f
    | .inl s=>if 30<s.bd.length then .inr (8,k) else .inl s):=hide HSG2.out
   generalize Kn.sts n ab ⟨[]++V,[]++V,t⟩ body=RB at *
   clear HSG2 htw
   go_wp2
   go_region_held3 (fun w'=>w'.cell? ⟨w.heap.size,0,none⟩=some (.string (bs nm))∧w'.cell? ⟨g,3,none⟩=some (.map (some ma))) ((first|exact ⟨by assumption,by assumption⟩|go_keep)) (fail)
   all_goals
    go_wp2_with fail
    refine CR.out.mono ?_
    rintro e w5 ⟨rfl,k5⟩
    have K35:=hide (K4.out.trans k5)
    have X5:=hide (X3.out.kp K35.out)
    obtain ⟨t0,t1,t2,t3,s0,s1,g0,g1,-,-⟩:=X5.out
    clear k5
    go_wp2_with fail
    refine (CB.out _ K35.out).mono ?_
    intro e w6 hp
    cases RB with
    |inr f=>
     obtain ⟨rfl,hf0,v6,z6,fk6,t6,h6,k6⟩:=hp
     have HRf:Hid (R= .inr f):=hide HSG3.out
     have X6:=hide (X5.out.go k6)
     have K6:Hid (Kp [g] w w6):=hide (stage_kp K3.out K35.out k6 (by show w.heap.size≤mb;omega) (by show w.heap.size≤mo;omega) (fun b e=>by cases e))
     obtain ⟨-,-,-,-,i0,i1,j0,j1,-,hbr6⟩:=X6.out
     have hl6:=hbr6.lt
     have qf:(f.1 !=0)=true:=by simpa using hf0
     clear h6 k6 hbr6 HSG3
     go_wp2
     refine bodyPost_ret (v:= .agg #[.int .i64 f.1,.int .i64 f.2]) (by simp [results,Tryz.results23,go_sem,i0,i1,hl6]) rfl ?_
     show SgP g ma na fa w nm _ R _ _
     rw [HRf.out]
     exact ⟨rfl,hf0,(((K6.out.mono (by simp)).nb (by omega) _ _).nb (by omega) _ _).alloc _⟩
    |inl s=>
     obtain ⟨rfl,v6,h6,k6⟩:=hp
     have X6:=hide (X5.out.go k6)
     have K6:Hid (Kp [g] w w6):=hide (stage_kp K3.out K35.out k6 (by show w.heap.size≤mb;omega) (by show w.heap.size≤mo;omega) (fun b e=>by cases e))
     have HNB:Hid (∀ b,v6.ownBlock=some b→w.heap.size≤b∧b<w6.heap.size):=hide (fun b e=>⟨(k6.nb b e).elim (fun e=>by cases e) (fun e=>by have:=K3.out.size;have:=K35.out.size;omega),(h6.ob.lt b e).2⟩)
     have HVR:=hide (vr_own h6.ob)
     obtain ⟨a6,c6,hv6,-⟩:=HVR.out
     subst hv6
     have S6:=hide h6
     have l0:=h6.c0
     have l3:=h6.c3
     have hlb6:=h6.lb
     have hgl6:g<w6.heap.size:=h6.lt
     have K7:Hid (Kp [] w6 (w6.alloc (.cells #[.int .i64 0,.int .i64 0] 31))):=hide ((Kp.refl _ _).alloc _)
     obtain ⟨-,-,-,-,i0,i1,j0,j1,-,hbr6⟩:=X6.out
     have hl6:=hbr6.lt
     have X7:=hide (X6.out.kp K7.out)
     obtain ⟨o0,o1,o2,o3,n0',n1',o4,o5,-,-⟩:=X7.out
     have l07:=K7.out.some l0 (by simp)
     have l37:=K7.out.some l3 (by simp)
     clear h6 k6 hbr6
     by_cases h30:30<s.bd.length
     ·have HRf:Hid (R= .inr (8,k)):=hide (by rw [HSG3.out];exact if_pos h30)
      have q30:decide ((30:Int)<(s.bd.length:Int))=true:=by simp;omega
      clear HSG3
      go_wp2
      refine bodyPost_ret (v:= .agg #[.int .i64 8,.int .i64 k]) (by simp [results,Tryz.results23,go_sem,i0,i1,hl6]) rfl ?_
      show SgP g ma na fa w nm _ R _ _
      rw [HRf.out]
      exact ⟨rfl,by simp,(((K6.out.mono (by simp)).nb (by omega) _ _).nb (by omega) _ _).alloc _⟩
     ·have HRf:Hid (R= .inl s):=hide (by rw [HSG3.out];exact if_neg h30)
      have q30:decide ((30:Int)<(s.bd.length:Int))=false:=by simp;omega
      have K8:Hid (Kp [] w6 ((w6.alloc (.cells #[.int .i64 0,.int .i64 0] 31)).drew)):=hide (K7.out.drewN 1)
      have S8:=S6.out.kp K8.out
      obtain ⟨ob,hst,hmv⟩:=S8.ma.store nm (by omega) (.agg #[.string (bs nm),.int .i64 at',.slice aP ps.length cP,.slice aB body.length cB]) (by show na≤1000000;omega) Tryz.underlying78
      have X8:=X6.out.kp K8.out
      have ngm:g ≠ ma:=fun e=>S8.ma.no_cell 0 _ (by show _=some _;rw [←e];exact S8.c0)
      have nbm:w.heap.size ≠ ma:=fun e=>S8.ma.no_cell 0 _ (by show _=some _;rw [←e];exact X8.q0)
      have nrm:w.heap.size+1 ≠ ma:=fun e=>S8.ma.no_cell 0 _ (by show _=some _;rw [←e];exact X8.r0)
      have e0:=(setBlock_cell ((w6.alloc (.cells #[.int .i64 0,.int .i64 0] 31)).drew) ma ob ⟨w.heap.size,0,none⟩ nbm).trans X8.q0
      have e1:=(setBlock_cell ((w6.alloc (.cells #[.int .i64 0,.int .i64 0] 31)).drew) ma ob ⟨w.heap.size,1,none⟩ nbm).trans X8.q1
      have e2:=(setBlock_cell ((w6.alloc (.cells #[.int .i64 0,.int .i64 0] 31)).drew) ma ob ⟨w.heap.size,2,none⟩ nbm).trans X8.q2
      have e3:=(setBlock_cell ((w6.alloc (.cells #[.int .i64 0,.int .i64 0] 31)).drew) ma ob ⟨w.heap.size,3,none⟩ nbm).trans X8.q3
      have e4:=(setBlock_cell ((w6.alloc (.cells #[.int .i64 0,.int .i64 0] 31)).drew) ma ob ⟨w.heap.size+1,0,none⟩ nrm).trans X8.r0
      have e5:=(setBlock_cell ((w6.alloc (.cells #[.int .i64 0,.int .i64 0] 31)).drew) ma ob ⟨w.heap.size+1,1,none⟩ nrm).trans X8.r1
      have e6:=(setBlock_frozen ((w6.alloc (.cells #[.int .i64 0,.int .i64 0] 31)).drew) ma ob ⟨w.heap.size+1,0,none⟩ nrm).trans X8.f0
      have e7:=(setBlock_frozen ((w6.alloc (.cells #[.int .i64 0,.int .i64 0] 31)).drew) ma ob ⟨w.heap.size+1,1,none⟩ nrm).trans X8.f1
      have e9:=(setBlock_cell ((w6.alloc (.cells #[.int .i64 0,.int .i64 0] 31)).drew) ma ob ⟨g,0,none⟩ ngm).trans S8.c0
      have e8:=(setBlock_cell ((w6.alloc (.cells #[.int .i64 0,.int .i64 0] 31)).drew) ma ob ⟨g,3,none⟩ ngm).trans S8.c3
      have K9:Hid (Kp [g,ma] w (setBlock ((w6.alloc (.cells #[.int .i64 0,.int .i64 0] 31)).drew) ma ob)):=hide (((K6.out.mono (by simp)).trans (K8.out.mono (by simp))).setIn (by simp) _)
      have KF:=hide (fun W (hk:Kp [w.heap.size+1] (setBlock ((w6.alloc (.cells #[.int .i64 0,.int .i64 0] 31)).drew) ma ob) W)=>stage_end S8 hmv hk X8.br nrm)
      clear S8 hmv X8
      have u0:=K8.out.some i0 (by simp)
      have hW9:w6.heap.size≤(setBlock ((w6.alloc (.cells #[.int .i64 0,.int .i64 0] 31)).drew) ma ob).heap.size:=by rw [setBlock_size];exact K8.out.size
      generalize setBlock ((w6.alloc (.cells #[.int .i64 0,.int .i64 0] 31)).drew) ma ob=W9 at *
      have v0:=K8.out.some l0 (by simp)
      have v3:=K8.out.some l3 (by simp)
      obtain ⟨w0,w1',w2',w3',-,-,-,-,-,-⟩:=X6.out.kp K8.out
      clear HSG3
      go_wp2
      go_region_held3 (fun w'=>w'.cell? ⟨g,3,none⟩=some (.map (some ma))∧w'.cell? ⟨w.heap.size,0,none⟩=some (.string (bs nm))∧w'.cell? ⟨w.heap.size,1,none⟩=some (.int .i64 at')∧w'.cell? ⟨w.heap.size,2,none⟩=some (.slice aP ps.length cP)∧w'.cell? ⟨w.heap.size,3,none⟩=some (.slice aB body.length cB)) ((first|exact ⟨by assumption,by assumption,by assumption,by assumption,by assumption⟩|go_keep)) (fail)
      all_goals
       go_wp2
       refine bodyPost_ret (v:= .agg #[.int .i64 0,.int .i64 0]) (by simp [results,Tryz.results23,go_sem,e4,e5]) rfl ?_
       show SgP g ma na fa w nm _ R _ _
       rw [HRf.out]
       have hke:Kp [w.heap.size+1] W9 ((W9.setCell ⟨w.heap.size+1,0,none⟩ (.int .i64 0)).setCell ⟨w.heap.size+1,1,none⟩ (.int .i64 0)):=((Kp.refl [w.heap.size+1] W9).rb 0 _).rb 1 _
       obtain ⟨k1',k2',k3',k4'⟩:=KF.out _ hke
       exact ⟨rfl,(K9.out.nb (by omega) _ _).nb (by omega) _ _,k1',a6,c6,k2',k3',fun b hb=>⟨k4' b hb,(HNB.out b hb).1⟩⟩
end Go.Proofs.YtcdcoiobpbdmpaaGreatDoor
