import Derived.Test.YtcdcoiobpbdmpaaGreatDoorMan
import Derived.Test.YtcdcoiobpbdmpaaGreatDoorMap
import Derived.Test.YtcdcoiobpbdmpaaGreatDoorMak
namespace Go.Proofs.YtcdcoiobpbdmpaaGreatDoor
open Go.RowKit
theorem Tryz.infoVr:(Tryz.prog.info? 98).map (fun i=>(i.zero,i.size,i.bytes))=some (some (.agg #[.string ⟨#[]⟩,.string ⟨#[]⟩]),2,32):=by kernel_rfl
theorem lw_two (w:World) (v0 v1:Value) (t:TypeId): ∀ (j:Nat) (u:Value),[v0,v1][j]? =some u→(w.alloc (.cells #[v0,v1] t)).cell? ((⟨w.heap.size,0,none⟩:Addr).add j)=some u:=by
 intro j u hj
 rw [add_off]
 match j,hj with
 |0,hj=>simp at hj;subst hj;simp [go_sem]
 |1,hj=>simp at hj;subst hj;simp [go_sem]
set_option maxRecDepth 100000 in
set_option maxHeartbeats 4000000 in
theorem repeat_any (ab:List Lw.Ab) (n:Nat) (HC:LSmT ab n) {C:MC} {m:MA} {s s1 s':Lw.St} {bk:Int} {w:World} (P:Nat→Prop) (ax:Int) (A B T:List UInt8) (N:Int) (E body els:List Sx.Tr) (aE aB aL:Option Addr) (cE cB cL:Nat) (h:MK C m s bk ax w) (hP: ∀ j,P j→j<w.heap.size∧ ¬ m.mut C.g j) (hA:ABm w P C.uA ab) (hE:EL w P (n+1) E (.slice aE E.length cE)) (hw:Sx.wE (n+1) E≤1000000) (hB:SL w P (n+1) body (.slice aB body.length cB))
  (x:Sx.Tr) (r:List Sx.Tr) (hx:E=x::r) (hvl:s.vs.length<1000000) (hs1:Lw.put ⟨(s.vs++[(⟨#[]⟩,⟨#[105]⟩)]),s.bs,s.is⟩ bk ax ⟨12,s.vs.length,0,0,0,⟨#[]⟩,Lw.stps (s.vs++[(⟨#[]⟩,⟨#[105]⟩)]) (n+1) E,[],0,0,0⟩=some s1) (hs2:Lw.loop (Lw.stmt ab n) s1 bk ax ⟨13,s.vs.length,0,0,0,⟨#[]⟩,[],[],0,0,0⟩ (5,0,Cd.most (Sx.eH x).1 (Sx.eH x).2.2) body []=some s'):
  Calls Tryz.prog 79 #[.pointer (some ⟨C.g,0,none⟩),.agg #[.int .i64 13,.int .i64 ax,.string (bs A),.string (bs B),.string (bs T),.int .i64 N,.slice aE E.length cE,.slice aB body.length cB,.slice aL els.length cL]] w fun e w'=>e= .returned (.tuple #[])∧ ∃ m',MK C m' s' bk ax w'∧MS C.g m w m' w':=by
 obtain ⟨i0,hi0,hz0,hz1,hz2⟩:=info_parts Tryz.infoVr
 have hlen:0<E.length:=by rw [hx];simp
 have HEL:=hide hE
 obtain ⟨aE',cE',hv,hel⟩:=hE
 obtain ⟨rfl,rfl⟩:aE=aE'∧cE=cE':=by simpa using hv
 rcases hel with h0|⟨b,off,rfl,hPb,hc⟩
 ·rw [h0] at hlen;simp at hlen
 obtain ⟨op,nm,kk,L,u,rfl,x0,x1,x2,x3,hL⟩:=hc 0 x (by rw [hx];rfl)
 obtain ⟨aX,cX,rfl⟩:=hL.slice
 rw [Nat.zero_mul,Nat.add_zero] at x0 x1 x2 x3
 have HM:=hide h
 have HPP:=hide hP
 have HAA:=hide hA
 have HBD:=hide hB
 have HS1:=hide hs1
 have HS2:Hid (Lw.loop (Lw.stmt ab n) s1 bk ax ⟨13,s.vs.length,0,0,0,⟨#[]⟩,[],[],0,0,0⟩ (5,0,Cd.most op kk) body []=some s'):=hide hs2
 have HCC:=hide HC
 have HPB:=hide (hP b hPb)
 have hgl:=h.gl
 have c1:=h.c1
 have f1:=h.thaw 1
 have hE0:(0:Int)<(E.length:Int):=by omega
 have hb1:Below w.heap.size w (w.alloc (.cells #[.int .i64 13,.int .i64 ax,.string (bs A),.string (bs B),.string (bs T),.int .i64 N,.slice (some ⟨b,off,none⟩) E.length cE,.slice aB body.length cB,.slice aL els.length cL] 75)):=(Below.refl _ _).alloc (Nat.le_refl _) _
 have hb2:Below w.heap.size w ((w.alloc (.cells #[.int .i64 13,.int .i64 ax,.string (bs A),.string (bs B),.string (bs T),.int .i64 N,.slice (some ⟨b,off,none⟩) E.length cE,.slice aB body.length cB,.slice aL els.length cL] 75)).alloc (.cells #[.string ⟨#[]⟩,.string ⟨#[105]⟩] 98)):=hb1.alloc hb1.size _
 have c1a:=bsome hb1 c1
 have c1b:=bsome hb2 c1
 have HOV:Hid (((w.alloc (.cells #[.int .i64 13,.int .i64 ax,.string (bs A),.string (bs B),.string (bs T),.int .i64 N,.slice (some ⟨b,off,none⟩) E.length cE,.slice aB body.length cB,.slice aL els.length cL] 75)).alloc (.cells #[.string ⟨#[]⟩,.string ⟨#[105]⟩] 98)).ownsRow 0 98 2 (.slice m.av s.vs.length m.cv) s.vs.length (s.vs.flatMap Cd.vcl)):=hide ((h.below hb2).ov)
 have HB2:=hide hb2
 have HNE:Hid (some C.g ≠ (Value.slice m.av s.vs.length m.cv).ownBlock):=hide (fun e=>(h.d1 C.g (by rw [←ob_own m.av s.vs.length m.cv];exact e.symm)).1 rfl)
 have HNX:Hid (¬ m.mut C.g w.heap.size):=hide (h.new (Nat.le_refl _))
 clear h hP hA hB hs1 hs2 HC hc hx hv hL hPb hb1 hb2
 go_enter Tryz.func79,Tryz.ntmps79
 go_wp2_with (at_builtin;refine wpList_append_lies _ rfl _ _ 35 rfl 0 98 i0 (.agg #[.string ⟨#[]⟩,.string ⟨#[]⟩]) 2 32 Tryz.underlying35 hi0 hz0 hz1 hz2 rfl (by decide) _ _ _ rfl (by exact HOV.out) ⟨w.heap.size+1,0,none⟩ 1 1 [.string ⟨#[]⟩,.string ⟨#[105]⟩] rfl rfl (by have:=lw_two (w.alloc (.cells #[.int .i64 13,.int .i64 ax,.string (bs A),.string (bs B),.string (bs T),.int .i64 N,.slice (some ⟨b,off,none⟩) E.length cE,.slice aB body.length cB,.slice aL els.length cL] 75)) (.string ⟨#[]⟩) (.string ⟨#[105]⟩) 98;simpa using this) (by intro u hu;simp at hu;rcases hu with rfl|rfl<;> rfl) (by decide) (by unfold maxLen;omega) (by omega) (by omega) _ rfl ?_;intro gn cap2 w7 hown hgrow hat hlt7;have hb7:w7.heap[C.g]? =w.heap[C.g]? :=(hgrow.block C.g (by simp;omega) HNE.out).trans (HB2.out.block C.g hgl);have z7:w7.cell? ⟨C.g,1,none⟩=some (.slice m.av s.vs.length m.cv):=(World.cell?_of_block (w:=w) (a:=⟨C.g,1,none⟩) hb7).trans c1;have y7:w7.frozen? ⟨C.g,1,none⟩=false:=(World.frozen?_of_block (w:=w) (a:=⟨C.g,1,none⟩) hb7).trans f1;have HOWN:=hide hown;have HGRO:=hide hgrow;have HAT:=hide hat;clear hown hgrow hat hb7 hlt7;obtain ⟨hm8,hs8⟩:=MK.addV (b:=(⟨#[]⟩,⟨#[105]⟩)) (HM.out.below HB2.out) hvl (Below.refl _ _) HOWN.out HGRO.out HAT.out;have k6:=hs8.cell (p:=⟨w.heap.size,6,none⟩) (v:= .slice (some ⟨b,off,none⟩) E.length cE) (by simp [go_sem]) HNX.out;have k7:=hs8.cell (p:=⟨w.heap.size,7,none⟩) (v:= .slice aB body.length cB) (by simp [go_sem]) HNX.out;have y0:=hs8.cell (bsome HB2.out x0) HPB.out.2;have y1:=hs8.cell (bsome HB2.out x1) HPB.out.2;have y2:=hs8.cell (bsome HB2.out x2) HPB.out.2;have y3:=hs8.cell (bsome HB2.out x3) HPB.out.2;have HM8:=hide hm8;have HS8:=hide hs8;clear hm8 hs8)
 obtain ⟨W8,hW8⟩: ∃ W8,w7.setCell ⟨C.g,1,none⟩ (.slice (some ⟨gn,0,none⟩) (s.vs.length+1) cap2)=W8:=⟨_,rfl⟩
 rw [hW8] at k6 k7 y0 y1 y2 y3 HM8 HS8 ⊢
 generalize MA.mk (some ⟨gn,0,none⟩) cap2 m.ab m.cb m.ai m.ci=m8 at HM8 HS8
 have HMS:Hid (MS C.g m w m8 W8):=hide ((MS.of_below HB2.out).trans HS8.out)
 have HNM:Hid (∀ j,(P j∨j=b)∨j=w.heap.size→j<W8.heap.size∧ ¬ m8.mut C.g j):=hide (fun j hj=>by
  rcases hj with (hj|hj)|hj
  ·exact HMS.out.stay HPP.out hj
  ·rw [hj];exact HMS.out.stay (P:=fun j=>j=b) (fun j hj=>by rw [hj];exact HPB.out) rfl
  ·rw [hj];exact HS8.out.stay (P:=fun j=>j=w.heap.size) (fun j hj=>by rw [hj];exact ⟨by simp;omega,HNX.out⟩) rfl)
 have CS:=hide (msteps_any HM8.out P (n+1) E _ (HEL.out.keepX HMS.out.kx (fun j hj=>(HPP.out j hj).2)) hw W8 (Below.refl _ _))
 clear hW8 HOWN HGRO HAT z7 y7 HOV HNE HB2 HS8 HM c1 c1a c1b f1 x0 x1 x2 x3
 refine CS.out.mono ?_
 rintro e w1 ⟨u,rfl,ae,ce,rfl,her,hb1⟩
 have HR:=hide her
 have k6:=bsome hb1 k6
 have k7:=bsome hb1 k7
 have y0:=bsome hb1 y0
 have y1:=bsome hb1 y1
 have y2:=bsome hb1 y2
 have y3:=bsome hb1 y3
 have CP:=hide (mput2_any HM8.out ⟨12,s.vs.length,0,0,0,⟨#[]⟩,Lw.stps (s.vs++[(⟨#[]⟩,⟨#[105]⟩)]) (n+1) E,[],0,0,0⟩ HS1.out _ hb1 ae ce none 0 HR.out (AGn.nil _ _))
 unfold IV at CP
 dsimp only at CP
 clear her hb1 CS
 go_wp2_with fail
 refine CP.out.mono ?_
 rintro e w2 ⟨rfl,m2,hm2,hs2,hc2⟩
 have k6:=hc2 _ _ k6 (HNM.out w.heap.size (.inr rfl)).2
 have k7:=hc2 _ _ k7 (HNM.out w.heap.size (.inr rfl)).2
 have y0:=hc2 _ _ y0 (HNM.out b (.inl (.inr rfl))).2
 have y1:=hc2 _ _ y1 (HNM.out b (.inl (.inr rfl))).2
 have y2:=hc2 _ _ y2 (HNM.out b (.inl (.inr rfl))).2
 have y3:=hc2 _ _ y3 (HNM.out b (.inl (.inr rfl))).2
 have HM2:=hide hm2
 have HMS2:Hid (MS C.g m w m2 w2):=hide (HMS.out.trans hs2)
 have HNM2:Hid (∀ j,(P j∨j=b)∨j=w.heap.size→j<w2.heap.size∧ ¬ m2.mut C.g j):=hide (fun j hj=>hs2.stay HNM.out hj)
 clear hm2 hs2 hc2 CP HNM HMS HM8 HS1 HR
 go_wp2
 have HJ:Hid (∀ w',Below w2.heap.size w2 w'→w'.cell? ⟨w.heap.size,6,none⟩=some (.slice (some ⟨b,off,none⟩) E.length cE)∧w'.cell? ⟨w.heap.size,7,none⟩=some (.slice aB body.length cB)∧w'.cell? ⟨b,off,none⟩=some (.int .i64 op)∧w'.cell? ⟨b,off+1,none⟩=some (.string (bs nm))∧w'.cell? ⟨b,off+2,none⟩=some (.int .i64 kk)∧w'.cell? ⟨b,off+3,none⟩=some (.slice aX L.length cX)):=hide (fun w' hb=>⟨bsome hb k6,bsome hb k7,bsome hb y0,bsome hb y1,bsome hb y2,bsome hb y3⟩)
 have kc:Hid (Below w2.heap.size w2 w2.drew):=hide (below_drewN (Below.refl _ _) 1)
 have HMO:=hide (fun w1=>most_any op (bs nm) kk aX L.length cX w1)
 have HFI:Hid (∀ w1 (_:Below w2.heap.size w2 w1),Calls Tryz.prog 78 #[.pointer (some ⟨C.g,0,none⟩),.agg #[.int .i64 13,.int .i64 s.vs.length,.int .i64 0,.int .i64 0,.int .i64 0,.string ⟨#[]⟩,.slice none 0 0,.slice none 0 0,.int .i64 0,.int .i64 0,.int .i64 0],.agg #[.int .i64 5,.int .i64 0,.int .i64 0,.int .i64 (Cd.most op kk)],.slice aB body.length cB,.slice none 0 0] w1 fun e w'=>e= .returned (.tuple #[])∧ ∃ m',MK C m' s' bk ax w'∧MS C.g m2 w1 m' w'):=hide (fun w1 hb=>by
  have hms:=HMS2.out.trans (MS.of_below (g:=C.g) (m:=m2) hb)
  exact loop_any ab n HCC.out (HM2.out.below hb) P (fun j hj=>⟨Nat.lt_of_lt_of_le (HNM2.out j (.inl (.inl hj))).1 hb.size,(HNM2.out j (.inl (.inl hj))).2⟩) (HAA.out.keepX hms.kx (fun j hj=>(HPP.out j hj).2)) ⟨13,s.vs.length,0,0,0,⟨#[]⟩,[],[],0,0,0⟩ none 0 none 0 (ERn.nil _ _) (AGn.nil _ _) 5 0 0 (Cd.most op kk) body aB cB (HBD.out.keepX hms.kx (fun j hj=>(HPP.out j hj).2)) none 0 [] ⟨none,0,rfl,fun h=>absurd rfl h⟩ (fun j hj=>by simp [ob] at hj) (by simp) HS2.out)
 generalize Cd.most op kk=MO at *
 go_region_held3 (fun w'=>w'.cell? ⟨w.heap.size,6,none⟩=some (.slice (some ⟨b,off,none⟩) E.length cE)∧w'.cell? ⟨w.heap.size,7,none⟩=some (.slice aB body.length cB)∧w'.cell? ⟨b,off,none⟩=some (.int .i64 op)∧w'.cell? ⟨b,off+1,none⟩=some (.string (bs nm))∧w'.cell? ⟨b,off+2,none⟩=some (.int .i64 kk)∧w'.cell? ⟨b,off+3,none⟩=some (.slice aX L.length cX)) ((first|exact ⟨by assumption,by assumption,by assumption,by assumption,by assumption,by assumption⟩|go_keep)) ((first
  |(go_at_call 114;(with_reducible refine (HMO.out _).mono ?_);rintro e wq ⟨rfl,hbq⟩;have kd:=hide (btrans kc.out hbq);clear kc;have kc:=kd;clear kd hbq;obtain ⟨k6,k7,y0,y1,y2,y3⟩:=HJ.out _ kc.out)
  |(go_at_call 78;(with_reducible refine (HFI.out _ (by exact kc.out)).mono ?_);rintro e w9 ⟨rfl,m9,hm9,hs9⟩;have HM9:=hide hm9;have HS9:=hide (HMS2.out.trans ((MS.of_below kc.out).trans hs9));have k6:=hs9.cell k6 (HNM2.out w.heap.size (.inr rfl)).2;have k7:=hs9.cell k7 (HNM2.out w.heap.size (.inr rfl)).2;have y0:=hs9.cell y0 (HNM2.out b (.inl (.inr rfl))).2;have y1:=hs9.cell y1 (HNM2.out b (.inl (.inr rfl))).2;have y2:=hs9.cell y2 (HNM2.out b (.inl (.inr rfl))).2;have y3:=hs9.cell y3 (HNM2.out b (.inl (.inr rfl))).2;clear hm9 hs9)))
 all_goals
  go_wp2
  refine bodyPost_end (v:= .tuple #[]) (results_none rfl _ _ _) rfl ⟨rfl,m9,HM9.out,HS9.out⟩
theorem Tryz.infoArg:(Tryz.prog.info? 100).map (fun i=>(i.zero,i.size,i.bytes))=some (some (.agg #[.slice none 0 0,.int .i64 0]),2,32):=by kernel_rfl
def AQ (B:Nat) (w:World) (sv:Value) (q:List (List (Int × Int) × Int)):Prop:=
 ∃ cs:List (List Value),w.ownsRow B 100 2 sv q.length cs.flatten∧cs.length=q.length∧ ∀ (k:Nat) y,q[k]? =some y→ ∃ ae ce,cs[k]? =some [.slice ae y.1.length ce,.int .i64 y.2]∧ER w (.slice ae y.1.length ce) y.1∧ ∀ j,ob ae=some j→B≤j∧j<w.heap.size∧sv.ownBlock ≠ some j
theorem AQ.below {B:Nat} {w w':World} {sv:Value} {q:List (List (Int × Int) × Int)} (h:AQ B w sv q) (hb:Below w.heap.size w w'):AQ B w' sv q:=by
 obtain ⟨cs,h1,h2,h3⟩:=h
 refine ⟨cs,own_keepT h1 (fun j hj=>hb.block j (h1.lt j hj).2),h2,fun k y hy=> ?_⟩
 obtain ⟨ae,ce,h4,h5,h6⟩:=h3 k y hy
 exact ⟨ae,ce,h4,h5.keep hb,fun j hj=>⟨(h6 j hj).1,Nat.lt_of_lt_of_le (h6 j hj).2.1 hb.size,(h6 j hj).2.2⟩⟩
theorem AQ.push {B:Nat} {w w7:World} {sv:Value} {q:List (List (Int × Int) × Int)} {y:List (Int × Int) × Int} {gn cap:Nat} (cs:List (List Value)) (h2:cs.length=q.length) (h3: ∀ (k:Nat) y,q[k]? =some y→ ∃ ae ce,cs[k]? =some [.slice ae y.1.length ce,.int .i64 y.2]∧ER w (.slice ae y.1.length ce) y.1∧ ∀ j,ob ae=some j→B≤j∧j<w.heap.size∧sv.ownBlock ≠ some j) (ae:Option Addr) (ce:Nat) (hE:ER w (.slice ae y.1.length ce) y.1) (hN: ∀ j,ob ae=some j→B≤j∧j<w.heap.size∧sv.ownBlock ≠ some j)
  (hown:w7.ownsRow B 100 2 (.slice (some ⟨gn,0,none⟩) (q.length+1) cap) (q.length+1) (cs.flatten++[.slice ae y.1.length ce,.int .i64 y.2])) (hgr:w.grownBy w7 sv.ownBlock) (hat:sv.ownBlock=some gn∨w.heap.size≤gn):AQ B w7 (.slice (some ⟨gn,0,none⟩) (q.length+1) cap) (q++[y]):=by
 have kx:Kx (fun j=>j<w.heap.size∧sv.ownBlock ≠ some j) w w7:=(Kx.refl _ _).grown hgr (fun k hk=> .inr (fun hn=>hn.2 hk))
 have hne: ∀ j,j<w.heap.size∧sv.ownBlock ≠ some j→j<w7.heap.size∧(Value.slice (some ⟨gn,0,none⟩) (q.length+1) cap).ownBlock ≠ some j:=fun j hj=>⟨Nat.lt_of_lt_of_le hj.1 hgr.size,fun e=>by
  have e2:gn=j:=by simpa [Value.ownBlock] using e
  rcases hat with h4|h4
  ·exact hj.2 (by rw [h4,e2])
  ·omega⟩
 refine ⟨cs++[[.slice ae y.1.length ce,.int .i64 y.2]],?_,by simp [h2],fun k z hz=> ?_⟩
 ·have:=hown
  rw [List.length_append,List.flatten_append]
  simpa using this
 ·rcases Nat.lt_or_ge k q.length with hk|hk
  ·rw [List.getElem?_append_left hk] at hz
   obtain ⟨ae2,ce2,h4,h5,h6⟩:=h3 k z hz
   refine ⟨ae2,ce2,by rw [List.getElem?_append_left (by omega)];exact h4,h5.keepX kx (fun j hj=>(h6 j (by rw [←ob_own ae2 z.1.length ce2];exact hj)).2),fun j hj=>⟨(h6 j hj).1,hne j (h6 j hj).2⟩⟩
  ·rw [List.getElem?_append_right hk] at hz
   have hk0:k - q.length=0:=by
    have:=(List.getElem?_eq_some_iff.1 hz).1
    simp at this;omega
   rw [hk0] at hz
   obtain rfl:y=z:=by simpa using hz
   exact ⟨ae,ce,by rw [List.getElem?_append_right (by omega),show k - cs.length=0 from by omega];rfl,hE.keepX kx (fun j hj=>(hN j (by rw [←ob_own ae y.1.length ce];exact hj)).2),fun j hj=>⟨(hN j hj).1,hne j (hN j hj).2⟩⟩
theorem AQ.ag {C:MC} {m:MA} {s:Lw.St} {bk at':Int} {w w':World} {sv:Value} {q:List (List (Int × Int) × Int)} (hM:MK C m s bk at' w) (h:AQ w.heap.size w' sv q): ∃ aa ca,sv= .slice aa q.length ca∧AGn w' (fun j=>j<w'.heap.size∧ ¬ m.mut C.g j∧ ¬ C.J j) (.slice aa q.length ca) q:=by
 obtain ⟨cs,h1,h2,h3⟩:=h
 rcases h1.2 with ⟨e1,e2⟩|⟨g,cap,cur,e1,-⟩
 ·have:q=[]:=List.length_eq_zero_iff.1 e2
  subst this
  exact ⟨none,0,e1,AGn.nil _ _⟩
 ·have hlt:=h1.lt g (by rw [e1];rfl)
  refine ⟨some ⟨g,0,none⟩,cap,e1,⟨_,cap,rfl,fun j hj=> ?_,fun _=>⟨g,0,rfl,fun k y hy=> ?_⟩⟩⟩
  ·have e:g=j:=by simpa [Value.ownBlock] using hj
   rw [←e];exact ⟨hlt.2,hM.fresh hlt.1⟩
  ·obtain ⟨ae,ce,h4,h5,h6⟩:=h3 k y hy
   have hc:=h1.cells (g:=g) (by rw [e1];rfl)
   have hlen: ∀ c ∈ cs,c.length=2:=by
    intro c hcm
    obtain ⟨j,hj,he⟩:=List.mem_iff_getElem.1 hcm
    obtain ⟨z,hz⟩: ∃ z,q[j]? =some z:=⟨_,List.getElem?_eq_getElem (by omega)⟩
    obtain ⟨_,_,h7,_⟩:=h3 j z hz
    rw [List.getElem?_eq_getElem hj] at h7
    rw [←he,Option.some.inj h7];rfl
   have hfl: ∀ (l:List (List Value)) (k:Nat) (c:List Value),(∀ c ∈ l,c.length=2)→l[k]? =some c→ ∀ (j:Nat) u,c[j]? =some u→l.flatten[k * 2+j]? =some u:=by
    intro l
    induction l with
    |nil=>intro k c _ h;simp at h
    |cons a r ih=>
     intro k c hl hk j u hu
     have ha:a.length=2:=hl a List.mem_cons_self
     cases k with
     |zero=>
      simp at hk
      subst hk
      have:=(List.getElem?_eq_some_iff.1 hu).1
      rw [List.flatten_cons,Nat.zero_mul,Nat.zero_add,List.getElem?_append_left this]
      exact hu
     |succ k=>
      rw [List.flatten_cons,List.getElem?_append_right (by omega),ha,show (k+1) * 2+j - 2=k * 2+j from by omega]
      exact ih k c (fun c hc=>hl c (List.mem_cons_of_mem _ hc)) (by simpa using hk) j u hu
   have e0:=hc (k * 2) _ (by have:=hfl cs k _ hlen h4 0 _ rfl;simpa using this)
   have e3:=hc (k * 2+1) _ (hfl cs k _ hlen h4 1 _ rfl)
   rw [add_off] at e0 e3
   refine ⟨⟨ae,ce,by simpa using e0,h5,fun j hj=> ?_⟩,by simpa using e3⟩
   have:=h6 j (by rw [←ob_own ae y.1.length ce];exact hj)
   exact ⟨this.2.1,hM.fresh this.1⟩
theorem Lw.sps_cons {s:Lw.St} {n:Nat} {ws:List Lw.Vr} {i:Nat} {x:Sx.Tr} {r:List Sx.Tr} {q:List (List (Int × Int) × Int)} (h:Lw.sps s n ws i (x::r)=some q): ∃ y q2,ws[i]? =some y∧Lw.sps s n ws (i+1) r=some q2∧q=(if Cd.endT y.2 then ([],Cd.nmb s.vs (bs (Sx.eH x).2.1)) else (Lw.stps s.vs n [x],0))::q2:=by
 unfold Lw.sps at h
 cases hy:ws[i]? with
 |none=>rw [hy] at h;cases h
 |some y=>
  rw [hy] at h
  obtain ⟨q2,h1,h2⟩:=Option.bind_eq_some_iff.1 h
  exact ⟨y,q2,rfl,h1,(Option.some.inj h2).symm⟩
set_option maxRecDepth 100000 in
set_option maxHeartbeats 4000000 in
theorem spawn_any (ab:List Lw.Ab) (n:Nat) {C:MC} {m:MA} {s s':Lw.St} {bk:Int} {w:World} (P:Nat→Prop) (ax:Int) (A B T:List UInt8) (N:Int) (E body els:List Sx.Tr) (aE aB aL:Option Addr) (cE cB cL:Nat) (h:MK C m s bk ax w) (hA:ABm w P C.uA ab) (hE:EL w P (n+1) E (.slice aE E.length cE)) (hw:Sx.wE (n+1) E≤1000000)
  (K:Nat) (hK:ab.findIdx? (fun g=>decide (g.1=bs A))=some K) (Q:List (List (Int × Int) × Int)) (hQ:Lw.sps s (n+1) ((ab[K]?.map (·.2)).getD []) 0 E=some Q) (hs:Lw.put s bk ax ⟨10,K,0,0,0,⟨#[]⟩,[],Q,0,0,0⟩=some s'):
  Calls Tryz.prog 76 #[.pointer (some ⟨C.g,0,none⟩),.agg #[.int .i64 10,.int .i64 ax,.string (bs A),.string (bs B),.string (bs T),.int .i64 N,.slice aE E.length cE,.slice aB body.length cB,.slice aL els.length cL]] w fun e w'=>e= .returned (.tuple #[])∧ ∃ m',MK C m' s' bk ax w'∧MS C.g m w m' w':=by
 obtain ⟨i0,hi0,hz0,hz1,hz2⟩:=info_parts Tryz.infoArg
 have hKl:K<ab.length:=(List.findIdx?_eq_some_iff_getElem.1 hK).1
 obtain ⟨⟨gnm,gvs⟩,hgk⟩: ∃ y,ab[K]? =some y:=⟨_,List.getElem?_eq_getElem hKl⟩
 rw [hgk] at hQ
 have hQ':Lw.sps s (n+1) gvs 0 E=some Q:=hQ
 obtain ⟨aU,cU,hU,hUl,hUr⟩:=hA
 obtain ⟨gu,ou,rfl,hPu,hUc⟩:=hUr (List.ne_nil_of_mem (List.mem_of_getElem? hgk))
 obtain ⟨av,cv,p1,a3,n3,c3,a4,n4,c4,e0,e1,e2,e3,e4,hva,-⟩:=hUc K _ hgk
 dsimp only at e0 e1 hva
 have c5:=h.c5
 rw [hU] at c5
 have hb:Below w.heap.size w (w.alloc (.cells #[.int .i64 10,.int .i64 ax,.string (bs A),.string (bs B),.string (bs T),.int .i64 N,.slice aE E.length cE,.slice aB body.length cB,.slice aL els.length cL] 75)):=(Below.refl _ _).alloc (Nat.le_refl _) _
 have c5b:=bsome hb c5
 have hAb:ABm (w.alloc (.cells #[.int .i64 10,.int .i64 ax,.string (bs A),.string (bs B),.string (bs T),.int .i64 N,.slice aE E.length cE,.slice aB body.length cB,.slice aL els.length cL] 75)) P (.slice (some ⟨gu,ou,none⟩) ab.length cU) ab:=by
  have:ABm w P (.slice (some ⟨gu,ou,none⟩) ab.length cU) ab:=⟨_,cU,rfl,hUl,fun _=>⟨gu,ou,rfl,hPu,hUc⟩⟩
  exact this.keepX (Kx.of_below (X:=fun _=>True) hb) (fun _ _=>trivial)
 have CI:=hide (idxP_any ab (bs A) K hK P (some ⟨gu,ou,none⟩) cU w.heap.size (w.alloc (.cells #[.int .i64 10,.int .i64 ax,.string (bs A),.string (bs B),.string (bs T),.int .i64 N,.slice aE E.length cE,.slice aB body.length cB,.slice aL els.length cL] 75)) hAb (by simp [go_sem]))
 have HM:=hide h
 have HEL:=hide hE
 have HSS:=hide hs
 have HQQ:=hide hQ'
 have HB0:=hide hb
 have hEl:E.length≤1000000:=by simp only [Sx.wE] at hw;omega
 have HWX:Hid (∀ i x,E[i]? =some x→Sx.wE (n+1) [x]≤1000000):=hide (fun i x hx=>by
  have h1:=Sx.sum_take (fun d=>Sx.wE n (Sx.eL d)) E i x hx
  have h2:=Sx.sum_take_le (fun d=>Sx.wE n (Sx.eL d)) E (i+1)
  have h3:=(List.getElem?_eq_some_iff.1 hx).1
  simp only [Sx.wE,Sx.sum,List.length_cons,List.length_nil] at hw ⊢
  omega)
 have HE1:=hide e1
 have HVA:=hide hva
 have HC5:=hide c5
 have hK0:(0:Int)≤(K:Int):=by omega
 have hK1:(K:Int)<(ab.length:Int):=by omega
 have HJ0:Hid (∀ w',Below (w.alloc (.cells #[.int .i64 10,.int .i64 ax,.string (bs A),.string (bs B),.string (bs T),.int .i64 N,.slice aE E.length cE,.slice aB body.length cB,.slice aL els.length cL] 75)).heap.size (w.alloc (.cells #[.int .i64 10,.int .i64 ax,.string (bs A),.string (bs B),.string (bs T),.int .i64 N,.slice aE E.length cE,.slice aB body.length cB,.slice aL els.length cL] 75)) w'→w'.cell? ⟨w.heap.size,6,none⟩=some (.slice aE E.length cE)):=hide (fun w' hb=>bsome hb (by simp [go_sem]))
 clear h hE hs hQ hQ' hb hAb hUc hUr hU hPu e0 e1 e2 e3 e4 hva hgk hK c5 hw
 go_enter Tryz.func76,Tryz.ntmps76
 go_wp2_with fail
 refine CI.out.mono ?_
 rintro e W ⟨rfl,hb1⟩
 have k6:=HJ0.out W hb1
 have HBW:=hide (btrans HB0.out hb1)
 clear CI HB0 HJ0 hb1 c5b
 go_wp2
 go_loopw [5,17] (fun su iv wr=> ∃ (i:Nat) (sv:Value) (qd qr:List (List (Int × Int) × Int)),i≤E.length∧iv= .int .i64 i∧sv=su∧Hid (AQ w.heap.size wr sv qd)∧Hid (Lw.sps s (n+1) gvs i (E.drop i)=some qr)∧Hid (qd++qr=Q)∧Hid (qd.length=i)∧Hid (Below w.heap.size w wr)) (fun _ iv _=>E.length - (intOf iv).toNat)
 case atStart=>exact ⟨0,.slice none 0 0,[],Q,Nat.zero_le _,rfl,rfl,hide ⟨[],by simpa using World.ownsRow_nil _ _ _ _,rfl,fun k y hy=>by simp at hy⟩,by simpa using HQQ,hide rfl,hide rfl,HBW⟩
 case round=>
  obtain ⟨i,sv,qd,qr,hi,rfl,rfl,HAQ,HSP,HQE,HQL,HB⟩:=hrel
  clear HQQ HBW k6
  by_cases hlt:i<E.length
  ·have d1:decide ((i:Int)<(E.length:Int))=true:=by simp;omega
   obtain ⟨x,hx⟩: ∃ y,E[i]? =some y:=⟨_,List.getElem?_eq_getElem hlt⟩
   have hsp:=HSP.out
   rw [show E.drop i=x::E.drop (i+1) from by rw [List.drop_eq_getElem_cons hlt,(List.getElem?_eq_some_iff.1 hx).2]] at hsp
   obtain ⟨y,q2,hy,hsp2,hqr⟩:=Lw.sps_cons hsp
   have HSP2:=hide hsp2
   have HQR:=hide hqr
   obtain ⟨aE',cE',hv,hel⟩:=HEL.out
   obtain ⟨rfl,rfl⟩:aE=aE'∧cE=cE':=by simpa using hv
   rcases hel with h0|⟨b,off,rfl,hPb,hc⟩
   ·subst h0;simp at hlt
   have hwx:=HWX.out i x hx
   obtain ⟨op,nm,kk,L,u,rfl,q0,q1,q2',q3,hL⟩:=hc i x hx
   obtain ⟨aX,cX,rfl⟩:=hL.slice
   have x0:=bsome HB.out q0
   have x1:=bsome HB.out q1
   have x2:=bsome HB.out q2'
   have x3:=bsome HB.out q3
   have HLL:=hide hL
   have hiv:(i:Int)<(gvs.length:Int):=by have:=(List.getElem?_eq_some_iff.1 hy).1;omega
   have hi0':(0:Int)≤(i:Int):=by omega
   have hi1':(i:Int)<(E.length:Int):=by omega
   obtain ⟨a9,c9,e9,h9⟩:=HVA.out
   obtain ⟨rfl,rfl⟩:av=a9∧cv=c9:=by simpa using e9
   obtain ⟨gv,ov,rfl,hcv⟩:=h9 (List.ne_nil_of_mem (List.mem_of_getElem? hy))
   have y1:=(hcv i _ hy).2
   obtain ⟨yn,yt⟩:=y
   dsimp only at y1
   have hbx:Below wr.heap.size wr (wr.alloc (.cells #[.int .i64 op,.string (bs nm),.int .i64 kk,.slice aX L.length cX] 112)):=(Below.refl _ _).alloc (Nat.le_refl _) _
   have hbw:=btrans HB.out hbx
   have z5:=bsome hbw HC5.out
   have z1:=bsome hbw HE1.out
   have zy:=bsome hbw y1
   have HBX:=hide hbw
   have HBX2:=hide hbx
   have CE:=hide (lIsEnd_any yt (wr.alloc (.cells #[.int .i64 op,.string (bs nm),.int .i64 kk,.slice aX L.length cX] 112)))
   clear hc hx hv hsp hsp2 hqr q0 q1 q2' q3 hL hPb hcv h9 e9 hy hbx hbw y1
   go_wp2_with fail
   refine CE.out.mono ?_
   rintro e w2 ⟨rfl,rfl⟩
   clear CE z5 z1 zy
   have hql:qd.length≤1000000:=by rw [HQL.out];omega
   have hsz:=HB.out.size
   cases hq:Cd.endT yt with
   |true=>
    go_wp2_with fail
    refine (mnum_any HM.out (bs nm) _ HBX.out).mono ?_
    rintro e w3 ⟨rfl,hb3⟩
    have hb4:Below wr.heap.size wr (w3.alloc (.cells #[.slice none 0 0,.int .i64 (Cd.nmb s.vs (bs nm))] 100)):=btrans (btrans HBX2.out hb3) ((Below.refl _ _).alloc (Nat.le_refl _) _)
    obtain ⟨cs,a1,a2,a3⟩:=HAQ.out.below hb4
    have HA1:=hide a1
    have HA3:=hide a3
    have HB4:=hide (btrans HB.out hb4)
    have h34:=hb3.size
    have h35:w.heap.size≤w3.heap.size:=by have:=HBX.out.size;omega
    clear a1 a3 hb4 hb3 h34
    go_wp2_with (at_builtin;refine wpList_append_lies _ rfl _ _ 42 rfl w.heap.size 100 i0 (.agg #[.slice none 0 0,.int .i64 0]) 2 32 Tryz.underlying42 hi0 hz0 hz1 hz2 rfl (by decide) _ _ _ rfl (by exact HA1.out) ⟨w3.heap.size,0,none⟩ 1 1 [.slice none 0 0,.int .i64 (Cd.nmb s.vs (bs nm))] rfl rfl (lw_two _ _ _ _) (by intro u hu;simp at hu;rcases hu with rfl|rfl<;> rfl) (by decide) (by unfold maxLen;omega) (by omega) (by simp;omega) _ rfl ?_;intro gn cap2 w7 hown hgrow hat hlt7)
    have HPU:=hide (AQ.push (y:=([],Cd.nmb s.vs (bs nm))) cs a2 HA3.out none 0 ⟨none,0,rfl,fun h=>absurd rfl h⟩ (fun j hj=>by simp [ob] at hj) hown hgrow (hat.imp id (fun e=>by rw [e];exact Nat.le_refl _)))
    have HB7:Hid (Below w.heap.size w w7):=hide ((Kx.of_below (X:=fun _=>True) HB4.out).grown hgrow (fun k hk=> .inl (HA1.out.lt k hk).1)).below
    have HQ7:Hid ((qd++[([],Cd.nmb s.vs (bs nm))])++q2=Q):=hide (by rw [←HQE.out,HQR.out,hq];simp [Sx.eH,Sx.tE])
    clear hown hgrow hat HA1 HA3 HB4 hlt7 HAQ HB HBX HBX2 HQE HQR HSP
    go_wp2
    go_roundw
    case rel=>exact ⟨i+1,_,_,q2,by omega,by go_num,rfl,HPU,HSP2,HQ7,hide (by simp [HQL.out]),HB7⟩
    case measure=>simp [intOf];omega
   |false=>
    go_wp2_with fail
    obtain ⟨W2,hW2⟩: ∃ W2,(wr.alloc (.cells #[.int .i64 op,.string (bs nm),.int .i64 kk,.slice aX L.length cX] 112)).alloc (.cells #[.int .i64 op,.string (bs nm),.int .i64 kk,.slice aX L.length cX] 112)=W2:=⟨_,rfl⟩
    have hb2:Below wr.heap.size wr W2:=by rw [←hW2];exact btrans HBX2.out ((Below.refl _ _).alloc (Nat.le_refl _) _)
    have hW2s:wr.heap.size<W2.heap.size:=by rw [←hW2];simp;omega
    have v0:W2.cell? ⟨wr.heap.size+1,0,none⟩=some (.int .i64 op):=by rw [←hW2];simp [go_sem]
    have v1:W2.cell? ⟨wr.heap.size+1,1,none⟩=some (.string (bs nm)):=by rw [←hW2];simp [go_sem]
    have v2:W2.cell? ⟨wr.heap.size+1,2,none⟩=some (.int .i64 kk):=by rw [←hW2];simp [go_sem]
    have v3:W2.cell? ⟨wr.heap.size+1,3,none⟩=some (.slice aX L.length cX):=by rw [←hW2];simp [go_sem]
    have hbw:=btrans HB.out hb2
    have hm2:=HM.out.below hbw
    have CS:=hide (steps_any s.vs m.av m.cv C.g HM.out.vl (n+1) W2 (fun _=>True) [Sx.tE op nm kk L] (.slice (some ⟨wr.heap.size+1,0,none⟩) 1 1) hm2.c1 hm2.vaR (ELone (HLL.out.keep (Kp.of_below (S:=[]) hbw) (by simp)) v0 v1 v2 v3) hwx)
    rw [hW2]
    have HB2:=hide hb2
    clear hW2 hb2 v0 v1 v2 v3 hbw hm2
    refine CS.out.mono ?_
    rintro e w3 ⟨u,rfl,ho,-,hb3⟩
    obtain ⟨ae,ce,rfl,her,hfr⟩:=er_own ho
    have HFR:Hid (∀ j,ob ae=some j→W2.heap.size≤j∧j<w3.heap.size):=hide (fun j hj=>hfr j (by rw [ob_own];exact hj))
    have HSV:Hid (∀ j,sv.ownBlock=some j→j<wr.heap.size):=hide (fun j hj=>by obtain ⟨cs,a1,_⟩:=HAQ.out;exact (a1.lt j hj).2)
    have HER:=hide her
    have hb4:Below wr.heap.size wr (w3.alloc (.cells #[.slice ae (Lw.stps s.vs (n+1) [Sx.tE op nm kk L]).length ce,.int .i64 0] 100)):=btrans (btrans HB2.out hb3) ((Below.refl _ _).alloc (Nat.le_refl _) _)
    obtain ⟨cs,a1,a2,a3⟩:=HAQ.out.below hb4
    have HA1:=hide a1
    have HA3:=hide a3
    have HB4:=hide (btrans HB.out hb4)
    have h35:w.heap.size≤w3.heap.size:=by have h36:=hb3.size;omega
    generalize hST:(Lw.stps s.vs (n+1) [Sx.tE op nm kk L])=ST at *
    clear a1 a3 hb4 hb3 ho her hfr CS
    go_wp2_with (at_builtin;refine wpList_append_lies _ rfl _ _ 42 rfl w.heap.size 100 i0 (.agg #[.slice none 0 0,.int .i64 0]) 2 32 Tryz.underlying42 hi0 hz0 hz1 hz2 rfl (by decide) _ _ _ rfl (by exact HA1.out) ⟨w3.heap.size,0,none⟩ 1 1 [.slice ae ST.length ce,.int .i64 0] rfl rfl (lw_two _ _ _ _) (by intro u hu;simp at hu;rcases hu with rfl|rfl<;> rfl) (by decide) (by unfold maxLen;omega) (by omega) (by simp;omega) _ rfl ?_;intro gn cap2 w7 hown hgrow hat hlt7)
    have HPU:=hide (AQ.push (y:=(ST,0)) cs a2 HA3.out ae ce (HER.out.keep ((Below.refl _ _).alloc (Nat.le_refl _) _)) (fun j hj=>⟨by have:=(HFR.out j hj).1;omega,by have:=(HFR.out j hj).2;simp;omega,fun e=>by have h8:=HSV.out j e;have h9:=(HFR.out j hj).1;omega⟩) hown hgrow (hat.imp id (fun e=>by rw [e];exact Nat.le_refl _)))
    have HB7:Hid (Below w.heap.size w w7):=hide ((Kx.of_below (X:=fun _=>True) HB4.out).grown hgrow (fun k hk=> .inl (HA1.out.lt k hk).1)).below
    have HQ7:Hid ((qd++[(ST,0)])++q2=Q):=hide (by rw [←HQE.out,HQR.out,hq,←hST];simp)
    clear hown hgrow hat HA1 HA3 HB4 hlt7 HAQ HB HBX HBX2 HQE HQR HSP HFR HSV HER hST
    go_wp2
    go_roundw
    case rel=>exact ⟨i+1,_,_,q2,by omega,by go_num,rfl,HPU,HSP2,HQ7,hide (by simp [HQL.out]),HB7⟩
    case measure=>simp [intOf];omega
  ·obtain rfl:i=E.length:=by omega
   have d1:decide ((E.length:Int)<(E.length:Int))=false:=by simp
   have hq:qr=[]:=by have:=HSP.out;rw [List.drop_length] at this;exact (Option.some.inj this).symm
   subst hq
   have hqd:qd=Q:=by have:=HQE.out;simpa using this
   subst hqd
   obtain ⟨aa,ca,rfl,hag⟩:=HAQ.out.ag HM.out
   have CP:=hide (mput2_any HM.out ⟨10,K,0,0,0,⟨#[]⟩,[],qd,0,0,0⟩ HSS.out wr HB.out none 0 aa ca (ERn.nil _ _) hag)
   unfold IV at CP
   dsimp only at CP
   clear hag HAQ HSP HQE HQL
   go_wp2_with fail
   refine CP.out.mono ?_
   rintro e w9 ⟨rfl,m9,hm9,hs9,-⟩
   have HM9:=hide hm9
   have HS9:=hide hs9
   clear hm9 hs9 CP
   go_wp2
   refine bodyPost_end (v:= .tuple #[]) (results_none rfl _ _ _) rfl ⟨rfl,m9,HM9.out,HS9.out⟩
end Go.Proofs.YtcdcoiobpbdmpaaGreatDoor
