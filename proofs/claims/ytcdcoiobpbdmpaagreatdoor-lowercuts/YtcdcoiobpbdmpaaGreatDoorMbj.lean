import Derived.Test.YtcdcoiobpbdmpaaGreatDoorMbi
namespace Go.Proofs.YtcdcoiobpbdmpaaGreatDoor
open Go.RowKit Go.Maps Go.ChangeMaps
theorem Kn.one_A {n:Nat} {ab:List Sx.Tr} {blk:Kn.St→List Sx.Tr→Kn.Rs} {s:Kn.St} {t:Sx.Tr} (h:Kn.sc n ab s.ns s.bd t=0) (hd: ¬ ((Sx.sH t).1=11∨(Sx.sH t).1=12)):
  Kn.one n ab blk s t=Kn.thn (blk ⟨s.ns++Kn.bnds s.ns t,s.bd++Kn.bnds s.ns t,s.at'+1⟩ (Sx.sB t)) fun s1=>Kn.thn (blk ⟨s.ns++Kn.bnds s.ns t,s1.bd,s1.at'⟩ (Sx.sO t)) fun s2=> .inl ⟨s.ns++Kn.bnds s.ns t,s2.bd,s2.at'⟩:=by
 unfold Kn.one
 rw [if_neg (by simpa using h)]
 dsimp only
 rw [if_neg hd]
theorem Kn.one_B {n:Nat} {ab:List Sx.Tr} {blk:Kn.St→List Sx.Tr→Kn.Rs} {s:Kn.St} {t:Sx.Tr} (h:Kn.sc n ab s.ns s.bd t=0) (hd:(Sx.sH t).1=11∨(Sx.sH t).1=12):
  Kn.one n ab blk s t=Kn.thn (blk ⟨s.ns++Kn.bnds s.ns t,s.bd++Kn.bnds s.ns t,s.at'+1⟩ (Sx.sB t)) fun s1=>Kn.thn (blk ⟨s.ns,s1.bd,s1.at'⟩ (Sx.sO t)) fun s2=> .inl ⟨s.ns,s2.bd,s2.at'⟩:=by
 unfold Kn.one
 rw [if_neg (by simpa using h)]
 dsimp only
 rw [if_pos hd]
structure SX (c:Kg) (vv:Value) (w:World) (b r:Nat) (d at' N:Int) (A B T:List UInt8) (uE uB uL:Value):Prop where
 q:BQ b w d at' N A B T uE uB uL
 r0:w.cell? ⟨r,0,none⟩=some (.int .i64 0)
 r1:w.cell? ⟨r,1,none⟩=some (.int .i64 0)
 f0:w.frozen? ⟨r,0,none⟩=false
 f1:w.frozen? ⟨r,1,none⟩=false
 bb:Bs c vv w b
 br:Bs c vv w r
theorem SX.kp {c:Kg} {vv:Value} {w w':World} {b r:Nat} {d at' N:Int} {A B T:List UInt8} {uE uB uL:Value} (h:SX c vv w b r d at' N A B T uE uB uL) (k:Kp [] w w'):SX c vv w' b r d at' N A B T uE uB uL:=
 ⟨h.q.keep k (by simp),k.some h.r0 (by simp),k.some h.r1 (by simp),(k.frozen (p:=⟨r,0,none⟩) h.br.lt (by simp)).trans h.f0,(k.frozen (p:=⟨r,1,none⟩) h.br.lt (by simp)).trans h.f1,h.bb.go (Kf.of_kp k),h.br.go (Kf.of_kp k)⟩
theorem SX.go {c:Kg} {vv vv':Value} {w w':World} {b r:Nat} {d at' N:Int} {A B T:List UInt8} {uE uB uL:Value} (h:SX c vv w b r d at' N A B T uE uB uL) (k:Kf c vv w vv' w'):SX c vv' w' b r d at' N A B T uE uB uL:=
 ⟨h.q.keep k.kp h.bb.not,k.kp.some h.r0 h.br.not,k.kp.some h.r1 h.br.not,(k.kp.frozen (p:=⟨r,0,none⟩) h.br.lt h.br.not).trans h.f0,(k.kp.frozen (p:=⟨r,1,none⟩) h.br.lt h.br.not).trans h.f1,h.bb.go k,h.br.go k⟩
theorem Kn.wr1 {t:Nat} (h:t<100000):wrap64 ((t:Int)+1)=(t:Int)+1:=by simp only [wrap64];omega
theorem Kn.bud1 {t a b:Nat} (h:t+(1+a+b)≤100000):t<100000:=by omega
theorem Kn.bud2 {t a b:Nat} (h:t+(1+a+b)≤100000):t+1+a≤100000:=by omega
theorem Kn.bud4 {t a b:Nat} (h:t+(1+a+b)≤100000):t+1+a+b≤100000:=by omega
theorem Kn.bud3 {l v a b:Nat} (h:l+2 * (1+a+b)≤1000) (hv:v≤2):l+v+2 * a≤1000∧l+v+2 * a+2 * b≤1000∧l+v≤1000:=by omega
theorem Kn.Inv.at_any {ns bd:List Kn.Nv} {t:Nat} (h:Kn.Inv ⟨ns,bd,t⟩) (k:Nat):Kn.Inv ⟨ns,bd,k⟩:=⟨h.sb,h.ty⟩
theorem KS.keepB {c:Kg} {w w':World} {vv u:Value} {bd:List Kn.Nv} {fk:List UInt8→Option Value} {t r k:Nat} (h:KS c w vv bd fk t) (hk:Kp [r] w w') (hr:Bs c vv w r) (hc:w.cell? ⟨r,k,none⟩=some u):KS c w' vv bd fk t:=
 have hg:c.g ∉ [r]:=by simpa using fun e=>hr.n1 e.symm
 have hma:c.ma ≠ r:=fun e=>h.ma.no_cell k u (by rw [e];exact hc)
 ⟨Nat.lt_of_lt_of_le h.lt hk.size,hk.some h.c0 hg,hk.some h.c1 hg,hk.some h.c2 hg,hk.some h.c3 hg,hk.some h.c4 hg,fun k=>(hk.frozen (p:=⟨c.g,k,none⟩) h.lt hg).trans (h.fz k),own_keepv h.ob (fun b hb=>hk.block b (h.ob.lt b hb).2 (fun hm=>by simp at hm;subst hm;exact hr.n4 hb)),h.mb.of_block (hk.block _ h.mb.lt (by simpa using fun e=>hr.n2 e.symm)),h.mo.of_block (hk.block _ h.mo.lt (by simpa using fun e=>hr.n3 e.symm)),h.ma.of_block (hk.block _ h.ma.lt (by simpa using hma)),h.ne,h.na,h.gm,h.lb,h.lat,h.sz⟩
theorem Kf.endN {c:Kg} {vv v5:Value} {w w5 w6:World} {r:Nat} (h:Kf c vv w v5 w5) (k:Kp [r] w5 w6) (hr:w.heap.size≤r):Kf c vv w v5 w6:=
 ⟨k.os.trans h.os,k.tape.trans h.tape,k.output.trans h.output,Nat.le_trans h.size k.size,fun b hb h1 h2 h3 h4=>(k.block b (Nat.lt_of_lt_of_le hb h.size) (by simp;omega)).trans (h.block b hb h1 h2 h3 h4),h.nb⟩
theorem blk_one {c:Kg} {n:Nat} (ih:BlT c n) {w W4:World} {P:Nat→Prop} {ab body:List Sx.Tr} {aB:Option Addr} {cB:Nat} {V ns bd NX BX VX:List Kn.Nv} {t:Nat} {vv vX:Value} {aX:Option Addr} {cX:Nat}
  (h:KS c w vv bd (Kn.fkn ns bd) t) (hBd:SL w P n body (.slice aB body.length cB)) (oB:Rn.okB n body) (lB:body.length≤1000000) (hq:Rq c w P ab) (hs:KS c W4 vX BX (Kn.fkn NX BX) (t+1)) (hf:Kf c vv w vX W4) (hv:VR W4 (.slice aX VX.length cX) VX)
  (hvb: ∀ g o,aX=some ⟨g,o,none⟩→g ≠ c.g∧g ≠ c.mb∧g ≠ c.mo∧vX.ownBlock ≠ some g∧g<W4.heap.size) (htw:Kn.twiceP BX VX=false) (htv:Kn.Tyv VX) (hi:Kn.Inv ⟨NX,BX,t+1⟩) (he1:BX++VX=bd++V) (he2:NX++VX=ns++V)
  (hb1:bd.length+V.length+2 * Kn.cs n body≤1000) (hb2:t+1+Kn.cs n body≤100000):
  Calls Tryz.prog 42 #[.pointer (some ⟨c.g,0,none⟩),.slice aB body.length cB,.slice aX VX.length cX] W4 (BlP c vX W4 NX BX (Kn.sts n ab ⟨ns++V,bd++V,t+1⟩ body)):=by
 have hln:(BX++VX).length=(bd++V).length:=by rw [he1]
 rw [List.length_append,List.length_append] at hln
 have hb:BX.length+VX.length+2 * Kn.cs n body≤1000:=by omega
 have hsl:SL W4 P n body (.slice aB body.length cB):=hBd.keep hf.kp (fun k hk hp=>by have:=h.S_ge k hk;have:=hq.pg k hp;omega)
 have:=ih W4 P ab body aB cB VX aX cX vX NX BX (t+1) hsl oB lB (hq.keep h hf) hv hvb htw htv hi hb hb2 hs
 rw [he1,he2] at this
 exact this
theorem blk_two {c:Kg} {n:Nat} (ih:BlT c n) {w W5:World} {P:Nat→Prop} {ab body els:List Sx.Tr} {aB aL:Option Addr} {cB cL:Nat} {V ns bd NX:List Kn.Nv} {t:Nat} {vv v5:Value} {s1:Kn.St} (hN:(NX=ns∧Kn.Inv ⟨ns,bd,t⟩)∨NX=ns++V)
  (h:KS c w vv bd (Kn.fkn ns bd) t) (hBd:SL w P n body (.slice aB body.length cB)) (hEl:SL w P n els (.slice aL els.length cL)) (oB:Rn.okB n body) (oL:Rn.okB n els) (lL:els.length≤1000000) (hq:Rq c w P ab) (hiv:Kn.Inv ⟨ns++V,bd++V,t+1⟩)
  (hr:Kn.sts n ab ⟨ns++V,bd++V,t+1⟩ body= .inl s1) (hs:KS c W5 v5 s1.bd (Kn.fkn NX s1.bd) s1.at') (hf:Kf c vv w v5 W5) (hb3:bd.length+V.length+2 * Kn.cs n body+2 * Kn.cs n els≤1000) (hb4:t+1+Kn.cs n body+Kn.cs n els≤100000):
  Calls Tryz.prog 42 #[.pointer (some ⟨c.g,0,none⟩),.slice aL els.length cL,.slice none 0 0] W5 (BlP c v5 W5 NX s1.bd (Kn.sts n ab ⟨NX,s1.bd,s1.at'⟩ els)):=by
 obtain ⟨i1,g1⟩:=Kn.sts_inv ab n _ body s1 (SL.wh _ hBd) oB hiv hr
 have go:=Kn.sts_go n ab _ body s1 hr
 have gf:s1.bd.length≤(bd++V).length+2 * Kn.cs n body:=go.fw
 have ga:s1.at'=t+1+Kn.cs n body:=go.at'
 rw [List.length_append] at gf
 obtain ⟨y,z,e1,e2,e3⟩:=g1.gx
 have hiN:Kn.Inv ⟨NX,s1.bd,s1.at'⟩:=by
  rcases hN with ⟨rfl,hi⟩|rfl
  ·exact hi.cut i1 ⟨V++z,by rw [e2];simp⟩ _
  ·exact hiv.cut i1 ⟨z,by rw [e2]⟩ _
 have hb:s1.bd.length+([]:List Kn.Nv).length+2 * Kn.cs n els≤1000:=by simp only [List.length_nil];omega
 have hb':s1.at'+Kn.cs n els≤100000:=by omega
 have hsl:SL W5 P n els (.slice aL els.length cL):=hEl.keep hf.kp (fun k hk hp=>by have:=h.S_ge k hk;have:=hq.pg k hp;omega)
 have:=ih W5 P ab els aL cL [] none 0 v5 NX s1.bd s1.at' hsl oL lL (hq.keep h hf) ⟨none,0,rfl,fun h=>absurd rfl h⟩ (fun g o e=>by cases e) rfl (fun v hv=>by cases hv) hiN hb hb' hs
 rw [List.append_nil,List.append_nil] at this
 exact this
set_option maxRecDepth 100000 in
set_option maxHeartbeats 4000000 in
theorem kStmt_step (c:Kg) (m:Nat) (ih:BlT c (m+1)):SmT c (m+1):=by
 intro w P ab d at' A B T N E body els aE aB aL cE cB cL vv ns bd t hE hB hL f oB oL lB lL hq hi hfw hft h
 have ht1:t<100000:=Kn.bud1 hft
 have hwr:wrap64 ((t:Int)+1)=(t:Int)+1:=Kn.wr1 ht1
 have H:=hide h
 have IH:=hide ih
 have HQ:=hide hq
 have HI:=hide hi
 have HBd:=hide hB
 have HEl:=hide hL
 have HOk:=hide f
 have hA12:A.length≤12:=by
  cases hh:Rn.hasA d with
  |true=>exact Rn.isN_len (f.naA hh)
  |false=>rw [f.nilA hh];simp
 have hB12:B.length≤12:=by
  cases hh:Rn.hasB d with
  |true=>exact Rn.isN_len (f.naB hh)
  |false=>rw [f.nilB hh];simp
 have hT4:=f.tl
 have hE6:=f.few
 have hd1:=f.d1
 have hd2:=f.d2
 have h1E:d ≠ 10→E.length≤1:=fun h=>by rw [f.one h];unfold Rn.fewE;split<;> omega
 have hTy:Kn.Tyv ns:=hi.tn
 have CB:=hide (fun w' (hk:Kp [] w w')=>binds_any d c w' at' A B T N (.slice aE E.length cE) (.slice aB body.length cB) (.slice aL els.length cL) vv bd ns t hB12 hT4 (by have:=Kn.typ_len hTy B;omega) HI.out.sb (H.out.kp hk))
 have HV2:Hid ((Kn.bnp ns d A B T).length≤2∧ ∀ v,v ∈ Kn.bnp ns d A B T→v.1.length≤12):=hide (by
  unfold Kn.bnp
  split
  ·exact ⟨by simp,fun v hv=>by simp at hv;subst hv;exact hA12⟩
  ·split
   ·exact ⟨by simp,fun v hv=>by simp at hv;rcases hv with rfl|rfl<;> first|exact hA12|exact hB12⟩
   ·split
    ·exact ⟨by simp,fun v hv=>by simp at hv;subst hv;exact hA12⟩
    ·split
     ·exact ⟨by simp,fun v hv=>by simp at hv;subst hv;exact hA12⟩
     ·exact ⟨by simp,fun v hv=>by cases hv⟩)
 have CS:=hide (fun w' (hk:Kp [] w w') aV cV (hV:VR w' (.slice aV (Kn.bnp ns d A B T).length cV) (Kn.bnp ns d A B T))=>stmtCode_any' c m w' P ab d at' A B T N E body els aE cE (.slice aB body.length cB) (.slice aL els.length cL) vv bd ns (Kn.bnp ns d A B T) aV cV t hd1 hd2 hA12 hB12 hT4 hE6 h1E hV HV2.out.1 (fun v hv=>by have:=HV2.out.2 v hv;omega) HOk.out.xs (hE.keep hk (by simp)) HQ.out.gp (HQ.out.st.keep hk (by simp)) HI.out.sb (by have:=Kn.typ_len hTy A;omega) (H.out.kp hk))
 have e1:=Kn.scp_sc hTy m ab bd (at':=at') f
 rw [e1] at CS
 have HC4:=hide h.c4
 have hgl:=h.lt
 have X0:Hid (SX c vv ((w.alloc (.cells #[.int .i64 d,.int .i64 at',.string (bs A),.string (bs B),.string (bs T),.int .i64 N,.slice aE E.length cE,.slice aB body.length cB,.slice aL els.length cL] 75)).alloc (.cells #[.int .i64 0,.int .i64 0] 31)) w.heap.size (w.heap.size+1) d at' N A B T (.slice aE E.length cE) (.slice aB body.length cB) (.slice aL els.length cL)):=
  hide ⟨(BQ.new w d at' N A B T _ _ _ 75).keep ((Kp.refl [] _).alloc _) (by simp),by simp [go_sem],by simp [go_sem],by simp [go_sem],by simp [go_sem],Bs.new h (Nat.le_refl _) (by simp;omega),Bs.new h (Nat.le_succ _) (by simp)⟩
 clear h ih hq hi hB hL e1
 by_cases hsc:Kn.sc (m+1) ab ns bd (Sx.tS d at' A B T N E body els)=0
 ·have hbb:=Kn.bnp_bnds hsc
  obtain ⟨htw,hiv⟩:=Kn.bind_ok HI.out HOk.out hsc (t+1)
  have HSC:=hide hsc
  rw [hsc] at CS
  rw [hbb] at CS CB HV2
  have HTW:=hide htw
  have HIV:=hide hiv
  have HTV:=hide (Kn.bnds_ok hTy HOk.out hsc)
  have hbl:=Kn.bnds_len ns (Sx.tS d at' A B T N E body els)
  have HOA:=hide (fun h=>Kn.one_A (blk:=Kn.sts (m+1) ab) (s:=⟨ns,bd,t⟩) hsc h)
  have HOB:=hide (fun h=>Kn.one_B (blk:=Kn.sts (m+1) ab) (s:=⟨ns,bd,t⟩) hsc h)
  generalize Kn.one (m+1) ab (Kn.sts (m+1) ab) ⟨ns,bd,t⟩ (Sx.tS d at' A B T N E body els)=R at *
  clear hsc htw hiv hbb
  change Hid (¬ (d=11∨d=12)→R=Kn.thn (Kn.sts (m+1) ab ⟨ns++Kn.bnds ns (Sx.tS d at' A B T N E body els),bd++Kn.bnds ns (Sx.tS d at' A B T N E body els),t+1⟩ body) fun s1=>Kn.thn (Kn.sts (m+1) ab ⟨ns++Kn.bnds ns (Sx.tS d at' A B T N E body els),s1.bd,s1.at'⟩ els) fun s2=> .inl ⟨ns++Kn.bnds ns (Sx.tS d at' A B T N E body els),s2.bd,s2.at'⟩) at HOA
  change Hid (d=11∨d=12→R=Kn.thn (Kn.sts (m+1) ab ⟨ns++Kn.bnds ns (Sx.tS d at' A B T N E body els),bd++Kn.bnds ns (Sx.tS d at' A B T N E body els),t+1⟩ body) fun s1=>Kn.thn (Kn.sts (m+1) ab ⟨ns,s1.bd,s1.at'⟩ els) fun s2=> .inl ⟨ns,s2.bd,s2.at'⟩) at HOB
  generalize Kn.bnds ns (Sx.tS d at' A B T N E body els)=V at *
  go_enter Tryz.func73,Tryz.ntmps73
  go_wp2_with fail
  refine (CB.out _ (((Kp.refl _ _).alloc _).alloc _)).mono ?_
  rintro e w1 ⟨aV,cV,rfl,hnew,k1,hV⟩
  have K1:=hide ((((Kp.refl [] w).alloc _).alloc _).trans k1)
  have X1:=hide (X0.out.kp k1)
  obtain ⟨⟨q0,q1,q2,q3,q4,q5,q6,q7,q8⟩,r0,r1,f0,f1,-,-⟩:=X1.out
  have HV:=hide hV
  have HN:Hid (∀ g o,aV=some ⟨g,o,none⟩→w.heap.size≤g∧g<w1.heap.size):=hide (fun g o e=>⟨by have:=(hnew g o e).1;simp at this;omega,(hnew g o e).2⟩)
  clear k1 hV hnew
  go_wp2_with fail
  refine (CS.out _ K1.out aV cV HV.out).mono ?_
  rintro e w2 ⟨rfl,k2⟩
  have K2:=hide (K1.out.trans k2)
  have X2:=hide (X1.out.kp k2)
  have HK12:=hide k2
  have x4:=K2.out.some HC4.out (by simp)
  have S2:=hide (H.out.kp K2.out)
  have g4:=S2.out.fz 4
  have hg2:=S2.out.lt
  clear k2 q0 q1 q2 q3 q4 q5 q6 q7 q8 r0 r1 f0 f1
  have S3:=hide (S2.out.next ht1)
  have F3:=hide ((Kf.of_kp (c:=c) (vv:=vv) K2.out).trans (Kf.g4 (.int .i64 ((t:Int)+1))))
  have X3:=hide (X2.out.go (Kf.g4 (.int .i64 ((t:Int)+1))))
  have HN3:Hid (∀ g o,aV=some ⟨g,o,none⟩→Bs c vv (w2.setCell ⟨c.g,4,none⟩ (.int .i64 ((t:Int)+1))) g):=hide (fun g o e=>Bs.new H.out (HN.out g o e).1 (by have:=(HN.out g o e).2;have:=HK12.out.size;simp;omega))
  have HV3:Hid (VR (w2.setCell ⟨c.g,4,none⟩ (.int .i64 ((t:Int)+1))) (.slice aV V.length cV) V):=hide (HV.out.kpb (fun g o n cp k u hs hc=>by
   injection hs with hs _ _
   exact ((Kp.refl [c.g] w2).rb 4 _).some (HK12.out.some hc (by simp)) (by simpa using (HN3.out g o hs).n1)))
  obtain ⟨⟨q0,q1,q2,q3,q4,q5,q6,q7,q8⟩,r0,r1,f0,f1,-,-⟩:=X2.out
  obtain ⟨⟨p0,p1,p2,p3,p4,p5,p6,p7,p8⟩,u0,u1,v0,v1,-,-⟩:=X3.out
  have hgl3:=S3.out.lt
  obtain ⟨NX,hNX⟩: ∃ NX,NX=(if d=11∨d=12 then ns else ns++V):=⟨_,rfl⟩
  obtain ⟨hb1,hb3,hb5⟩:=Kn.bud3 hfw hbl
  have hb2:=Kn.bud2 hft
  have hb4:=Kn.bud4 hft
  have HFIN:=hide (fun W4 BX VX aX cX vX hs hf hv hvb htw htv hi he1 he2=>blk_one IH.out (W4:=W4) (NX:=NX) (BX:=BX) (VX:=VX) (aX:=aX) (cX:=cX) (vX:=vX) (V:=V) H.out HBd.out oB lB HQ.out hs hf hv hvb htw htv hi he1 he2 hb1 hb2)
  have HNI:Hid ((NX=ns∧Kn.Inv ⟨ns,bd,t⟩)∨(NX=ns++V)):=hide (by
   by_cases hd:d=11∨d=12
   ·rw [if_pos hd] at hNX;exact .inl ⟨hNX,HI.out⟩
   ·rw [if_neg hd] at hNX;exact .inr hNX)
  have HFI2:=hide (fun W5 s1 v5 hr hs hf=>blk_two IH.out (W5:=W5) (s1:=s1) (v5:=v5) (V:=V) HNI.out H.out HBd.out HEl.out oB oL lL HQ.out HIV.out hr hs hf hb3 hb4)
  have HRR:Hid (R=Kn.thn (Kn.sts (m+1) ab ⟨ns++V,bd++V,t+1⟩ body) fun s1=>Kn.thn (Kn.sts (m+1) ab ⟨NX,s1.bd,s1.at'⟩ els) fun s2=> .inl ⟨NX,s2.bd,s2.at'⟩):=hide (by
   by_cases hd:d=11∨d=12
   ·rw [if_pos hd] at hNX;rw [hNX];exact HOB.out hd
   ·rw [if_neg hd] at hNX;rw [hNX];exact HOA.out hd)
  generalize hR1:Kn.sts (m+1) ab ⟨ns++V,bd++V,t+1⟩ body=R1 at *
  have HR1:=hide hR1
  clear hR1 hfw hft
  by_cases hd:d=11∨d=12
  ·rw [if_pos hd] at hNX
   subst hNX
   have F4:=F3
   have X4:=X3
   have CF:=hide (HFIN.out _ bd V aV cV vv S3.out F3.out HV3.out (fun g o e=>⟨(HN3.out g o e).n1,(HN3.out g o e).n2,(HN3.out g o e).n3,(HN3.out g o e).n4,(HN3.out g o e).lt⟩) HTW.out HTV.out (Kn.Inv.at_any HI.out _) rfl rfl)
   clear HOA HOB
   rcases hd with rfl|rfl
   all_goals
    go_wp2_with fail
    refine CF.out.mono ?_
    intro e w5 hp5
    cases R1 with
    |inr f5=>
     obtain ⟨rfl,hf0,v5,z5,fk5,t5,h5,k5⟩:=hp5
     have HRf:Hid (R= .inr f5):=hide HRR.out
     have S5:=hide h5
     have F5:=hide (F4.out.trans k5)
     have X5:=hide (X4.out.go k5)
     obtain ⟨-,z0,z1,v0,v1,-,hbr⟩:=X5.out
     have qf:(f5.1 !=0)=true:=by simpa using hf0
     have hbl5:=hbr.lt
     have HBR:=hide hbr
     clear h5 k5 HFI2 HFIN HRR hbr
     go_wp2
     refine bodyPost_ret (v:= .agg #[.int .i64 f5.1,.int .i64 f5.2]) (by simp [results,Tryz.results73,go_sem,z0,z1,hbl5]) rfl ?_
     have KE:Kp [w.heap.size+1] w5 (((w5.setCell ⟨w.heap.size+1,0,none⟩ (.int .i64 f5.1)).setCell ⟨w.heap.size+1,1,none⟩ (.int .i64 f5.2)).alloc (.cells #[.int .i64 f5.1,.int .i64 f5.2] 31)):=(((Kp.refl [w.heap.size+1] w5).rb 0 _).rb 1 _).alloc _
     show StP c vv w bd R _ _
     rw [HRf.out]
     exact ⟨rfl,hf0,v5,z5,fk5,t5,by first|exact S5.out.keepB KE HBR.out z0|(rw [←List.append_assoc];exact S5.out.keepB KE HBR.out z0),F5.out.endN KE (Nat.le_succ _)⟩
    |inl s1=>
     obtain ⟨rfl,v5,h5,k5⟩:=hp5
     have S5:=hide h5
     have F5:=hide (F4.out.trans k5)
     have X5:=hide (X4.out.go k5)
     have KA:Hid (Kp [] w5 (w5.alloc (.cells #[.int .i64 0,.int .i64 0] 31))):=hide ((Kp.refl _ _).alloc _)
     have X5a:=hide (X5.out.kp KA.out)
     have CF2:=hide (HFI2.out (w5.alloc (.cells #[.int .i64 0,.int .i64 0] 31)) s1 v5 rfl (S5.out.kp KA.out) (F5.out.trans (Kf.of_kp KA.out)))
     have HRS:Hid (R=Kn.thn (Kn.sts (m+1) ab ⟨NX,s1.bd,s1.at'⟩ els) fun s2=> .inl ⟨NX,s2.bd,s2.at'⟩):=hide HRR.out
     obtain ⟨z,hz⟩: ∃ z,s1.bd=bd++z:=by
      obtain ⟨x,hx⟩:=(Kn.sts_go (m+1) ab _ body s1 HR1.out).bd
      exact ⟨V++x,by rw [hx];simp⟩
     have HZ:=hide hz
     obtain ⟨⟨y0,y1,y2,y3,y4,y5,y6,y7,y8⟩,z0,z1,v0,v1,-,-⟩:=X5.out
     obtain ⟨⟨j0,j1,j2,j3,j4,j5,j6,j7,j8⟩,j9,j10,j11,j12,-,-⟩:=X5a.out
     clear h5 k5 HFI2 HFIN HRR hz
     generalize Kn.sts (m+1) ab ⟨NX,s1.bd,s1.at'⟩ els=R2 at *
     go_wp2_with fail
     refine CF2.out.mono ?_
     intro e w6 hp6
     cases R2 with
     |inr f6=>
      obtain ⟨rfl,hf0,v6,z6,fk6,t6,h6,k6⟩:=hp6
      have HRf:Hid (R= .inr f6):=hide HRS.out
      have S6:=hide h6
      have F6:=hide ((F5.out.trans (Kf.of_kp KA.out)).trans k6)
      obtain ⟨-,x0,x1,g0,g1,-,hbr⟩:=X5a.out.go k6
      have HBR:=hide hbr
      have hbl6:=hbr.lt
      clear h6 k6 HRS hbr
      go_wp2
      refine bodyPost_ret (v:= .agg #[.int .i64 f6.1,.int .i64 f6.2]) (by simp [results,Tryz.results73,go_sem,x0,x1]) rfl ?_
      have KE:Kp [w.heap.size+1] w6 ((w6.setCell ⟨w.heap.size+1,0,none⟩ (.int .i64 f6.1)).setCell ⟨w.heap.size+1,1,none⟩ (.int .i64 f6.2)):=((Kp.refl [w.heap.size+1] w6).rb 0 _).rb 1 _
      show StP c vv w bd R _ _
      rw [HRf.out]
      exact ⟨rfl,hf0,v6,z++z6,fk6,t6,(by rw [←List.append_assoc,←HZ.out];exact S6.out.keepB KE HBR.out x0),F6.out.endN KE (Nat.le_succ _)⟩
     |inl s2=>
      obtain ⟨rfl,v6,h6,k6⟩:=hp6
      have HRf:Hid (R= .inl ⟨NX,s2.bd,s2.at'⟩):=hide HRS.out
      have S6:=hide h6
      have F6:=hide ((F5.out.trans (Kf.of_kp KA.out)).trans k6)
      obtain ⟨-,x0,x1,g0,g1,-,hbr⟩:=X5a.out.go k6
      have HBR:=hide hbr
      have hbl6:=hbr.lt
      clear h6 k6 HRS hbr
      go_wp2
      refine bodyPost_ret (v:= .agg #[.int .i64 0,.int .i64 0]) (by simp [results,Tryz.results73,go_sem,x0,x1]) rfl ?_
      have KE:Kp [w.heap.size+1] w6 ((w6.setCell ⟨w.heap.size+1,0,none⟩ (.int .i64 0)).setCell ⟨w.heap.size+1,1,none⟩ (.int .i64 0)):=((Kp.refl [w.heap.size+1] w6).rb 0 _).rb 1 _
      show StP c vv w bd R _ _
      rw [HRf.out]
      exact ⟨rfl,v6,S6.out.keepB KE HBR.out x0,F6.out.endN KE (Nat.le_succ _)⟩
  ·rw [if_neg hd] at hNX
   subst hNX
   have n11:(d !=11)=true:=by simpa using fun e=>hd (.inl e)
   have n12:(d !=12)=true:=by simpa using fun e=>hd (.inr e)
   have CBd:=hide (kBind_any c _ vv bd ns (t+1) V aV cV S3.out HV3.out (fun g o e=>⟨(HN3.out g o e).n1,(HN3.out g o e).n2,(HN3.out g o e).n3,(HN3.out g o e).n4,(HN3.out g o e).lt⟩) hb5 (fun v hv=>by have:=HTV.out v hv;exact ⟨Nat.le_trans this.2.2 (by decide),Nat.le_trans this.2.1 (by decide)⟩) HTW.out)
   clear HOA HOB hd
   go_wp2_with fail
   refine CBd.out.mono ?_
   rintro e w4 ⟨rfl,v4,h4,k4⟩
   have S4:=hide h4
   have F4:=hide (F3.out.trans k4)
   have X4:=hide (X3.out.go k4)
   have CF:=hide (HFIN.out w4 (bd++V) [] none 0 v4 h4 F4.out ⟨none,0,rfl,fun h=>absurd rfl h⟩ (fun g o e=>by cases e) rfl (fun v hv=>by cases hv) HIV.out (by simp) (by simp))
   obtain ⟨⟨y0,y1,y2,y3,y4,y5,y6,y7,y8⟩,z0,z1,-,-,-,-⟩:=X4.out
   clear h4 k4 CBd
   go_wp2_with fail
   refine CF.out.mono ?_
   intro e w5 hp5
   cases R1 with
   |inr f5=>
    obtain ⟨rfl,hf0,v5,z5,fk5,t5,h5,k5⟩:=hp5
    have HRf:Hid (R= .inr f5):=hide HRR.out
    have S5:=hide h5
    have F5:=hide (F4.out.trans k5)
    have X5:=hide (X4.out.go k5)
    obtain ⟨-,z0,z1,v0,v1,-,hbr⟩:=X5.out
    have qf:(f5.1 !=0)=true:=by simpa using hf0
    have hbl5:=hbr.lt
    have HBR:=hide hbr
    clear h5 k5 HFI2 HFIN HRR hbr
    go_wp2
    refine bodyPost_ret (v:= .agg #[.int .i64 f5.1,.int .i64 f5.2]) (by simp [results,Tryz.results73,go_sem,z0,z1,hbl5]) rfl ?_
    have KE:Kp [w.heap.size+1] w5 (((w5.setCell ⟨w.heap.size+1,0,none⟩ (.int .i64 f5.1)).setCell ⟨w.heap.size+1,1,none⟩ (.int .i64 f5.2)).alloc (.cells #[.int .i64 f5.1,.int .i64 f5.2] 31)):=(((Kp.refl [w.heap.size+1] w5).rb 0 _).rb 1 _).alloc _
    show StP c vv w bd R _ _
    rw [HRf.out]
    exact ⟨rfl,hf0,v5,V++z5,fk5,t5,by first|exact S5.out.keepB KE HBR.out z0|(rw [←List.append_assoc];exact S5.out.keepB KE HBR.out z0),F5.out.endN KE (Nat.le_succ _)⟩
   |inl s1=>
    obtain ⟨rfl,v5,h5,k5⟩:=hp5
    have S5:=hide h5
    have F5:=hide (F4.out.trans k5)
    have X5:=hide (X4.out.go k5)
    have KA:Hid (Kp [] w5 (w5.alloc (.cells #[.int .i64 0,.int .i64 0] 31))):=hide ((Kp.refl _ _).alloc _)
    have X5a:=hide (X5.out.kp KA.out)
    have CF2:=hide (HFI2.out (w5.alloc (.cells #[.int .i64 0,.int .i64 0] 31)) s1 v5 rfl (S5.out.kp KA.out) (F5.out.trans (Kf.of_kp KA.out)))
    have HRS:Hid (R=Kn.thn (Kn.sts (m+1) ab ⟨ns++V,s1.bd,s1.at'⟩ els) fun s2=> .inl ⟨ns++V,s2.bd,s2.at'⟩):=hide HRR.out
    obtain ⟨z,hz⟩: ∃ z,s1.bd=bd++z:=by
     obtain ⟨x,hx⟩:=(Kn.sts_go (m+1) ab _ body s1 HR1.out).bd
     exact ⟨V++x,by rw [hx];simp⟩
    have HZ:=hide hz
    obtain ⟨⟨y0,y1,y2,y3,y4,y5,y6,y7,y8⟩,z0,z1,v0,v1,-,-⟩:=X5.out
    obtain ⟨⟨j0,j1,j2,j3,j4,j5,j6,j7,j8⟩,j9,j10,j11,j12,-,-⟩:=X5a.out
    clear h5 k5 HFI2 HFIN HRR hz
    generalize Kn.sts (m+1) ab ⟨ns++V,s1.bd,s1.at'⟩ els=R2 at *
    go_wp2_with fail
    refine CF2.out.mono ?_
    intro e w6 hp6
    cases R2 with
    |inr f6=>
     obtain ⟨rfl,hf0,v6,z6,fk6,t6,h6,k6⟩:=hp6
     have HRf:Hid (R= .inr f6):=hide HRS.out
     have S6:=hide h6
     have F6:=hide ((F5.out.trans (Kf.of_kp KA.out)).trans k6)
     obtain ⟨-,x0,x1,g0,g1,-,hbr⟩:=X5a.out.go k6
     have HBR:=hide hbr
     have hbl6:=hbr.lt
     clear h6 k6 HRS hbr
     go_wp2
     refine bodyPost_ret (v:= .agg #[.int .i64 f6.1,.int .i64 f6.2]) (by simp [results,Tryz.results73,go_sem,x0,x1]) rfl ?_
     have KE:Kp [w.heap.size+1] w6 ((w6.setCell ⟨w.heap.size+1,0,none⟩ (.int .i64 f6.1)).setCell ⟨w.heap.size+1,1,none⟩ (.int .i64 f6.2)):=((Kp.refl [w.heap.size+1] w6).rb 0 _).rb 1 _
     show StP c vv w bd R _ _
     rw [HRf.out]
     exact ⟨rfl,hf0,v6,z++z6,fk6,t6,(by rw [←List.append_assoc,←HZ.out];exact S6.out.keepB KE HBR.out x0),F6.out.endN KE (Nat.le_succ _)⟩
    |inl s2=>
     obtain ⟨rfl,v6,h6,k6⟩:=hp6
     have HRf:Hid (R= .inl ⟨ns++V,s2.bd,s2.at'⟩):=hide HRS.out
     have S6:=hide h6
     have F6:=hide ((F5.out.trans (Kf.of_kp KA.out)).trans k6)
     obtain ⟨-,x0,x1,g0,g1,-,hbr⟩:=X5a.out.go k6
     have HBR:=hide hbr
     have hbl6:=hbr.lt
     clear h6 k6 HRS hbr
     go_wp2
     refine bodyPost_ret (v:= .agg #[.int .i64 0,.int .i64 0]) (by simp [results,Tryz.results73,go_sem,x0,x1]) rfl ?_
     have KE:Kp [w.heap.size+1] w6 ((w6.setCell ⟨w.heap.size+1,0,none⟩ (.int .i64 0)).setCell ⟨w.heap.size+1,1,none⟩ (.int .i64 0)):=((Kp.refl [w.heap.size+1] w6).rb 0 _).rb 1 _
     show StP c vv w bd R _ _
     rw [HRf.out]
     exact ⟨rfl,v6,S6.out.keepB KE HBR.out x0,F6.out.endN KE (Nat.le_succ _)⟩
 ·have hr:Kn.one (m+1) ab (Kn.sts (m+1) ab) ⟨ns,bd,t⟩ (Sx.tS d at' A B T N E body els)= .inr (Kn.sc (m+1) ab ns bd (Sx.tS d at' A B T N E body els),(t:Int)):=Kn.one_bad _ _ _ _ _ hsc
  rw [hr]
  generalize Kn.sc (m+1) ab ns bd (Sx.tS d at' A B T N E body els)=C at *
  have qC:(C !=0)=true:=by simpa using hsc
  go_enter Tryz.func73,Tryz.ntmps73
  go_wp2_with fail
  refine (CB.out _ (((Kp.refl _ _).alloc _).alloc _)).mono ?_
  rintro e w1 ⟨aV,cV,rfl,hnew,k1,hV⟩
  have K1:=hide ((((Kp.refl [] w).alloc _).alloc _).trans k1)
  have X1:=hide (X0.out.kp k1)
  obtain ⟨⟨q0,q1,q2,q3,q4,q5,q6,q7,q8⟩,r0,r1,f0,f1,-,-⟩:=X1.out
  have HV:=hide hV
  have HN:Hid (∀ g o,aV=some ⟨g,o,none⟩→w.heap.size≤g∧g<w1.heap.size):=hide (fun g o e=>⟨by have:=(hnew g o e).1;simp at this;omega,(hnew g o e).2⟩)
  clear k1 hV hnew
  go_wp2_with fail
  refine (CS.out _ K1.out aV cV HV.out).mono ?_
  rintro e w2 ⟨rfl,k2⟩
  have K2:=hide (K1.out.trans k2)
  have X2:=hide (X1.out.kp k2)
  have HK12:=hide k2
  have x4:=K2.out.some HC4.out (by simp)
  have S2:=hide (H.out.kp K2.out)
  have g4:=S2.out.fz 4
  have hg2:=S2.out.lt
  obtain ⟨-,s0,s1,g0,g1,-,hbr⟩:=X2.out
  clear k2 q0 q1 q2 q3 q4 q5 q6 q7 q8 r0 r1 f0 f1
  go_wp2
  refine bodyPost_ret (v:= .agg #[.int .i64 C,.int .i64 t]) (by simp [results,Tryz.results73,go_sem,s0,s1]) rfl ?_
  refine ⟨rfl,hsc,vv,[],Kn.fkn ns bd,t,?_,?_⟩
  ·rw [List.append_nil]
   exact H.out.kp ((K2.out.nb (by omega) _ _).nb (by omega) _ _)
  ·exact Kf.of_kp ((K2.out.nb (by omega) _ _).nb (by omega) _ _)
end Go.Proofs.YtcdcoiobpbdmpaaGreatDoor
