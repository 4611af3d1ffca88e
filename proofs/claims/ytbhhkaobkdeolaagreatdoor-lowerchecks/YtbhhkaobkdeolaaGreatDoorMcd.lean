import Derived.Test.YtbhhkaobkdeolaaGreatDoorMcc
import Derived.BigRegion
namespace Go.Proofs.YtbhhkaobkdeolaaGreatDoor
open Go.RowKit
theorem bset {w W:World} {b o:Nat} (h:Below w.heap.size w W) (hb:w.heap.size≤b) (v:Value):Below w.heap.size w (W.setCell ⟨b,o,none⟩ v):=((Kx.of_below (X:=fun _=>True) h).set (p:=⟨b,o,none⟩) (.inl hb) v).below
structure FBc (b:Nat) (w:World) (x y:Int):Prop where
 c0:w.cell? ⟨b,0,none⟩=some (.int .i64 x)
 c1:w.cell? ⟨b,1,none⟩=some (.int .i64 y)
 f0:w.frozen? ⟨b,0,none⟩=false
 f1:w.frozen? ⟨b,1,none⟩=false
theorem FBc.keep {b:Nat} {w w':World} {x y:Int} (h:FBc b w x y) (hb:Below w.heap.size w w'):FBc b w' x y:=
 ⟨bsome hb h.c0,bsome hb h.c1,(hb.frozen (p:=⟨b,0,none⟩) (World.block_lt_of_cell? _ _ h.c0)).trans h.f0,(hb.frozen (p:=⟨b,1,none⟩) (World.block_lt_of_cell? _ _ h.c1)).trans h.f1⟩
theorem FBc.new (w:World) (x y:Int) (t:TypeId):FBc w.heap.size (w.alloc (.cells #[.int .i64 x,.int .i64 y] t)) x y:=by
 constructor<;> simp [go_sem]
theorem Ck.bad_at {ab:List Cd.Pr} {p:Cd.Pr} {k:Nat} {x:Cd.In} {l:List Cd.In} (hx:l[k]? =some x):Ck.bad ab p k (l.drop k)=if Ck.ins ab p x then Ck.bad ab p (k+1) (l.drop (k+1)) else some k:=by
 have hlt:=(List.getElem?_eq_some_iff.1 hx).1
 rw [List.drop_eq_getElem_cons hlt]
 rw [List.getElem?_eq_getElem hlt,Option.some.injEq] at hx
 rw [hx]
 rfl
theorem Ck.last_at {p:Cd.Pr} {x:Cd.In} (hx:p.ins[p.ins.length - 1]? =some x):Ck.last p=x.op:=by
 unfold Ck.last
 rw [List.getLast?_eq_getElem?,hx]
 rfl
set_option maxRecDepth 100000 in
set_option maxHeartbeats 4000000 in
theorem ckFault_any (q:PV) (p:Cd.Pr) (ab:List Cd.Pr) (ua:Option Addr) (uc:Nat) (w:World) (h:PC q p w) (hu:CoR w (.slice ua ab.length uc) ab) (hA:AbOK ab) (hp:PrOK p) (hI: ∀ x ∈ p.ins,InOK x):
  Calls Tryz.prog 12 #[.agg (q.ck p ua ab.length uc)] w fun e w'=>e= .returned (.agg #[.int .i64 (Ck.fault ab p).1,.int .i64 (Ck.fault ab p).2])∧Below w.heap.size w w':=by
 have hb1:Below w.heap.size w (w.alloc (.cells (q.ck p ua ab.length uc) 50)):=(Below.refl _ _).alloc (Nat.le_refl _) _
 have hb2:=(Below.refl (w.alloc (.cells (q.ck p ua ab.length uc) 50)).heap.size (w.alloc (.cells (q.ck p ua ab.length uc) 50))).alloc (Nat.le_refl _) (.cells #[.int .i64 0,.int .i64 0] 28)
 have HB:=hide (btrans hb1 hb2)
 have hk:=(KB.new q p ua ab.length uc w).keep hb2
 have hf:=FBc.new (w.alloc (.cells (q.ck p ua ab.length uc) 50)) 0 0 28
 rw [show (w.alloc (.cells (q.ck p ua ab.length uc) 50)).heap.size=w.heap.size+1 by simp] at hf
 have HK:=hide hk
 have HF:=hide hf
 obtain ⟨t0,t1,t2,t3,t4,t5⟩:=hk
 have CR:=hide (ckFrame_any q p ua ab.length uc _ (h.keep (btrans hb1 hb2)) hp)
 have CX:Hid (∀ (x:Cd.In) (ae:Option Addr) (ce:Nat) (aa:Option Addr) (ca:Nat) (w':World),x ∈ p.ins→Below w.heap.size w w'→ER w' (.slice ae x.e.length ce) x.e→AgR w' (.slice aa x.args.length ca) x.args→Calls Tryz.prog 23 #[.agg (q.ck p ua ab.length uc),.agg (icl x ae ce aa ca)] w' fun e w''=>e= .returned (.bool (Ck.fits ab p x))∧Below w'.heap.size w' w''):=hide (fun x ae ce aa ca w' hx hb he ha=>ckFits_any q p ab ua uc x ae ce aa ca w' (h.keep hb) (hu.keep hb) he ha hA (hI x hx) hp.1)
 have CI:Hid (∀ (v:Int) (w':World),Calls Tryz.prog 22 #[.agg (q.ck p ua ab.length uc),.int .i64 v] w' fun e w''=>e= .returned (.bool (Ck.isB p v))∧Below w'.heap.size w' w''):=hide (fun v w'=>ckIsBlock_any q p ua ab.length uc v w')
 obtain ⟨ia,ic,e1,hi⟩:=h.ins
 obtain ⟨qa,qc,qb,qd,qi,qe⟩:=q
 obtain ⟨rfl,rfl⟩:qi=ia∧qe=ic:=by simpa using e1
 have HV:=hide hi
 have hn3:=hp.2.2.2
 have hsz: ¬ w.heap.size+1=w.heap.size:=by omega
 have HNE:Hid (Ck.frame p=0→p.ins ≠ []):=hide (by
  intro e e2
  unfold Ck.frame at e
  rw [if_pos e2] at e
  split at e
  ·cases e
  ·split at e<;> cases e)
 clear h hu hA hp hI hb1 hb2 hf e1 hi
 unfold PV.ck at *
 dsimp only at *
 by_cases g0:Ck.frame p=0
 ·have HE:Hid (Ck.fault ab p=match Ck.bad ab p 0 p.ins with
   |some i=>(16,(i:Int))
   |none=>if Ck.last p ≠ 17∧Ck.last p ≠ 15 then (16,(p.ins.length:Int)) else (0,0)):=hide (by unfold Ck.fault;rw [if_neg (by simpa using g0)];rfl)
  have hne:=HNE.out g0
  rw [g0] at CR
  have hpos:=List.length_pos_iff.2 hne
  obtain ⟨g,o,rfl,hc⟩:=HV.out hne
  have HC:=hide hc
  clear g0 hne HNE HV hc
  go_enter Tryz.func12,Tryz.ntmps12
  go_wp2_with fail
  refine CR.out.mono ?_
  rintro e w3 ⟨rfl,hb3⟩
  obtain ⟨r0,r1,r2,r3,r4,r5⟩:=HK.out.keep hb3
  have HB3:=hide (btrans HB.out hb3)
  have HK3:=hide (HK.out.keep hb3)
  have HF3:=hide (HF.out.keep hb3)
  clear hb3 HB HK HF CR t0 t1 t2 t3 t4 t5
  go_wp2
  go_loopw [17] (fun iv wr=> ∃ k:Nat,k≤p.ins.length∧iv= .int .i64 k∧Hid (Below w3.heap.size w3 wr∧Ck.bad ab p 0 p.ins=Ck.bad ab p k (p.ins.drop k))) (fun iv _=>p.ins.length - (intOf iv).toNat)
  case atStart=>exact ⟨0,Nat.zero_le _,rfl,hide ⟨Below.refl _ _,rfl⟩⟩
  case round=>
   obtain ⟨k,hk,rfl,HI⟩:=hrel
   by_cases hlt:k<p.ins.length
   ·obtain ⟨x,hx⟩: ∃ x,p.ins[k]? =some x:=⟨_,List.getElem?_eq_getElem hlt⟩
    obtain ⟨ae,ce,aa,ca,hic⟩:=HC.out _ x hx
    have hic:=hic.keep (btrans HB3.out HI.out.1)
    have HN:Hid (Ck.bad ab p 0 p.ins=if (Ck.isB p x.bk && Ck.isB p x.lp && Ck.fits ab p x) then Ck.bad ab p (k+1) (p.ins.drop (k+1)) else some k):=hide (by rw [HI.out.2,Ck.bad_at hx];rfl)
    have hba:=(Below.refl wr.heap.size wr).alloc (Nat.le_refl _) (.cells (icl x ae ce aa ca) 47)
    have HIX:=hide (IC.new 47 hic.e hic.args)
    have HBA:=hide (btrans HI.out.1 hba)
    have C3:=hide (CX.out x ae ce aa ca)
    have hmem:=List.mem_of_getElem? hx
    have HFa:Hid (∀ b,Ck.bad ab p 0 p.ins=some b→Ck.fault ab p=(16,(b:Int))):=hide (fun b hb=>by rw [HE.out,hb])
    obtain ⟨r0,r1,r2,r3,r4,r5⟩:=HK3.out.keep HBA.out
    obtain ⟨y0,y1,y2,y3,y4,y5,y6,y7,y8,y9,y10,-,-⟩:=hic
    obtain ⟨x0,x1,x2,x3,x4,x5,x6,x7,x8,x9,x10,-,-⟩:=HIX.out
    have CB1:=hide (CI.out x.bk)
    have CB2:=hide (CI.out x.lp)
    have C3:=hide (fun w' (hb:Below (wr.alloc (.cells (icl x ae ce aa ca) 47)).heap.size (wr.alloc (.cells (icl x ae ce aa ca) 47)) w')=>C3.out w' hmem (btrans HB3.out (btrans HBA.out hb)) (HIX.out.keep hb).e (HIX.out.keep hb).args)
    generalize Ck.isB p x.bk=B1 at *
    generalize Ck.isB p x.lp=B2 at *
    generalize Ck.fits ab p x=B3 at *
    clear hx HI hba hmem CX CI HE
    obtain ⟨op,xa,xb,xn,xto,xt,xe,xg,xbk,xlp,xat⟩:=x
    dsimp only at *
    unfold icl at *
    cases B1 with
    |false=>
     have HE3:Hid (Ck.fault ab p=(16,(k:Int))):=hide (HFa.out k HN.out)
     go_wp2_with fail
     refine (CB1.out _).mono ?_
     rintro e w4 ⟨rfl,hb4⟩
     obtain ⟨s0,s1,z0,z1⟩:=HF3.out.keep (btrans HBA.out hb4)
     have HB6:=hide (btrans HB3.out (btrans HBA.out hb4))
     clear hb4
     go_wp2
     refine bodyPost_ret (v:= .agg #[.int .i64 16,.int .i64 (k:Int)]) (by simp [results,Tryz.results12,go_sem,s0,s1]) rfl ⟨by rw [HE3.out],bset (bset HB6.out (Nat.le_succ _) _) (Nat.le_succ _) _⟩
    |true=>
     go_wp2_with fail
     refine (CB1.out _).mono ?_
     rintro e w4 ⟨rfl,hb4⟩
     obtain ⟨r0,r1,r2,r3,r4,r5⟩:=HK3.out.keep (btrans HBA.out hb4)
     obtain ⟨x0,x1,x2,x3,x4,x5,x6,x7,x8,x9,x10,-,-⟩:=HIX.out.keep hb4
     have KC4:=hide hb4
     clear hb4
     cases B2 with
     |false=>
      have HE3:Hid (Ck.fault ab p=(16,(k:Int))):=hide (HFa.out k HN.out)
      go_wp2_with fail
      refine (CB2.out _).mono ?_
      rintro e w5 ⟨rfl,hb5⟩
      have kc:=btrans KC4.out hb5
      obtain ⟨s0,s1,z0,z1⟩:=HF3.out.keep (btrans HBA.out kc)
      have HB6:=hide (btrans HB3.out (btrans HBA.out kc))
      clear hb5 kc
      go_wp2
      refine bodyPost_ret (v:= .agg #[.int .i64 16,.int .i64 (k:Int)]) (by simp [results,Tryz.results12,go_sem,s0,s1]) rfl ⟨by rw [HE3.out],bset (bset HB6.out (Nat.le_succ _) _) (Nat.le_succ _) _⟩
     |true=>
      go_wp2_with fail
      refine (CB2.out _).mono ?_
      rintro e w5 ⟨rfl,hb5⟩
      have kc:=btrans KC4.out hb5
      obtain ⟨r0,r1,r2,r3,r4,r5⟩:=HK3.out.keep (btrans HBA.out kc)
      obtain ⟨x0,x1,x2,x3,x4,x5,x6,x7,x8,x9,x10,-,-⟩:=HIX.out.keep kc
      have KC5:=hide kc
      clear hb5 kc
      cases B3 with
      |false=>
       have HE3:Hid (Ck.fault ab p=(16,(k:Int))):=hide (HFa.out k HN.out)
       go_wp2_with fail
       refine (C3.out _ KC5.out).mono ?_
       rintro e w6 ⟨rfl,hb6⟩
       have kc:=btrans KC5.out hb6
       obtain ⟨s0,s1,z0,z1⟩:=HF3.out.keep (btrans HBA.out kc)
       have HB6:=hide (btrans HB3.out (btrans HBA.out kc))
       clear hb6 kc
       go_wp2
       refine bodyPost_ret (v:= .agg #[.int .i64 16,.int .i64 (k:Int)]) (by simp [results,Tryz.results12,go_sem,s0,s1]) rfl ⟨by rw [HE3.out],bset (bset HB6.out (Nat.le_succ _) _) (Nat.le_succ _) _⟩
      |true=>
       go_wp2_with fail
       refine (C3.out _ KC5.out).mono ?_
       rintro e w6 ⟨rfl,hb6⟩
       have HB6:=hide (btrans HBA.out (btrans KC5.out hb6))
       clear hb6
       go_wp2
       go_roundw
       case rel=>exact ⟨k+1,by omega,by go_num,hide ⟨HB6.out,HN.out⟩⟩
       case measure=>simp [intOf];omega
   ·obtain rfl:k=p.ins.length:=by omega
    obtain ⟨r0,r1,r2,r3,r4,r5⟩:=HK3.out.keep HI.out.1
    obtain ⟨x,hx⟩: ∃ x,p.ins[p.ins.length - 1]? =some x:=⟨_,List.getElem?_eq_getElem (by omega)⟩
    obtain ⟨ae,ce,aa,ca,hic⟩:=HC.out _ x hx
    have hic:=hic.keep (btrans HB3.out HI.out.1)
    have x0:=hic.c0
    have HE2:Hid (Ck.fault ab p=if x.op ≠ 17∧x.op ≠ 15 then (16,(p.ins.length:Int)) else (0,0)):=hide (by
     rw [HE.out,HI.out.2,List.drop_length,←Ck.last_at hx]
     rfl)
    obtain ⟨s0,s1,z0,z1⟩:=HF3.out.keep HI.out.1
    have HB4:=hide (btrans HB3.out HI.out.1)
    have hls:p.ins.length - 1<p.ins.length:=by omega
    have hlc:((p.ins.length:Int) - 1)=((p.ins.length - 1:Nat):Int):=by omega
    generalize x.op=op at *
    generalize hL:p.ins.length - 1=LL at *
    clear hx hic HI hL
    by_cases g7:op=17
    ·subst g7
     have HE3:Hid (Ck.fault ab p=(0,0)):=hide (by rw [HE2.out];rfl)
     go_wp2
     refine bodyPost_ret (v:= .agg #[.int .i64 0,.int .i64 0]) (by simp [results,Tryz.results12,go_sem,s0,s1]) rfl ⟨by rw [HE3.out],bset (bset HB4.out (Nat.le_succ _) _) (Nat.le_succ _) _⟩
    ·have f7:(op == 17)=false:=by simpa using g7
     have n7:(op !=17)=true:=by simpa using g7
     by_cases g5:op=15
     ·subst g5
      have HE3:Hid (Ck.fault ab p=(0,0)):=hide (by rw [HE2.out];rfl)
      go_wp2
      refine bodyPost_ret (v:= .agg #[.int .i64 0,.int .i64 0]) (by simp [results,Tryz.results12,go_sem,s0,s1]) rfl ⟨by rw [HE3.out],bset (bset HB4.out (Nat.le_succ _) _) (Nat.le_succ _) _⟩
     ·have n5:(op !=15)=true:=by simpa using g5
      have HE3:Hid (Ck.fault ab p=(16,(p.ins.length:Int))):=hide (by rw [HE2.out,if_pos ⟨g7,g5⟩])
      clear g7 g5 HE2
      go_wp2
      refine bodyPost_ret (v:= .agg #[.int .i64 16,.int .i64 (p.ins.length:Int)]) (by simp [results,Tryz.results12,go_sem,s0,s1]) rfl ⟨by rw [HE3.out],bset (bset HB4.out (Nat.le_succ _) _) (Nat.le_succ _) _⟩
 ·have HE:Hid (Ck.fault ab p=(Ck.frame p,-1)):=hide (by unfold Ck.fault;rw [if_pos g0])
  have d0:(Ck.frame p !=0)=true:=by simpa using g0
  generalize Ck.frame p=FR at *
  clear g0 HNE
  go_enter Tryz.func12,Tryz.ntmps12
  go_wp2_with fail
  refine CR.out.mono ?_
  rintro e w3 ⟨rfl,hb3⟩
  obtain ⟨s0,s1,z0,z1⟩:=HF.out.keep hb3
  have HB3:=hide (btrans HB.out hb3)
  clear hb3 t0 t1 t2 t3 t4 t5
  go_wp2
  refine bodyPost_ret (v:= .agg #[.int .i64 FR,.int .i64 (-1)]) (by simp [results,Tryz.results12,go_sem,s0,s1]) rfl ⟨by rw [HE.out],bset (bset HB3.out (Nat.le_succ _) _) (Nat.le_succ _) _⟩
def Ck.begins (p:Cd.Pr):Bool:=(p.params == 1) && Ck.eqT ((p.vars[0]?.map (·.2)).getD ⟨#[]⟩) ⟨#[114,105]⟩
set_option maxRecDepth 100000 in
set_option maxHeartbeats 2000000 in
theorem ckBegins_any (q:PV) (p:Cd.Pr) (w:World) (h:PC q p w) (hv:p.params=1→p.vars ≠ []):
  Calls Tryz.prog 13 #[.agg (q.cells p)] w fun e w'=>e= .returned (.bool (Ck.begins p))∧Below w.heap.size w w':=by
 have hb1:Below w.heap.size w (w.alloc (.cells (q.cells p) 43)):=(Below.refl _ _).alloc (Nat.le_refl _) _
 have HB:=hide hb1
 have HE:Hid (Ck.begins p=((p.params == 1) && Ck.eqT ((p.vars[0]?.map (·.2)).getD ⟨#[]⟩) ⟨#[114,105]⟩)):=hide rfl
 obtain ⟨va,vc,e1,hr⟩:=(h.keep hb1).vars
 obtain ⟨qa,qc,qb,qd,qi,qe⟩:=q
 obtain ⟨rfl,rfl⟩:qa=va∧qc=vc:=by simpa using e1
 generalize Ck.begins p=R at *
 by_cases g:p.params=1
 ·obtain ⟨⟨vn,vt⟩,hx⟩: ∃ x,p.vars[0]? =some x:=⟨_,List.getElem?_eq_getElem (List.length_pos_iff.2 (hv g))⟩
  obtain ⟨g1,o1,rfl,hc⟩:=hr (hv g)
  have c2:=(hc 0 _ hx).2
  rw [Nat.zero_mul,Nat.add_zero] at c2
  have hl:0<p.vars.length:=List.length_pos_iff.2 (hv g)
  have HE2:Hid (R=(vt.toList == [114,105])):=hide (by rw [HE.out,g,hx,←show _=(vt.toList == [114,105]) from Ck.eqT_lit vt #[114,105]];rfl)
  clear HE hv h hb1 e1 hr hc hx
  unfold PV.cells at *
  dsimp only at *
  rw [g] at *
  clear g
  go_enter Tryz.func13,Tryz.ntmps13
  go_wp2
  go_ret
  exact ⟨by rw [HE2.out];rfl,HB.out⟩
 ·have d1:(p.params == 1)=false:=by simpa using g
  have HE2:Hid (R=false):=hide (by rw [HE.out,d1];rfl)
  clear HE hv h hb1 e1 hr g
  unfold PV.cells at *
  dsimp only at *
  go_enter Tryz.func13,Tryz.ntmps13
  go_wp2
  go_ret
  exact ⟨by rw [HE2.out];rfl,HB.out⟩
def CoOK (l:List Cd.Pr):Prop:= ∀ p ∈ l,PrOK p∧ ∀ x ∈ p.ins,InOK x
theorem Ck.first_at {l ab:List Cd.Pr} {p:Cd.Pr} {k:Nat} (hx:l[k]? =some p) (hk:ab=l.take k):Ck.first ab (l.drop k)=if (Ck.fault ab p).1 ≠ 0 then some ((Ck.fault ab p).1,(Ck.fault ab p).2+(k:Int) * 10000) else Ck.first (l.take (k+1)) (l.drop (k+1)):=by
 have hlt:=(List.getElem?_eq_some_iff.1 hx).1
 have hl:ab.length=k:=by rw [hk,List.length_take];omega
 rw [List.drop_eq_getElem_cons hlt]
 have e:l[k]=p:=by
  rw [List.getElem?_eq_getElem hlt,Option.some.injEq] at hx
  exact hx
 rw [e]
 have e2:ab++[p]=l.take (k+1):=by rw [hk,←e,List.take_append_getElem]
 show (if (Ck.fault ab p).1 ≠ 0 then some ((Ck.fault ab p).1,(Ck.fault ab p).2+(ab.length:Int) * 10000) else Ck.first (ab++[p]) (l.drop (k+1)))=_
 rw [hl,e2]
theorem b_two (w:World) (o1 o2:Obj):Below w.heap.size w ((w.alloc o1).alloc o2):=((Below.refl _ _).alloc (Nat.le_refl _) _).alloc (by simp) _
theorem Ck.params_of {ab:List Cd.Pr} {p:Cd.Pr} (h:(Ck.fault ab p).1=0):p.params≤(p.vars.length:Int)∧Ck.frame p=0:=by
 have h0:Ck.frame p=0:=by
  by_cases e:Ck.frame p=0
  ·exact e
  ·unfold Ck.fault at h
   rw [if_pos e] at h
   exact h
 refine ⟨?_,h0⟩
 unfold Ck.frame at h0
 split at h0
 ·cases h0
 ·split at h0
  ·cases h0
  ·omega
theorem Ck.bad_le {ab:List Cd.Pr} {p:Cd.Pr}: ∀ {l:List Cd.In} {k i:Nat},Ck.bad ab p k l=some i→i≤k+l.length
 |[],_,_,h=>by cases h
 |x::r,k,i,h=>by
  unfold Ck.bad at h
  split at h
  ·have:=Ck.bad_le h
   rw [List.length_cons]
   omega
  ·cases h
   omega
theorem Ck.fault_le (ab:List Cd.Pr) (p:Cd.Pr) (h:p.ins.length≤1000000): -1≤(Ck.fault ab p).2∧(Ck.fault ab p).2≤1000000:=by
 unfold Ck.fault
 split
 ·exact ⟨by simp,by simp⟩
 ·split
  ·rename_i i hi
   have:=Ck.bad_le hi
   exact ⟨by dsimp only;omega,by dsimp only;omega⟩
  ·split
   ·exact ⟨by dsimp only;omega,by dsimp only;omega⟩
   ·exact ⟨by simp,by simp⟩
theorem FBc.put {b:Nat} {w:World} {x y:Int} (h:FBc b w x y) (x' y':Int):FBc b ((w.setCell ⟨b,0,none⟩ (.int .i64 x')).setCell ⟨b,1,none⟩ (.int .i64 y')) x' y':=by
 obtain ⟨c0,c1,f0,f1⟩:=h
 constructor<;> simp [go_sem,c0,c1,f0,f1]
set_option maxRecDepth 100000 in
set_option maxHeartbeats 4000000 in
theorem ckCheck_any (l:List Cd.Pr) (m:Int) (ua:Option Addr) (uc:Nat) (w:World) (hu:CoR w (.slice ua l.length uc) l) (hO:CoOK l) (hcap:l.length≤uc+1):
  Calls Tryz.prog 6 #[.agg #[.slice ua l.length uc,.int .i64 m]] w fun e w'=>e= .returned (.agg #[.int .i64 (Ck.check l m).1,.int .i64 (Ck.check l m).2])∧Below w.heap.size w w':=by
 have hb1:Below w.heap.size w (w.alloc (.cells #[.slice ua l.length uc,.int .i64 m] 24)):=(Below.refl _ _).alloc (Nat.le_refl _) _
 have hb2:=(Below.refl (w.alloc (.cells #[.slice ua l.length uc,.int .i64 m] 24)).heap.size (w.alloc (.cells #[.slice ua l.length uc,.int .i64 m] 24))).alloc (Nat.le_refl _) (.cells #[.int .i64 0,.int .i64 0] 28)
 have HB:=hide (btrans hb1 hb2)
 have hf:=FBc.new (w.alloc (.cells #[.slice ua l.length uc,.int .i64 m] 24)) 0 0 28
 rw [show (w.alloc (.cells #[.slice ua l.length uc,.int .i64 m] 24)).heap.size=w.heap.size+1 by simp] at hf
 have c0:=bsome hb2 (agg_two w (.slice ua l.length uc) (.int .i64 m) 24).1
 have c1:=bsome hb2 (agg_two w (.slice ua l.length uc) (.int .i64 m) 24).2
 have HF:=hide hf
 obtain ⟨s0,s1,z0,z1⟩:=hf
 have HU:=hide hu
 have hsz: ¬ w.heap.size+1=w.heap.size:=by omega
 clear hb1 hb2
 by_cases g0:l=[]
 ·have HE:Hid (Ck.check l m=(10,-1)):=hide (by unfold Ck.check;rw [if_pos g0])
  have d0:((l.length:Int) == 0)=true:=by rw [g0];rfl
  clear hu hO
  subst g0
  go_enter Tryz.func6,Tryz.ntmps6
  go_wp2
  refine bodyPost_ret (v:= .agg #[.int .i64 10,.int .i64 (-1)]) (by simp [results,Tryz.results6,go_sem]) rfl ⟨by rw [HE.out],b_two _ _ _⟩
 have hpos:=List.length_pos_iff.2 g0
 have d0:((l.length:Int) == 0)=false:=by simp;omega
 have d0n:(l.length == 0)=false:=by simp;omega
 by_cases g1:10<l.length
 ·have HE:Hid (Ck.check l m=(8,-1)):=hide (by unfold Ck.check;rw [if_neg g0,if_pos g1])
  have d1:decide ((10:Int)<(l.length:Int))=true:=by simp;omega
  clear hu hO g0 g1
  go_enter Tryz.func6,Tryz.ntmps6
  go_wp2
  refine bodyPost_ret (v:= .agg #[.int .i64 8,.int .i64 (-1)]) (by simp [results,Tryz.results6,go_sem]) rfl ⟨by rw [HE.out],b_two _ _ _⟩
 have hl10:l.length≤10:=by omega
 have d1:decide ((10:Int)<(l.length:Int))=false:=by simp;omega
 have HE:Hid (Ck.check l m=match Ck.first [] l with
  |some f=>f
  |none=>if Ck.mainOK l m then (0,0) else (13,-1)):=hide (by unfold Ck.check;rw [if_neg g0,if_neg g1];rfl)
 obtain ⟨ua',uc',e1,hr⟩:=hu
 obtain ⟨rfl,rfl⟩:ua=ua'∧uc=uc':=by simpa using e1
 obtain ⟨g,o,rfl,hc⟩:=hr g0
 have HC:=hide hc
 have HO:=hide hO
 clear e1 hr hc g0 g1 hO
 go_enter Tryz.func6,Tryz.ntmps6
 go_wp2
 generalize World.alloc (World.alloc _ _) _=w1 at *
 go_loopw [21] (fun iv wr=> ∃ k:Nat,k≤l.length∧iv= .int .i64 k∧Hid (Below w1.heap.size w1 wr∧Ck.first [] l=Ck.first (l.take k) (l.drop k)∧ ∀ st ∈ l.take k,st.params≤(st.vars.length:Int)∧Ck.frame st=0)) (fun iv _=>l.length - (intOf iv).toNat)
 case atStart=>exact ⟨0,Nat.zero_le _,rfl,hide ⟨Below.refl _ _,rfl,by simp⟩⟩
 case round=>
  obtain ⟨k,hk,rfl,HI⟩:=hrel
  by_cases hlt:k<l.length
  ·obtain ⟨p,hx⟩: ∃ p,l[k]? =some p:=⟨_,List.getElem?_eq_getElem hlt⟩
   obtain ⟨q,hq,hpc⟩:=HC.out k p hx
   have hbw:=btrans HB.out HI.out.1
   have y0:wr.cell? ⟨g,o+k * 5,none⟩=some (.string p.name):=bsome hbw (hq 0 _ rfl)
   have y1:=bsome hbw (hq 1 _ rfl)
   have y2:=bsome hbw (hq 2 _ rfl)
   have y3:=bsome hbw (hq 3 _ rfl)
   have y4:=bsome hbw (hq 4 _ rfl)
   have HOp:=HO.out p (List.mem_of_getElem? hx)
   have c0':=bsome HI.out.1 c0
   have hcl:(l.take k).length=k:=by rw [List.length_take];omega
   have HUk:Hid (∀ w',Below w.heap.size w w'→CoR w' (.slice (some ⟨g,o,none⟩) (l.take k).length uc) (l.take k)):=hide (fun w' hb=>⟨_,_,rfl,fun _=>⟨g,o,rfl,fun j st hj=>by
    have hjk:j<k:=by
     have:=(List.getElem?_eq_some_iff.1 hj).1
     omega
    rw [List.getElem?_take,if_pos hjk] at hj
    obtain ⟨q,h1,h2⟩:=HC.out j st hj
    exact ⟨q,fun i u hu=>bsome hb (h1 i u hu),h2.keep hb⟩⟩⟩)
   have CF:Hid (∀ w',Below w.heap.size w w'→Calls Tryz.prog 12 #[.agg (q.ck p (some ⟨g,o,none⟩) k uc)] w' fun e w''=>e= .returned (.agg #[.int .i64 (Ck.fault (l.take k) p).1,.int .i64 (Ck.fault (l.take k) p).2])∧Below w'.heap.size w' w''):=hide (fun w' hb=>by
    have:=ckFault_any q p (l.take k) (some ⟨g,o,none⟩) uc w' (hpc.keep hb) (HUk.out w' hb) (fun st hs=>(HI.out.2.2 st hs).1) HOp.1 HOp.2
    rwa [hcl] at this)
   have HN:Hid (Ck.first [] l=if (Ck.fault (l.take k) p).1 ≠ 0 then some ((Ck.fault (l.take k) p).1,(Ck.fault (l.take k) p).2+(k:Int) * 10000) else Ck.first (l.take (k+1)) (l.drop (k+1))):=hide (by rw [HI.out.2.1,Ck.first_at hx rfl])
   have HM:Hid ((Ck.fault (l.take k) p).1=0→ ∀ st ∈ l.take (k+1),st.params≤(st.vars.length:Int)∧Ck.frame st=0):=hide (fun h0 st hs=>by
    rw [←List.take_append_getElem hlt,List.mem_append,List.mem_singleton] at hs
    rcases hs with hs|hs
    ·exact HI.out.2.2 st hs
    ·rw [List.getElem?_eq_getElem hlt,Option.some.injEq] at hx
     rw [hs,hx]
     exact Ck.params_of h0)
   have hba:=(Below.refl wr.heap.size wr).alloc (Nat.le_refl _) (.cells (q.cells p) 43)
   have c0:=bsome hba c0'
   have HBA:=hide (btrans HI.out.1 hba)
   obtain ⟨p0,p1,p2,p3,p4⟩:(wr.alloc (.cells (q.cells p) 43)).cell? ⟨wr.heap.size,0,none⟩=some (.string p.name)∧(wr.alloc (.cells (q.cells p) 43)).cell? ⟨wr.heap.size,1,none⟩=some (.slice q.av p.vars.length q.cv)∧(wr.alloc (.cells (q.cells p) 43)).cell? ⟨wr.heap.size,2,none⟩=some (.int .i64 p.params)∧(wr.alloc (.cells (q.cells p) 43)).cell? ⟨wr.heap.size,3,none⟩=some (.slice q.ab p.blocks.length q.cb)∧(wr.alloc (.cells (q.cells p) 43)).cell? ⟨wr.heap.size,4,none⟩=some (.slice q.ai p.ins.length q.ci):=
    ⟨cells_at wr q p 43 0 _ rfl,cells_at wr q p 43 1 _ rfl,cells_at wr q p 43 2 _ rfl,cells_at wr q p 43 3 _ rfl,cells_at wr q p 43 4 _ rfl⟩
   have hku:k≤uc:=by omega
   have hfl:=Ck.fault_le (l.take k) p HOp.1.2.2.2
   generalize Ck.fault (l.take k) p=FA at *
   obtain ⟨fc,fa⟩:=FA
   dsimp only at *
   clear hx hq hpc hbw HI HOp hcl HUk hba c0'
   unfold PV.cells PV.ck at *
   go_wp2
   generalize wr.alloc _=wa at *
   generalize wr.heap.size=bw at *
   have KA1:Hid (Below wa.heap.size wa wa.drew):=hide (below_drewN (Below.refl _ _) 1)
   have KA2:Hid (Below wa.heap.size wa (wa.drew.alloc (.cells #[.int .i64 0,.int .i64 0] 28))):=hide (btrans KA1.out ((Below.refl _ _).alloc (Nat.le_refl _) _))
   have KB:Hid (Below w.heap.size w wa):=hide (btrans HB.out HBA.out)
   have hl1:=World.block_lt_of_cell? _ _ p0
   have hl2:=World.block_lt_of_cell? _ _ c0
   dsimp only at hl1 hl2
   have HFN:Hid (∀ w5,Below (wa.drew.alloc (.cells #[.int .i64 0,.int .i64 0] 28)).heap.size (wa.drew.alloc (.cells #[.int .i64 0,.int .i64 0] 28)) w5→FBc wa.heap.size w5 0 0):=hide (fun w5 hb=>(FBc.new wa.drew 0 0 28).keep hb)
   have n1: ¬ wa.heap.size=bw:=by omega
   have n2: ¬ bw=wa.heap.size:=by omega
   have n3: ¬ wa.heap.size=w.heap.size:=by omega
   have n4: ¬ w.heap.size=wa.heap.size:=by omega
   go_region_held_law (fun w'=>w'.cell? ⟨bw,0,none⟩=some (.string p.name)∧w'.cell? ⟨bw,1,none⟩=some (.slice q.av p.vars.length q.cv)∧w'.cell? ⟨bw,2,none⟩=some (.int .i64 p.params)∧w'.cell? ⟨bw,3,none⟩=some (.slice q.ab p.blocks.length q.cb)∧w'.cell? ⟨bw,4,none⟩=some (.slice q.ai p.ins.length q.ci)∧w'.cell? ⟨w.heap.size,0,none⟩=some (.slice (some ⟨g,o,none⟩) l.length uc)) (first|exact ⟨by assumption,by assumption,by assumption,by assumption,by assumption,by assumption⟩|go_keep) ((go_at_call 12;(first|refine (CF.out _ (by exact btrans KB.out KA1.out)).mono ?_|refine (CF.out _ (by exact btrans KB.out KA2.out)).mono ?_);rintro e w5 ⟨rfl,hb5⟩;(first|have kc:=btrans KA1.out hb5|have kc:=btrans KA2.out hb5);(try (have hq:=HFN.out w5 hb5;have qb0:=hq.c0;have qb1:=hq.c1;have qb2:=hq.f0;have qb3:=hq.f1;have HQ:=hide hq;clear hq));have r0:=bsome kc p0;have r1:=bsome kc p1;have r2:=bsome kc p2;have r3:=bsome kc p3;have r4:=bsome kc p4;have r5:=bsome kc c0;have KC:=hide kc;clear kc hb5))
   ·have FBW:=hide (FBc.new w5 fc fa 28)
    have KW:=hide (btrans KC.out ((Below.refl _ _).alloc (Nat.le_refl _) (.cells #[.int .i64 fc,.int .i64 fa] 28)))
    have hbl:w.heap.size≤w5.heap.size:=(btrans KB.out KC.out).size
    have hbs: ¬ w5.heap.size=w.heap.size+1:=by
     have h1:=World.block_lt_of_cell? _ _ HF.out.c0
     have h2:=(btrans HBA.out KC.out).size
     dsimp only at h1
     omega
    have hbs': ¬ w.heap.size+1=w5.heap.size:=fun e=>hbs e.symm
    clear KC r0 r1 r2 r3 r4 r5
    generalize w5.alloc _=W6 at *
    generalize w5.heap.size=bb at *
    obtain ⟨a0,a1,a2,a3⟩:=FBW.out
    obtain ⟨s0,s1,z0,z1⟩:=HF.out.keep (btrans HBA.out KW.out)
    have HB6:=hide (btrans KB.out KW.out)
    by_cases e0:fc=0
    ·subst e0
     go_wp2
     go_roundw
     case rel=>exact ⟨k+1,by omega,by go_num,hide ⟨btrans HBA.out KW.out,by rw [HN.out];rfl,HM.out rfl⟩⟩
     case measure=>simp [intOf];omega
    ·have f0:(fc !=0)=true:=by simpa using e0
     have f1:(fc == 0)=false:=by simpa using e0
     have HE3:Hid (Ck.check l m=(fc,fa+(k:Int) * 10000)):=hide (by rw [HE.out,HN.out,if_pos e0])
     clear e0
     go_wp2
     refine bodyPost_ret (v:= .agg #[.int .i64 fc,.int .i64 (fa+(k:Int) * 10000)]) (by simp [results,Tryz.results6,go_sem,s0,s1]) rfl ⟨by rw [HE3.out],bset (bset (bset HB6.out hbl _) (Nat.le_succ _) _) (Nat.le_succ _) _⟩
   ·have FBW:=hide (HQ.out.put fc fa)
    have KW:=hide (bset (bset KC.out (Nat.le_refl _) (o:=0) (.int .i64 fc)) (Nat.le_refl _) (o:=1) (.int .i64 fa))
    have hbl:w.heap.size≤wa.heap.size:=KB.out.size
    have hbs: ¬ wa.heap.size=w.heap.size+1:=by
     have h1:=World.block_lt_of_cell? _ _ HF.out.c0
     have h2:=HBA.out.size
     dsimp only at h1
     omega
    have hbs': ¬ w.heap.size+1=wa.heap.size:=fun e=>hbs e.symm
    clear KC r0 r1 r2 r3 r4 r5 qb0 qb1 qb2 qb3 HQ
    generalize World.setCell (World.setCell _ _ _) _ _=W6 at *
    obtain ⟨a0,a1,a2,a3⟩:=FBW.out
    obtain ⟨s0,s1,z0,z1⟩:=HF.out.keep (btrans HBA.out KW.out)
    have HB6:=hide (btrans KB.out KW.out)
    by_cases e0:fc=0
    ·subst e0
     go_wp2
     go_roundw
     case rel=>exact ⟨k+1,by omega,by go_num,hide ⟨btrans HBA.out KW.out,by rw [HN.out];rfl,HM.out rfl⟩⟩
     case measure=>simp [intOf];omega
    ·have f0:(fc !=0)=true:=by simpa using e0
     have f1:(fc == 0)=false:=by simpa using e0
     have HE3:Hid (Ck.check l m=(fc,fa+(k:Int) * 10000)):=hide (by rw [HE.out,HN.out,if_pos e0])
     clear e0
     go_wp2
     refine bodyPost_ret (v:= .agg #[.int .i64 fc,.int .i64 (fa+(k:Int) * 10000)]) (by simp [results,Tryz.results6,go_sem,s0,s1]) rfl ⟨by rw [HE3.out],bset (bset (bset HB6.out hbl _) (Nat.le_succ _) _) (Nat.le_succ _) _⟩
  ·obtain rfl:k=l.length:=by omega
   have HE2:Hid (Ck.check l m=if Ck.mainOK l m then (0,0) else (13,-1)):=hide (by
    rw [HE.out,HI.out.2.1,List.drop_length]
    rfl)
   have HP:Hid (∀ st ∈ l,st.params≤(st.vars.length:Int)):=hide (fun st hs=>(HI.out.2.2 st (by rw [List.take_length];exact hs)).1)
   have c0:=bsome HI.out.1 c0
   have c1:=bsome HI.out.1 c1
   obtain ⟨s0,s1,z0,z1⟩:=HF.out.keep HI.out.1
   have HB6:=hide (btrans HB.out HI.out.1)
   have HBI:=hide HI.out.1
   clear HI
   by_cases g2:0≤m
   ·have d2:decide (m<0)=false:=by simp;omega
    by_cases g3:m<(l.length:Int)
    ·obtain ⟨mm,rfl⟩: ∃ mm:Nat,m=(mm:Int):=⟨m.toNat,by omega⟩
     have d3:decide ((l.length:Int)≤(mm:Int))=false:=by simp;omega
     have d3n:decide (l.length≤mm)=false:=by simp;omega
     have hml:mm<l.length:=by omega
     obtain ⟨p,hx⟩: ∃ p,l[mm]? =some p:=⟨_,List.getElem?_eq_getElem hml⟩
     obtain ⟨q,hq,hpc⟩:=HC.out mm p hx
     have y0:wr.cell? ⟨g,o+mm * 5,none⟩=some (.string p.name):=bsome HB6.out (hq 0 _ rfl)
     have y1:=bsome HB6.out (hq 1 _ rfl)
     have y2:=bsome HB6.out (hq 2 _ rfl)
     have y3:=bsome HB6.out (hq 3 _ rfl)
     have y4:=bsome HB6.out (hq 4 _ rfl)
     have CG:=hide (ckBegins_any q p wr (hpc.keep HB6.out) (fun e e2=>by
      have:=HP.out p (List.mem_of_getElem? hx)
      rw [e,e2] at this
      simp at this))
     have HE3:Hid (Ck.check l (mm:Int)=if Ck.begins p then (0,0) else (13,-1)):=hide (by
      rw [HE2.out]
      unfold Ck.mainOK
      rw [decide_eq_true g2,Int.toNat_natCast,hx]
      rfl)
     generalize Ck.begins p=BG at *
     clear hx hq hpc HE2 g2 g3
     unfold PV.cells at *
     cases BG with
     |true=>
      go_wp2_with fail
      refine CG.out.mono ?_
      rintro e w4 ⟨rfl,hb4⟩
      obtain ⟨s0,s1,z0,z1⟩:=HF.out.keep (btrans HBI.out hb4)
      have HB6:=hide (btrans HB6.out hb4)
      clear hb4
      go_wp2
      refine bodyPost_ret (v:= .agg #[.int .i64 0,.int .i64 0]) (by simp [results,Tryz.results6,go_sem,s0,s1]) rfl ⟨by rw [HE3.out];rfl,bset (bset HB6.out (Nat.le_succ _) _) (Nat.le_succ _) _⟩
     |false=>
      go_wp2_with fail
      refine CG.out.mono ?_
      rintro e w4 ⟨rfl,hb4⟩
      obtain ⟨s0,s1,z0,z1⟩:=HF.out.keep (btrans HBI.out hb4)
      have HB6:=hide (btrans HB6.out hb4)
      clear hb4
      go_wp2
      refine bodyPost_ret (v:= .agg #[.int .i64 13,.int .i64 (-1)]) (by simp [results,Tryz.results6,go_sem,s0,s1]) rfl ⟨by rw [HE3.out];rfl,bset (bset HB6.out (Nat.le_succ _) _) (Nat.le_succ _) _⟩
    ·have d3:decide ((l.length:Int)≤m)=true:=by simp;omega
     have HE3:Hid (Ck.check l m=(13,-1)):=hide (by
      rw [HE2.out]
      unfold Ck.mainOK
      rw [decide_eq_true g2,List.getElem?_eq_none (by omega)]
      rfl)
     clear g2 g3
     go_wp2
     refine bodyPost_ret (v:= .agg #[.int .i64 13,.int .i64 (-1)]) (by simp [results,Tryz.results6,go_sem,s0,s1]) rfl ⟨by rw [HE3.out],bset (bset HB6.out (Nat.le_succ _) _) (Nat.le_succ _) _⟩
   ·have d2:decide (m<0)=true:=by simp;omega
    have HE3:Hid (Ck.check l m=(13,-1)):=hide (by
     rw [HE2.out]
     unfold Ck.mainOK
     rw [decide_eq_false g2]
     rfl)
    clear g2
    go_wp2
    refine bodyPost_ret (v:= .agg #[.int .i64 13,.int .i64 (-1)]) (by simp [results,Tryz.results6,go_sem,s0,s1]) rfl ⟨by rw [HE3.out],bset (bset HB6.out (Nat.le_succ _) _) (Nat.le_succ _) _⟩
end Go.Proofs.YtbhhkaobkdeolaaGreatDoor
