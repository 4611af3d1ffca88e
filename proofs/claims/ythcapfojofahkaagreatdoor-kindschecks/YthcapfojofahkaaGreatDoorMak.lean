import Derived.Test.YthcapfojofahkaaGreatDoorMaj
import Derived.Deep.RegionHeld3
import Derived.BigQuiet
namespace Go.Proofs.YthcapfojofahkaaGreatDoor
open Go.RowKit
structure BX (b:Nat) (w:World) (d N:Int) (A B T:List UInt8) (uE:Value):Prop where
 q0:w.cell? ⟨b,0,none⟩=some (.int .i64 d)
 q2:w.cell? ⟨b,2,none⟩=some (.string (bs A))
 q3:w.cell? ⟨b,3,none⟩=some (.string (bs B))
 q4:w.cell? ⟨b,4,none⟩=some (.string (bs T))
 q5:w.cell? ⟨b,5,none⟩=some (.int .i64 N)
 q6:w.cell? ⟨b,6,none⟩=some uE
theorem BX.keep {b g:Nat} {w w':World} {d N:Int} {A B T:List UInt8} {uE:Value} (h:BX b w d N A B T uE) (hk:Kp [g] w w') (hn:b ≠ g):BX b w' d N A B T uE:=
 have hm:b ∉ [g]:=by simpa using hn
 ⟨hk.some h.q0 hm,hk.some h.q2 hm,hk.some h.q3 hm,hk.some h.q4 hm,hk.some h.q5 hm,hk.some h.q6 hm⟩
def Kn.oft (ns:List Kn.Nv) (d:Int) (A B:List UInt8):List UInt8:=if d=5∨d=11∨d=12 then Kn.typ ns B else if d=6∨d=7∨d=8∨d=9 then Kn.typ ns A else []
def SttT (d:Int):Prop:= ∀ (c:Ng) (m q:Nat) (w:World) (P:Nat→Prop) (at':Int) (A B T:List UInt8) (N:Int) (E body els:List Sx.Tr) (aE:Option Addr) (cE:Nat) (uB uL nv bv:Value) (ns bd:List Kn.Nv) (t:Nat) (f:Int × Int),EL w P m E (.slice aE E.length cE)→Sl (RG w P q) w P c.l (.slice c.sa c.l.length c.sc)→c.i≤c.l.length→c.l.length≤1000000→ ¬ P c.g→(∀ (i:Nat) x,E[i]? =some x→Kn.lnE m x)→E.length≤1000000→(∀ (i:Nat) x,c.l[i]? =some x→(Sx.gP x).length≤1000000)→T.length≤1000000→f.1=0→(d=6→E ≠ [])→NS c w nv bv ns bd t f→
 Calls Tryz.prog 42 #[.pointer (some ⟨c.g,0,none⟩),.agg #[.int .i64 d,.int .i64 at',.string (bs A),.string (bs B),.string (bs T),.int .i64 N,.slice aE E.length cE,uB,uL]] w fun e w'=>
  ∃ s,e= .returned (.string (bs s))∧(Kn.sc m (c.l.take c.i) ns bd (Sx.tS d at' A B T N E body els)=0→s=Kn.oft ns d A B)∧NS c w' nv bv ns bd t (Kn.flt f (Kn.sc m (c.l.take c.i) ns bd (Sx.tS d at' A B T N E body els)) t)∧Kp [c.g] w w'
theorem Kn.flt_one {f:Int × Int} {k:Int} {t:Nat} (h:f.1=0) (hk:k ≠ 0):Kn.flt f k t=(k,(t:Int)):=by unfold Kn.flt;rw [if_pos ⟨h,hk⟩]
theorem mst_ty {ns:List Kn.Nv} {nm:List UInt8} {b:UInt8} (h:Kn.mst ns nm b=0):Kn.mty ns nm b=Kn.typ ns nm:=if_pos h
theorem mst_tn {ns:List Kn.Nv} {nm:List UInt8} {b:UInt8} (h:Kn.mst ns nm b ≠ 0):Kn.mty ns nm b=[]:=if_neg h
theorem bs_idK (s:ByteArray):bs s.data.toList=s:=by simp [bs]
theorem Sl.nthK {w:World} {P:Nat→Prop} {l:List Sx.Tr} {a:Option Addr} {cap:Nat} (h:Sl RP w P l (.slice a l.length cap)) (i:Nat) (hi:i<l.length):
  ∃ b off nm T,a=some ⟨b,off,none⟩∧l[i]? =some (Sx.tP nm T)∧w.cell? ⟨b,off+i * 2,none⟩=some (.string (bs nm))∧w.cell? ⟨b,off+i * 2+1,none⟩=some (.string (bs T)):=by
 obtain ⟨a',cap',hv,h⟩:=h
 cases hv
 rcases h with h|⟨b,off,cs,ha,hb,hr,hc⟩
 ·subst h;simp at hi
 ·obtain ⟨c,hR,hcu⟩:=hr.at (show ∀ d c,RP d c→c.length=2 from fun d c h=>by obtain ⟨nm,T,_,rfl⟩:=h;rfl) i _ (List.getElem?_eq_getElem hi)
  obtain ⟨nm,T,hd,rfl⟩:=hR
  have hx:=fun j u hu=>hc _ u (hcu j u hu)
  simp only [←Nat.add_assoc] at hx
  exact ⟨b,off,nm,T,ha,by rw [List.getElem?_eq_getElem hi,hd],hx 0 _ rfl,hx 1 _ rfl⟩
set_option maxRecDepth 100000 in
set_option maxHeartbeats 2000000 in
theorem stt_1:SttT 1:=by
 intro c m q w P at' A B T N E body els aE cE uB uL nv bv ns bd t f hE hG hi hll hP hl hlen hps hT hf h6 hns
 obtain ⟨m,rfl⟩: ∃ k,m=k+1:=by cases m with
  |zero=>cases hE
  |succ m=>exact ⟨m,rfl⟩
 have HS:=hide hE
 have H:=hide hns
 have hg:=hns.lt
 have hf5:=hns.c5
 rw [hf] at hf5
 have HLn:=hide hl
 have HBd:Hid (∀ w',Calls Tryz.prog 60 #[.int .i64 1] w' fun e w''=>e= .returned (.bool true)∧w''=w'):=hide (fun w'=>binding_any 1 w')
 have HW:=hide (fun (k:Int) (hk:k ≠ 0) w' h=>nmWrong_any c w' nv bv ns bd t f k hk h)
 clear hE hns hl
 have HI:=hide (fun w' (h:NS c w' nv bv ns bd t f)=>nmIsBound_any c.g bd A bv w' (by have:=h.lb;omega) (vr_own h.ob) h.c3)
 by_cases hA:Kn.isIn bd A=true
 ·have e1:Kn.sc (m+1) (c.l.take c.i) ns bd (Sx.tS 1 at' A B T N E body els)=9:=if_pos (by show (Kn.binding 1 && (Kn.isIn bd A || _))=true;rw [hA];rfl)
  rw [e1]
  rw [hA] at HI
  go_enter Tryz.func42,Tryz.ntmps42
  go_wp2_with fail
  refine (HBd.out _).mono ?_
  rintro e w1 ⟨rfl,rfl⟩
  go_wp2_with fail
  refine (HI.out _ (H.out.alloc _)).mono ?_
  rintro e w1 ⟨rfl,j1,rfl⟩
  go_wp2_with fail
  refine (HW.out 9 (by decide) _ ((H.out.alloc _).drewN _)).mono ?_
  rintro e w2 ⟨rfl,h2,k2⟩
  have H2:=hide h2
  have K2:=hide ((((Kp.refl [c.g] w).alloc _).drewN _).trans k2)
  clear h2 k2
  go_wp2
  go_ret
  exact ⟨[],rfl,fun h=>absurd h (by decide),H2.out,K2.out⟩
 have hA':Kn.isIn bd A=false:=by simpa using hA
 rw [hA'] at HI
 have htw:Kn.twice bd (Sx.tS 1 at' A B T N E body els)=false:=by show (Kn.binding 1 && (Kn.isIn bd A || _))=false;rw [hA'];rfl
 have hs:Kn.sc (m+1) (c.l.take c.i) ns bd (Sx.tS 1 at' A B T N E body els)=Rn.firstOf (Kn.num (m+1) ns) E:=by
  show (if Kn.twice bd (Sx.tS 1 at' A B T N E body els) then (9:Int) else if Kn.usedF ns (Sx.tS 1 at' A B T N E body els) ≠ 0 then Kn.usedF ns (Sx.tS 1 at' A B T N E body els) else Kn.rest (m+1) (c.l.take c.i) ns (Sx.tS 1 at' A B T N E body els))=_
  rw [htw,if_neg (by simp),if_neg (by show ¬ ((0:Int) ≠ 0);simp)]
  rfl
 rw [hs]
 clear hs htw
 go_enter Tryz.func42,Tryz.ntmps42
 go_wp2_with fail
 refine (HBd.out _).mono ?_
 rintro e w1 ⟨rfl,rfl⟩
 go_wp2_with fail
 refine (HI.out _ (H.out.alloc _)).mono ?_
 rintro e w1 ⟨rfl,j1,rfl⟩
 go_wp2
 go_loopw [9] (fun iv wr=> ∃ (i:Nat) (fk:Int × Int),i≤E.length∧iv= .int .i64 i∧Hid (NS c wr nv bv ns bd t fk)∧Hid (Kn.flt f (Rn.firstOf (Kn.num (m+1) ns) E) t=Kn.flt fk (Rn.firstOf (Kn.num (m+1) ns) (E.drop i)) t)∧Hid (Kp [c.g] w wr)∧wr.cell? ⟨w.heap.size,6,none⟩=some (.slice aE E.length cE)) (fun iv _=>E.length - (intOf iv).toNat)
 case atStart=>exact ⟨0,f,Nat.zero_le _,rfl,hide ((H.out.alloc _).drewN _),rfl,hide (((Kp.refl [c.g] w).alloc _).drewN _),by simp [go_sem]⟩
 case round=>
  obtain ⟨i,fk,hi,rfl,HN,HF,HK,hp⟩:=hrel
  by_cases hlt:i<E.length
  ·have d1:decide ((i:Int)<(E.length:Int))=true:=by simp;omega
   obtain ⟨b,off,op1,nm1,z1,L1,aL,cL,rfl,-,hd,m0,m1,m2,m3,hL⟩:=(HS.out.keep HK.out (by simpa using hP)).nth i hlt
   have HC:=hide (fun hll=>number_any c _ _ P op1 z1 nm1 L1 aL cL nv bv ns bd t fk hL hP hll HN.out)
   have HLL:=hide (HLn.out i _ hd)
   have HDR:=hide (drop_nth hd)
   have hk0:(0:Int)≤(i:Int):=by omega
   have hk1:(i:Int)<(E.length:Int):=by omega
   clear hL hd
   go_wp2_with fail
   refine (HC.out HLL.out).mono ?_
   rintro e w2 ⟨rfl,h2,k2⟩
   have c8:w2.cell? ⟨w.heap.size,6,none⟩=some (.slice (some ⟨b,off,none⟩) E.length cE):=k2.some hp (by simp;omega)
   have H2:=hide h2
   have K2:=hide (HK.out.trans k2)
   clear h2 k2
   go_wp2
   go_roundw
   case rel=>exact ⟨i+1,_,by omega,by go_num,H2,hide (by rw [HF.out,HDR.out,Kn.flt_first]),K2,c8⟩
   case measure=>simp [intOf];omega
  ·obtain rfl:i=E.length:=by omega
   have d1:decide ((E.length:Int)<(E.length:Int))=false:=by simp
   go_wp2
   go_ret
   refine ⟨[],rfl,fun _=>rfl,?_,HK.out⟩
   rw [HF.out,List.drop_length]
   show NS _ _ _ _ _ _ _ (Kn.flt fk 0 t)
   rw [Kn.flt_zero]
   exact HN.out
set_option maxRecDepth 100000 in
set_option maxHeartbeats 2000000 in
theorem stt_5:SttT 5:=by
 intro c m q w P at' A B T N E body els aE cE uB uL nv bv ns bd t f hE hG hi hll hP hl hlen hps hT hf h6 hns
 obtain ⟨m,rfl⟩: ∃ k,m=k+1:=by cases m with
  |zero=>cases hE
  |succ m=>exact ⟨m,rfl⟩
 have HS:=hide hE
 have H:=hide hns
 have hg:=hns.lt
 have hf5:=hns.c5
 rw [hf] at hf5
 have HLn:=hide hl
 have HBd:Hid (∀ w',Calls Tryz.prog 60 #[.int .i64 5] w' fun e w''=>e= .returned (.bool true)∧w''=w'):=hide (fun w'=>binding_any 5 w')
 have HW:=hide (fun (k:Int) (hk:k ≠ 0) w' h=>nmWrong_any c w' nv bv ns bd t f k hk h)
 clear hE hns hl
 have HI:=hide (fun w' (h:NS c w' nv bv ns bd t f)=>nmIsBound_any c.g bd A bv w' (by have:=h.lb;omega) (vr_own h.ob) h.c3)
 by_cases hA:Kn.isIn bd A=true
 ·have e1:Kn.sc (m+1) (c.l.take c.i) ns bd (Sx.tS 5 at' A B T N E body els)=9:=if_pos (by show (Kn.binding 5 && (Kn.isIn bd A || _))=true;rw [hA];rfl)
  rw [e1]
  rw [hA] at HI
  go_enter Tryz.func42,Tryz.ntmps42
  go_wp2_with fail
  refine (HBd.out _).mono ?_
  rintro e w1 ⟨rfl,rfl⟩
  go_wp2_with fail
  refine (HI.out _ (H.out.alloc _)).mono ?_
  rintro e w1 ⟨rfl,j1,rfl⟩
  go_wp2_with fail
  refine (HW.out 9 (by decide) _ ((H.out.alloc _).drewN _)).mono ?_
  rintro e w2 ⟨rfl,h2,k2⟩
  have H2:=hide h2
  have K2:=hide ((((Kp.refl [c.g] w).alloc _).drewN _).trans k2)
  clear h2 k2
  go_wp2
  go_ret
  exact ⟨[],rfl,fun h=>absurd h (by decide),H2.out,K2.out⟩
 have hA':Kn.isIn bd A=false:=by simpa using hA
 rw [hA'] at HI
 have htw:Kn.twice bd (Sx.tS 5 at' A B T N E body els)=false:=by show (Kn.binding 5 && (Kn.isIn bd A || _))=false;rw [hA'];rfl
 have hu:Kn.usedF ns (Sx.tS 5 at' A B T N E body els)=Kn.mst ns B 115:=rfl
 have HM:=hide (fun w' h=>nmMust_any c w' nv bv ns bd t f B 115 h)
 by_cases h0:Kn.mst ns B 115=0
 ·have hs:Kn.sc (m+1) (c.l.take c.i) ns bd (Sx.tS 5 at' A B T N E body els)=Rn.firstOf (Kn.num (m+1) ns) E:=by
   show (if Kn.twice bd (Sx.tS 5 at' A B T N E body els) then (9:Int) else if Kn.usedF ns (Sx.tS 5 at' A B T N E body els) ≠ 0 then Kn.usedF ns (Sx.tS 5 at' A B T N E body els) else Kn.rest (m+1) (c.l.take c.i) ns (Sx.tS 5 at' A B T N E body els))=_
   rw [htw,hu,if_neg (by simp),if_neg (by simpa using h0)]
   rfl
  rw [hs]
  rw [h0,Kn.flt_zero,mst_ty h0] at HM
  clear hs hu htw
  go_enter Tryz.func42,Tryz.ntmps42
  go_wp2_with fail
  refine (HBd.out _).mono ?_
  rintro e w1 ⟨rfl,rfl⟩
  go_wp2_with fail
  refine (HI.out _ (H.out.alloc _)).mono ?_
  rintro e w1 ⟨rfl,j1,rfl⟩
  go_wp2_with fail
  refine (HM.out _ ((H.out.alloc _).drewN _)).mono ?_
  rintro e w1 ⟨rfl,h1,k1⟩
  have K1:=hide ((((Kp.refl [c.g] w).alloc _).drewN _).trans k1)
  have p1:BX w.heap.size w1 5 N A B T (.slice aE E.length cE):=BX.keep ⟨by simp [go_sem],by simp [go_sem],by simp [go_sem],by simp [go_sem],by simp [go_sem],by simp [go_sem]⟩ k1 (by omega)
  have H1:=hide h1
  have x5:=h1.c5
  rw [hf] at x5
  obtain ⟨q0,q2,q3,q4,q5,q6⟩:=p1
  clear h1 k1
  go_wp2
  go_loopw [9] (fun iv wr=> ∃ (i:Nat) (fk:Int × Int),i≤E.length∧iv= .int .i64 i∧Hid (NS c wr nv bv ns bd t fk)∧Hid (Kn.flt f (Rn.firstOf (Kn.num (m+1) ns) E) t=Kn.flt fk (Rn.firstOf (Kn.num (m+1) ns) (E.drop i)) t)∧Hid (Kp [c.g] w wr)∧wr.cell? ⟨w.heap.size,6,none⟩=some (.slice aE E.length cE)) (fun iv _=>E.length - (intOf iv).toNat)
  case atStart=>exact ⟨0,f,Nat.zero_le _,rfl,H1,rfl,K1,q6⟩
  case round=>
   obtain ⟨i,fk,hi,rfl,HN,HF,HK,hp⟩:=hrel
   by_cases hlt:i<E.length
   ·have d1:decide ((i:Int)<(E.length:Int))=true:=by simp;omega
    obtain ⟨b,off,op1,nm1,z1,L1,aL,cL,rfl,-,hd,m0,m1,m2,m3,hL⟩:=(HS.out.keep HK.out (by simpa using hP)).nth i hlt
    have HC:=hide (fun hll=>number_any c _ _ P op1 z1 nm1 L1 aL cL nv bv ns bd t fk hL hP hll HN.out)
    have HLL:=hide (HLn.out i _ hd)
    have HDR:=hide (drop_nth hd)
    have hk0:(0:Int)≤(i:Int):=by omega
    have hk1:(i:Int)<(E.length:Int):=by omega
    clear hL hd
    go_wp2_with fail
    refine (HC.out HLL.out).mono ?_
    rintro e w2 ⟨rfl,h2,k2⟩
    have c8:w2.cell? ⟨w.heap.size,6,none⟩=some (.slice (some ⟨b,off,none⟩) E.length cE):=k2.some hp (by simp;omega)
    have H2:=hide h2
    have K2:=hide (HK.out.trans k2)
    clear h2 k2
    go_wp2
    go_roundw
    case rel=>exact ⟨i+1,_,by omega,by go_num,H2,hide (by rw [HF.out,HDR.out,Kn.flt_first]),K2,c8⟩
    case measure=>simp [intOf];omega
   ·obtain rfl:i=E.length:=by omega
    have d1:decide ((E.length:Int)<(E.length:Int))=false:=by simp
    go_wp2
    go_ret
    refine ⟨Kn.typ ns B,rfl,fun _=>rfl,?_,HK.out⟩
    rw [HF.out,List.drop_length]
    show NS _ _ _ _ _ _ _ (Kn.flt fk 0 t)
    rw [Kn.flt_zero]
    exact HN.out
 ·have hs:Kn.sc (m+1) (c.l.take c.i) ns bd (Sx.tS 5 at' A B T N E body els)=Kn.mst ns B 115:=by
   show (if Kn.twice bd (Sx.tS 5 at' A B T N E body els) then (9:Int) else if Kn.usedF ns (Sx.tS 5 at' A B T N E body els) ≠ 0 then Kn.usedF ns (Sx.tS 5 at' A B T N E body els) else Kn.rest (m+1) (c.l.take c.i) ns (Sx.tS 5 at' A B T N E body els))=_
   rw [htw,hu,if_neg (by simp),if_pos h0]
  rw [hs]
  have ef:=Kn.flt_one (t:=t) hf h0
  rw [ef]
  rw [ef,mst_tn h0] at HM
  have dz:(Kn.mst ns B 115 == 0)=false:=by simpa using h0
  clear hs hu htw
  go_enter Tryz.func42,Tryz.ntmps42
  go_wp2_with fail
  refine (HBd.out _).mono ?_
  rintro e w1 ⟨rfl,rfl⟩
  go_wp2_with fail
  refine (HI.out _ (H.out.alloc _)).mono ?_
  rintro e w1 ⟨rfl,j1,rfl⟩
  go_wp2_with fail
  refine (HM.out _ ((H.out.alloc _).drewN _)).mono ?_
  rintro e w1 ⟨rfl,h1,k1⟩
  have K1:=hide ((((Kp.refl [c.g] w).alloc _).drewN _).trans k1)
  have p1:BX w.heap.size w1 5 N A B T (.slice aE E.length cE):=BX.keep ⟨by simp [go_sem],by simp [go_sem],by simp [go_sem],by simp [go_sem],by simp [go_sem],by simp [go_sem]⟩ k1 (by omega)
  have H1:=hide h1
  have x5:=h1.c5
  obtain ⟨q0,q2,q3,q4,q5,q6⟩:=p1
  clear h1 k1
  go_wp2
  go_ret
  exact ⟨[],rfl,fun h=>absurd h h0,H1.out,K1.out⟩
set_option maxRecDepth 100000 in
set_option maxHeartbeats 2000000 in
theorem stt_7:SttT 7:=by
 intro c m q w P at' A B T N E body els aE cE uB uL nv bv ns bd t f hE hG hi hll hP hl hlen hps hT hf h6 hns
 obtain ⟨m,rfl⟩: ∃ k,m=k+1:=by cases m with
  |zero=>cases hE
  |succ m=>exact ⟨m,rfl⟩
 have HS:=hide hE
 have H:=hide hns
 have hg:=hns.lt
 have hf5:=hns.c5
 rw [hf] at hf5
 have HLn:=hide hl
 have HBd:Hid (∀ w',Calls Tryz.prog 60 #[.int .i64 7] w' fun e w''=>e= .returned (.bool false)∧w''=w'):=hide (fun w'=>binding_any 7 w')
 have HW:=hide (fun (k:Int) (hk:k ≠ 0) w' h=>nmWrong_any c w' nv bv ns bd t f k hk h)
 clear hE hns hl
 have htw:Kn.twice bd (Sx.tS 7 at' A B T N E body els)=false:=rfl
 have hu:Kn.usedF ns (Sx.tS 7 at' A B T N E body els)=Kn.mst ns A 115:=rfl
 have HM:=hide (fun w' h=>nmMust_any c w' nv bv ns bd t f A 115 h)
 by_cases h0:Kn.mst ns A 115=0
 ·have hs:Kn.sc (m+1) (c.l.take c.i) ns bd (Sx.tS 7 at' A B T N E body els)=Rn.firstOf (Kn.num (m+1) ns) E:=by
   show (if Kn.twice bd (Sx.tS 7 at' A B T N E body els) then (9:Int) else if Kn.usedF ns (Sx.tS 7 at' A B T N E body els) ≠ 0 then Kn.usedF ns (Sx.tS 7 at' A B T N E body els) else Kn.rest (m+1) (c.l.take c.i) ns (Sx.tS 7 at' A B T N E body els))=_
   rw [htw,hu,if_neg (by simp),if_neg (by simpa using h0)]
   rfl
  rw [hs]
  rw [h0,Kn.flt_zero,mst_ty h0] at HM
  clear hs hu htw
  go_enter Tryz.func42,Tryz.ntmps42
  go_wp2_with fail
  refine (HBd.out _).mono ?_
  rintro e w1 ⟨rfl,rfl⟩
  go_wp2_with fail
  refine (HM.out _ (H.out.alloc _)).mono ?_
  rintro e w1 ⟨rfl,h1,k1⟩
  have K1:=hide (((Kp.refl [c.g] w).alloc _).trans k1)
  have p1:BX w.heap.size w1 7 N A B T (.slice aE E.length cE):=BX.keep ⟨by simp [go_sem],by simp [go_sem],by simp [go_sem],by simp [go_sem],by simp [go_sem],by simp [go_sem]⟩ k1 (by omega)
  have H1:=hide h1
  have x5:=h1.c5
  rw [hf] at x5
  obtain ⟨q0,q2,q3,q4,q5,q6⟩:=p1
  clear h1 k1
  go_wp2
  go_loopw [9] (fun iv wr=> ∃ (i:Nat) (fk:Int × Int),i≤E.length∧iv= .int .i64 i∧Hid (NS c wr nv bv ns bd t fk)∧Hid (Kn.flt f (Rn.firstOf (Kn.num (m+1) ns) E) t=Kn.flt fk (Rn.firstOf (Kn.num (m+1) ns) (E.drop i)) t)∧Hid (Kp [c.g] w wr)∧wr.cell? ⟨w.heap.size,6,none⟩=some (.slice aE E.length cE)) (fun iv _=>E.length - (intOf iv).toNat)
  case atStart=>exact ⟨0,f,Nat.zero_le _,rfl,H1,rfl,K1,q6⟩
  case round=>
   obtain ⟨i,fk,hi,rfl,HN,HF,HK,hp⟩:=hrel
   by_cases hlt:i<E.length
   ·have d1:decide ((i:Int)<(E.length:Int))=true:=by simp;omega
    obtain ⟨b,off,op1,nm1,z1,L1,aL,cL,rfl,-,hd,m0,m1,m2,m3,hL⟩:=(HS.out.keep HK.out (by simpa using hP)).nth i hlt
    have HC:=hide (fun hll=>number_any c _ _ P op1 z1 nm1 L1 aL cL nv bv ns bd t fk hL hP hll HN.out)
    have HLL:=hide (HLn.out i _ hd)
    have HDR:=hide (drop_nth hd)
    have hk0:(0:Int)≤(i:Int):=by omega
    have hk1:(i:Int)<(E.length:Int):=by omega
    clear hL hd
    go_wp2_with fail
    refine (HC.out HLL.out).mono ?_
    rintro e w2 ⟨rfl,h2,k2⟩
    have c8:w2.cell? ⟨w.heap.size,6,none⟩=some (.slice (some ⟨b,off,none⟩) E.length cE):=k2.some hp (by simp;omega)
    have H2:=hide h2
    have K2:=hide (HK.out.trans k2)
    clear h2 k2
    go_wp2
    go_roundw
    case rel=>exact ⟨i+1,_,by omega,by go_num,H2,hide (by rw [HF.out,HDR.out,Kn.flt_first]),K2,c8⟩
    case measure=>simp [intOf];omega
   ·obtain rfl:i=E.length:=by omega
    have d1:decide ((E.length:Int)<(E.length:Int))=false:=by simp
    go_wp2
    go_ret
    refine ⟨Kn.typ ns A,rfl,fun _=>rfl,?_,HK.out⟩
    rw [HF.out,List.drop_length]
    show NS _ _ _ _ _ _ _ (Kn.flt fk 0 t)
    rw [Kn.flt_zero]
    exact HN.out
 ·have hs:Kn.sc (m+1) (c.l.take c.i) ns bd (Sx.tS 7 at' A B T N E body els)=Kn.mst ns A 115:=by
   show (if Kn.twice bd (Sx.tS 7 at' A B T N E body els) then (9:Int) else if Kn.usedF ns (Sx.tS 7 at' A B T N E body els) ≠ 0 then Kn.usedF ns (Sx.tS 7 at' A B T N E body els) else Kn.rest (m+1) (c.l.take c.i) ns (Sx.tS 7 at' A B T N E body els))=_
   rw [htw,hu,if_neg (by simp),if_pos h0]
  rw [hs]
  have ef:=Kn.flt_one (t:=t) hf h0
  rw [ef]
  rw [ef,mst_tn h0] at HM
  have dz:(Kn.mst ns A 115 == 0)=false:=by simpa using h0
  clear hs hu htw
  go_enter Tryz.func42,Tryz.ntmps42
  go_wp2_with fail
  refine (HBd.out _).mono ?_
  rintro e w1 ⟨rfl,rfl⟩
  go_wp2_with fail
  refine (HM.out _ (H.out.alloc _)).mono ?_
  rintro e w1 ⟨rfl,h1,k1⟩
  have K1:=hide (((Kp.refl [c.g] w).alloc _).trans k1)
  have p1:BX w.heap.size w1 7 N A B T (.slice aE E.length cE):=BX.keep ⟨by simp [go_sem],by simp [go_sem],by simp [go_sem],by simp [go_sem],by simp [go_sem],by simp [go_sem]⟩ k1 (by omega)
  have H1:=hide h1
  have x5:=h1.c5
  obtain ⟨q0,q2,q3,q4,q5,q6⟩:=p1
  clear h1 k1
  go_wp2
  go_ret
  exact ⟨[],rfl,fun h=>absurd h h0,H1.out,K1.out⟩
set_option maxRecDepth 100000 in
set_option maxHeartbeats 2000000 in
theorem stt_8:SttT 8:=by
 intro c m q w P at' A B T N E body els aE cE uB uL nv bv ns bd t f hE hG hi hll hP hl hlen hps hT hf h6 hns
 obtain ⟨m,rfl⟩: ∃ k,m=k+1:=by cases m with
  |zero=>cases hE
  |succ m=>exact ⟨m,rfl⟩
 have HS:=hide hE
 have H:=hide hns
 have hg:=hns.lt
 have hf5:=hns.c5
 rw [hf] at hf5
 have HLn:=hide hl
 have HBd:Hid (∀ w',Calls Tryz.prog 60 #[.int .i64 8] w' fun e w''=>e= .returned (.bool false)∧w''=w'):=hide (fun w'=>binding_any 8 w')
 have HW:=hide (fun (k:Int) (hk:k ≠ 0) w' h=>nmWrong_any c w' nv bv ns bd t f k hk h)
 clear hE hns hl
 have htw:Kn.twice bd (Sx.tS 8 at' A B T N E body els)=false:=rfl
 have hu:Kn.usedF ns (Sx.tS 8 at' A B T N E body els)=Kn.mst ns A 114:=rfl
 have HM:=hide (fun w' h=>nmMust_any c w' nv bv ns bd t f A 114 h)
 by_cases h0:Kn.mst ns A 114=0
 ·have hs:Kn.sc (m+1) (c.l.take c.i) ns bd (Sx.tS 8 at' A B T N E body els)=Rn.firstOf (Kn.num (m+1) ns) E:=by
   show (if Kn.twice bd (Sx.tS 8 at' A B T N E body els) then (9:Int) else if Kn.usedF ns (Sx.tS 8 at' A B T N E body els) ≠ 0 then Kn.usedF ns (Sx.tS 8 at' A B T N E body els) else Kn.rest (m+1) (c.l.take c.i) ns (Sx.tS 8 at' A B T N E body els))=_
   rw [htw,hu,if_neg (by simp),if_neg (by simpa using h0)]
   rfl
  rw [hs]
  rw [h0,Kn.flt_zero,mst_ty h0] at HM
  clear hs hu htw
  go_enter Tryz.func42,Tryz.ntmps42
  go_wp2_with fail
  refine (HBd.out _).mono ?_
  rintro e w1 ⟨rfl,rfl⟩
  go_wp2_with fail
  refine (HM.out _ (H.out.alloc _)).mono ?_
  rintro e w1 ⟨rfl,h1,k1⟩
  have K1:=hide (((Kp.refl [c.g] w).alloc _).trans k1)
  have p1:BX w.heap.size w1 8 N A B T (.slice aE E.length cE):=BX.keep ⟨by simp [go_sem],by simp [go_sem],by simp [go_sem],by simp [go_sem],by simp [go_sem],by simp [go_sem]⟩ k1 (by omega)
  have H1:=hide h1
  have x5:=h1.c5
  rw [hf] at x5
  obtain ⟨q0,q2,q3,q4,q5,q6⟩:=p1
  clear h1 k1
  go_wp2
  go_loopw [9] (fun iv wr=> ∃ (i:Nat) (fk:Int × Int),i≤E.length∧iv= .int .i64 i∧Hid (NS c wr nv bv ns bd t fk)∧Hid (Kn.flt f (Rn.firstOf (Kn.num (m+1) ns) E) t=Kn.flt fk (Rn.firstOf (Kn.num (m+1) ns) (E.drop i)) t)∧Hid (Kp [c.g] w wr)∧wr.cell? ⟨w.heap.size,6,none⟩=some (.slice aE E.length cE)) (fun iv _=>E.length - (intOf iv).toNat)
  case atStart=>exact ⟨0,f,Nat.zero_le _,rfl,H1,rfl,K1,q6⟩
  case round=>
   obtain ⟨i,fk,hi,rfl,HN,HF,HK,hp⟩:=hrel
   by_cases hlt:i<E.length
   ·have d1:decide ((i:Int)<(E.length:Int))=true:=by simp;omega
    obtain ⟨b,off,op1,nm1,z1,L1,aL,cL,rfl,-,hd,m0,m1,m2,m3,hL⟩:=(HS.out.keep HK.out (by simpa using hP)).nth i hlt
    have HC:=hide (fun hll=>number_any c _ _ P op1 z1 nm1 L1 aL cL nv bv ns bd t fk hL hP hll HN.out)
    have HLL:=hide (HLn.out i _ hd)
    have HDR:=hide (drop_nth hd)
    have hk0:(0:Int)≤(i:Int):=by omega
    have hk1:(i:Int)<(E.length:Int):=by omega
    clear hL hd
    go_wp2_with fail
    refine (HC.out HLL.out).mono ?_
    rintro e w2 ⟨rfl,h2,k2⟩
    have c8:w2.cell? ⟨w.heap.size,6,none⟩=some (.slice (some ⟨b,off,none⟩) E.length cE):=k2.some hp (by simp;omega)
    have H2:=hide h2
    have K2:=hide (HK.out.trans k2)
    clear h2 k2
    go_wp2
    go_roundw
    case rel=>exact ⟨i+1,_,by omega,by go_num,H2,hide (by rw [HF.out,HDR.out,Kn.flt_first]),K2,c8⟩
    case measure=>simp [intOf];omega
   ·obtain rfl:i=E.length:=by omega
    have d1:decide ((E.length:Int)<(E.length:Int))=false:=by simp
    go_wp2
    go_ret
    refine ⟨Kn.typ ns A,rfl,fun _=>rfl,?_,HK.out⟩
    rw [HF.out,List.drop_length]
    show NS _ _ _ _ _ _ _ (Kn.flt fk 0 t)
    rw [Kn.flt_zero]
    exact HN.out
 ·have hs:Kn.sc (m+1) (c.l.take c.i) ns bd (Sx.tS 8 at' A B T N E body els)=Kn.mst ns A 114:=by
   show (if Kn.twice bd (Sx.tS 8 at' A B T N E body els) then (9:Int) else if Kn.usedF ns (Sx.tS 8 at' A B T N E body els) ≠ 0 then Kn.usedF ns (Sx.tS 8 at' A B T N E body els) else Kn.rest (m+1) (c.l.take c.i) ns (Sx.tS 8 at' A B T N E body els))=_
   rw [htw,hu,if_neg (by simp),if_pos h0]
  rw [hs]
  have ef:=Kn.flt_one (t:=t) hf h0
  rw [ef]
  rw [ef,mst_tn h0] at HM
  have dz:(Kn.mst ns A 114 == 0)=false:=by simpa using h0
  clear hs hu htw
  go_enter Tryz.func42,Tryz.ntmps42
  go_wp2_with fail
  refine (HBd.out _).mono ?_
  rintro e w1 ⟨rfl,rfl⟩
  go_wp2_with fail
  refine (HM.out _ (H.out.alloc _)).mono ?_
  rintro e w1 ⟨rfl,h1,k1⟩
  have K1:=hide (((Kp.refl [c.g] w).alloc _).trans k1)
  have p1:BX w.heap.size w1 8 N A B T (.slice aE E.length cE):=BX.keep ⟨by simp [go_sem],by simp [go_sem],by simp [go_sem],by simp [go_sem],by simp [go_sem],by simp [go_sem]⟩ k1 (by omega)
  have H1:=hide h1
  have x5:=h1.c5
  obtain ⟨q0,q2,q3,q4,q5,q6⟩:=p1
  clear h1 k1
  go_wp2
  go_ret
  exact ⟨[],rfl,fun h=>absurd h h0,H1.out,K1.out⟩
set_option maxRecDepth 100000 in
set_option maxHeartbeats 2000000 in
theorem stt_11:SttT 11:=by
 intro c m q w P at' A B T N E body els aE cE uB uL nv bv ns bd t f hE hG hi hll hP hl hlen hps hT hf h6 hns
 obtain ⟨m,rfl⟩: ∃ k,m=k+1:=by cases m with
  |zero=>cases hE
  |succ m=>exact ⟨m,rfl⟩
 have HS:=hide hE
 have H:=hide hns
 have hg:=hns.lt
 have hf5:=hns.c5
 rw [hf] at hf5
 have HLn:=hide hl
 have HBd:Hid (∀ w',Calls Tryz.prog 60 #[.int .i64 11] w' fun e w''=>e= .returned (.bool true)∧w''=w'):=hide (fun w'=>binding_any 11 w')
 have HW:=hide (fun (k:Int) (hk:k ≠ 0) w' h=>nmWrong_any c w' nv bv ns bd t f k hk h)
 clear hE hns hl
 have HI:=hide (fun w' (h:NS c w' nv bv ns bd t f)=>nmIsBound_any c.g bd A bv w' (by have:=h.lb;omega) (vr_own h.ob) h.c3)
 by_cases hA:Kn.isIn bd A=true
 ·have e1:Kn.sc (m+1) (c.l.take c.i) ns bd (Sx.tS 11 at' A B T N E body els)=9:=if_pos (by show (Kn.binding 11 && (Kn.isIn bd A || _))=true;rw [hA];rfl)
  rw [e1]
  rw [hA] at HI
  go_enter Tryz.func42,Tryz.ntmps42
  go_wp2_with fail
  refine (HBd.out _).mono ?_
  rintro e w1 ⟨rfl,rfl⟩
  go_wp2_with fail
  refine (HI.out _ (H.out.alloc _)).mono ?_
  rintro e w1 ⟨rfl,j1,rfl⟩
  go_wp2_with fail
  refine (HW.out 9 (by decide) _ ((H.out.alloc _).drewN _)).mono ?_
  rintro e w2 ⟨rfl,h2,k2⟩
  have H2:=hide h2
  have K2:=hide ((((Kp.refl [c.g] w).alloc _).drewN _).trans k2)
  clear h2 k2
  go_wp2
  go_ret
  exact ⟨[],rfl,fun h=>absurd h (by decide),H2.out,K2.out⟩
 have hA':Kn.isIn bd A=false:=by simpa using hA
 rw [hA'] at HI
 have htw:Kn.twice bd (Sx.tS 11 at' A B T N E body els)=false:=by show (Kn.binding 11 && (Kn.isIn bd A || _))=false;rw [hA'];rfl
 have hu:Kn.usedF ns (Sx.tS 11 at' A B T N E body els)=Kn.mst ns B 114:=rfl
 have HM:=hide (fun w' h=>nmMust_any c w' nv bv ns bd t f B 114 h)
 by_cases h0:Kn.mst ns B 114=0
 ·have hs:Kn.sc (m+1) (c.l.take c.i) ns bd (Sx.tS 11 at' A B T N E body els)=Rn.firstOf (Kn.num (m+1) ns) E:=by
   show (if Kn.twice bd (Sx.tS 11 at' A B T N E body els) then (9:Int) else if Kn.usedF ns (Sx.tS 11 at' A B T N E body els) ≠ 0 then Kn.usedF ns (Sx.tS 11 at' A B T N E body els) else Kn.rest (m+1) (c.l.take c.i) ns (Sx.tS 11 at' A B T N E body els))=_
   rw [htw,hu,if_neg (by simp),if_neg (by simpa using h0)]
   rfl
  rw [hs]
  rw [h0,Kn.flt_zero,mst_ty h0] at HM
  clear hs hu htw
  go_enter Tryz.func42,Tryz.ntmps42
  go_wp2_with fail
  refine (HBd.out _).mono ?_
  rintro e w1 ⟨rfl,rfl⟩
  go_wp2_with fail
  refine (HI.out _ (H.out.alloc _)).mono ?_
  rintro e w1 ⟨rfl,j1,rfl⟩
  go_wp2_with fail
  refine (HM.out _ ((H.out.alloc _).drewN _)).mono ?_
  rintro e w1 ⟨rfl,h1,k1⟩
  have K1:=hide ((((Kp.refl [c.g] w).alloc _).drewN _).trans k1)
  have p1:BX w.heap.size w1 11 N A B T (.slice aE E.length cE):=BX.keep ⟨by simp [go_sem],by simp [go_sem],by simp [go_sem],by simp [go_sem],by simp [go_sem],by simp [go_sem]⟩ k1 (by omega)
  have H1:=hide h1
  have x5:=h1.c5
  rw [hf] at x5
  obtain ⟨q0,q2,q3,q4,q5,q6⟩:=p1
  clear h1 k1
  go_wp2
  go_loopw [9] (fun iv wr=> ∃ (i:Nat) (fk:Int × Int),i≤E.length∧iv= .int .i64 i∧Hid (NS c wr nv bv ns bd t fk)∧Hid (Kn.flt f (Rn.firstOf (Kn.num (m+1) ns) E) t=Kn.flt fk (Rn.firstOf (Kn.num (m+1) ns) (E.drop i)) t)∧Hid (Kp [c.g] w wr)∧wr.cell? ⟨w.heap.size,6,none⟩=some (.slice aE E.length cE)) (fun iv _=>E.length - (intOf iv).toNat)
  case atStart=>exact ⟨0,f,Nat.zero_le _,rfl,H1,rfl,K1,q6⟩
  case round=>
   obtain ⟨i,fk,hi,rfl,HN,HF,HK,hp⟩:=hrel
   by_cases hlt:i<E.length
   ·have d1:decide ((i:Int)<(E.length:Int))=true:=by simp;omega
    obtain ⟨b,off,op1,nm1,z1,L1,aL,cL,rfl,-,hd,m0,m1,m2,m3,hL⟩:=(HS.out.keep HK.out (by simpa using hP)).nth i hlt
    have HC:=hide (fun hll=>number_any c _ _ P op1 z1 nm1 L1 aL cL nv bv ns bd t fk hL hP hll HN.out)
    have HLL:=hide (HLn.out i _ hd)
    have HDR:=hide (drop_nth hd)
    have hk0:(0:Int)≤(i:Int):=by omega
    have hk1:(i:Int)<(E.length:Int):=by omega
    clear hL hd
    go_wp2_with fail
    refine (HC.out HLL.out).mono ?_
    rintro e w2 ⟨rfl,h2,k2⟩
    have c8:w2.cell? ⟨w.heap.size,6,none⟩=some (.slice (some ⟨b,off,none⟩) E.length cE):=k2.some hp (by simp;omega)
    have H2:=hide h2
    have K2:=hide (HK.out.trans k2)
    clear h2 k2
    go_wp2
    go_roundw
    case rel=>exact ⟨i+1,_,by omega,by go_num,H2,hide (by rw [HF.out,HDR.out,Kn.flt_first]),K2,c8⟩
    case measure=>simp [intOf];omega
   ·obtain rfl:i=E.length:=by omega
    have d1:decide ((E.length:Int)<(E.length:Int))=false:=by simp
    go_wp2
    go_ret
    refine ⟨Kn.typ ns B,rfl,fun _=>rfl,?_,HK.out⟩
    rw [HF.out,List.drop_length]
    show NS _ _ _ _ _ _ _ (Kn.flt fk 0 t)
    rw [Kn.flt_zero]
    exact HN.out
 ·have hs:Kn.sc (m+1) (c.l.take c.i) ns bd (Sx.tS 11 at' A B T N E body els)=Kn.mst ns B 114:=by
   show (if Kn.twice bd (Sx.tS 11 at' A B T N E body els) then (9:Int) else if Kn.usedF ns (Sx.tS 11 at' A B T N E body els) ≠ 0 then Kn.usedF ns (Sx.tS 11 at' A B T N E body els) else Kn.rest (m+1) (c.l.take c.i) ns (Sx.tS 11 at' A B T N E body els))=_
   rw [htw,hu,if_neg (by simp),if_pos h0]
  rw [hs]
  have ef:=Kn.flt_one (t:=t) hf h0
  rw [ef]
  rw [ef,mst_tn h0] at HM
  have dz:(Kn.mst ns B 114 == 0)=false:=by simpa using h0
  clear hs hu htw
  go_enter Tryz.func42,Tryz.ntmps42
  go_wp2_with fail
  refine (HBd.out _).mono ?_
  rintro e w1 ⟨rfl,rfl⟩
  go_wp2_with fail
  refine (HI.out _ (H.out.alloc _)).mono ?_
  rintro e w1 ⟨rfl,j1,rfl⟩
  go_wp2_with fail
  refine (HM.out _ ((H.out.alloc _).drewN _)).mono ?_
  rintro e w1 ⟨rfl,h1,k1⟩
  have K1:=hide ((((Kp.refl [c.g] w).alloc _).drewN _).trans k1)
  have p1:BX w.heap.size w1 11 N A B T (.slice aE E.length cE):=BX.keep ⟨by simp [go_sem],by simp [go_sem],by simp [go_sem],by simp [go_sem],by simp [go_sem],by simp [go_sem]⟩ k1 (by omega)
  have H1:=hide h1
  have x5:=h1.c5
  obtain ⟨q0,q2,q3,q4,q5,q6⟩:=p1
  clear h1 k1
  go_wp2
  go_ret
  exact ⟨[],rfl,fun h=>absurd h h0,H1.out,K1.out⟩
set_option maxRecDepth 100000 in
set_option maxHeartbeats 2000000 in
theorem stt_13:SttT 13:=by
 intro c m q w P at' A B T N E body els aE cE uB uL nv bv ns bd t f hE hG hi hll hP hl hlen hps hT hf h6 hns
 obtain ⟨m,rfl⟩: ∃ k,m=k+1:=by cases m with
  |zero=>cases hE
  |succ m=>exact ⟨m,rfl⟩
 have HS:=hide hE
 have H:=hide hns
 have hg:=hns.lt
 have hf5:=hns.c5
 rw [hf] at hf5
 have HLn:=hide hl
 have HBd:Hid (∀ w',Calls Tryz.prog 60 #[.int .i64 13] w' fun e w''=>e= .returned (.bool false)∧w''=w'):=hide (fun w'=>binding_any 13 w')
 have HW:=hide (fun (k:Int) (hk:k ≠ 0) w' h=>nmWrong_any c w' nv bv ns bd t f k hk h)
 clear hE hns hl
 have htw:Kn.twice bd (Sx.tS 13 at' A B T N E body els)=false:=rfl
 have hs:Kn.sc (m+1) (c.l.take c.i) ns bd (Sx.tS 13 at' A B T N E body els)=Rn.firstOf (Kn.num (m+1) ns) E:=by
  show (if Kn.twice bd (Sx.tS 13 at' A B T N E body els) then (9:Int) else if Kn.usedF ns (Sx.tS 13 at' A B T N E body els) ≠ 0 then Kn.usedF ns (Sx.tS 13 at' A B T N E body els) else Kn.rest (m+1) (c.l.take c.i) ns (Sx.tS 13 at' A B T N E body els))=_
  rw [htw,if_neg (by simp),if_neg (by show ¬ ((0:Int) ≠ 0);simp)]
  rfl
 rw [hs]
 clear hs htw
 go_enter Tryz.func42,Tryz.ntmps42
 go_wp2_with fail
 refine (HBd.out _).mono ?_
 rintro e w1 ⟨rfl,rfl⟩
 go_wp2
 go_loopw [9] (fun iv wr=> ∃ (i:Nat) (fk:Int × Int),i≤E.length∧iv= .int .i64 i∧Hid (NS c wr nv bv ns bd t fk)∧Hid (Kn.flt f (Rn.firstOf (Kn.num (m+1) ns) E) t=Kn.flt fk (Rn.firstOf (Kn.num (m+1) ns) (E.drop i)) t)∧Hid (Kp [c.g] w wr)∧wr.cell? ⟨w.heap.size,6,none⟩=some (.slice aE E.length cE)) (fun iv _=>E.length - (intOf iv).toNat)
 case atStart=>exact ⟨0,f,Nat.zero_le _,rfl,hide (H.out.alloc _),rfl,hide ((Kp.refl [c.g] w).alloc _),by simp [go_sem]⟩
 case round=>
  obtain ⟨i,fk,hi,rfl,HN,HF,HK,hp⟩:=hrel
  by_cases hlt:i<E.length
  ·have d1:decide ((i:Int)<(E.length:Int))=true:=by simp;omega
   obtain ⟨b,off,op1,nm1,z1,L1,aL,cL,rfl,-,hd,m0,m1,m2,m3,hL⟩:=(HS.out.keep HK.out (by simpa using hP)).nth i hlt
   have HC:=hide (fun hll=>number_any c _ _ P op1 z1 nm1 L1 aL cL nv bv ns bd t fk hL hP hll HN.out)
   have HLL:=hide (HLn.out i _ hd)
   have HDR:=hide (drop_nth hd)
   have hk0:(0:Int)≤(i:Int):=by omega
   have hk1:(i:Int)<(E.length:Int):=by omega
   clear hL hd
   go_wp2_with fail
   refine (HC.out HLL.out).mono ?_
   rintro e w2 ⟨rfl,h2,k2⟩
   have c8:w2.cell? ⟨w.heap.size,6,none⟩=some (.slice (some ⟨b,off,none⟩) E.length cE):=k2.some hp (by simp;omega)
   have H2:=hide h2
   have K2:=hide (HK.out.trans k2)
   clear h2 k2
   go_wp2
   go_roundw
   case rel=>exact ⟨i+1,_,by omega,by go_num,H2,hide (by rw [HF.out,HDR.out,Kn.flt_first]),K2,c8⟩
   case measure=>simp [intOf];omega
  ·obtain rfl:i=E.length:=by omega
   have d1:decide ((E.length:Int)<(E.length:Int))=false:=by simp
   go_wp2
   go_ret
   refine ⟨[],rfl,fun _=>rfl,?_,HK.out⟩
   rw [HF.out,List.drop_length]
   show NS _ _ _ _ _ _ _ (Kn.flt fk 0 t)
   rw [Kn.flt_zero]
   exact HN.out
end Go.Proofs.YthcapfojofahkaaGreatDoor
