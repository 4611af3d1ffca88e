import Derived.Test.YthcapfojofahkaaGreatDoorMak
namespace Go.Proofs.YthcapfojofahkaaGreatDoor
open Go.RowKit
set_option maxRecDepth 100000 in
set_option maxHeartbeats 2000000 in
theorem stt_4:SttT 4:=by
 intro c m q w P at' A B T N E body els aE cE uB uL nv bv ns bd t f hE hG hi hll hP hl hlen hps hT hf h6 hns
 obtain ⟨m,rfl⟩: ∃ k,m=k+1:=by cases m with
  |zero=>cases hE
  |succ m=>exact ⟨m,rfl⟩
 have HS:=hide hE
 have H:=hide hns
 have hg:=hns.lt
 have hf5:=hns.c5
 rw [hf] at hf5
 have HLn:=hide hl
 have HBd:Hid (∀ w',Calls Tryz.prog 60 #[.int .i64 4] w' fun e w''=>e= .returned (.bool true)∧w''=w'):=hide (fun w'=>binding_any 4 w')
 have HW:=hide (fun (k:Int) (hk:k ≠ 0) w' h=>nmWrong_any c w' nv bv ns bd t f k hk h)
 clear hE hns hl
 have HI:=hide (fun (X:List UInt8) w' (h:NS c w' nv bv ns bd t f)=>nmIsBound_any c.g bd X bv w' (by have:=h.lb;omega) (vr_own h.ob) h.c3)
 have htw:Kn.twice bd (Sx.tS 4 at' A B T N E body els)=(Kn.isIn bd A || (Kn.isIn bd B || A == B)):=rfl
 have HIA:=hide (HI.out A)
 have HIB:=hide (HI.out B)
 clear HI
 cases hA:Kn.isIn bd A with
 |true=>
  have e1:Kn.sc (m+1) (c.l.take c.i) ns bd (Sx.tS 4 at' A B T N E body els)=9:=if_pos (by rw [htw,hA];rfl)
  rw [e1]
  rw [hA] at HIA
  go_enter Tryz.func42,Tryz.ntmps42
  go_wp2_with fail
  refine (HBd.out _).mono ?_
  rintro e w1 ⟨rfl,rfl⟩
  go_wp2_with fail
  refine (HIA.out _ (H.out.alloc _)).mono ?_
  rintro e w1 ⟨rfl,j1,rfl⟩
  go_wp2_with fail
  refine (HW.out 9 (by decide) _ ((H.out.alloc _).drewN _)).mono ?_
  rintro e w2 ⟨rfl,h2,k2⟩
  have H2:=hide h2
  have K2:=hide ((((Kp.refl [c.g] w).alloc _).drewN _).trans k2)
  clear h2 k2
  go_wp2
  go_ret
  exact ⟨[],rfl,fun h=>absurd h (by decide),H2.out,K2.out⟩
 |false=>
 rw [hA] at HIA htw
 cases hB:Kn.isIn bd B with
 |true=>
  have e1:Kn.sc (m+1) (c.l.take c.i) ns bd (Sx.tS 4 at' A B T N E body els)=9:=if_pos (by rw [htw,hB];rfl)
  rw [e1]
  rw [hB] at HIB
  go_enter Tryz.func42,Tryz.ntmps42
  go_wp2_with fail
  refine (HBd.out _).mono ?_
  rintro e w1 ⟨rfl,rfl⟩
  go_wp2_with fail
  refine (HIA.out _ (H.out.alloc _)).mono ?_
  rintro e w1 ⟨rfl,j1,rfl⟩
  go_wp2_with fail
  refine (HIB.out _ ((H.out.alloc _).drewN _)).mono ?_
  rintro e w1 ⟨rfl,j2,rfl⟩
  go_wp2_with fail
  refine (HW.out 9 (by decide) _ ((H.out.alloc _).drewN _)).mono ?_
  rintro e w2 ⟨rfl,h2,k2⟩
  have H2:=hide h2
  have K2:=hide ((((Kp.refl [c.g] w).alloc _).drewN _).trans k2)
  clear h2 k2
  go_wp2
  go_ret
  exact ⟨[],rfl,fun h=>absurd h (by decide),H2.out,K2.out⟩
 |false=>
 rw [hB] at HIB htw
 by_cases hAB:A=B
 ·have e1:Kn.sc (m+1) (c.l.take c.i) ns bd (Sx.tS 4 at' A B T N E body els)=9:=if_pos (by rw [htw,hAB];simp)
  rw [e1]
  have qs:((bs A).toList == (bs B).toList)=true:=by rw [hAB];simp
  generalize bs A=sA at *
  generalize bs B=sB at *
  clear htw e1
  go_enter Tryz.func42,Tryz.ntmps42
  go_wp2_with fail
  refine (HBd.out _).mono ?_
  rintro e w1 ⟨rfl,rfl⟩
  go_wp2_with fail
  refine (HIA.out _ (H.out.alloc _)).mono ?_
  rintro e w1 ⟨rfl,j1,rfl⟩
  go_wp2_with fail
  refine (HIB.out _ ((H.out.alloc _).drewN _)).mono ?_
  rintro e w1 ⟨rfl,j2,rfl⟩
  go_wp2_with fail
  refine (HW.out 9 (by decide) _ ((H.out.alloc _).drewN _)).mono ?_
  rintro e w2 ⟨rfl,h2,k2⟩
  have H2:=hide h2
  have K2:=hide ((((Kp.refl [c.g] w).alloc _).drewN _).trans k2)
  clear h2 k2
  go_wp2
  go_ret
  exact ⟨[],rfl,fun h=>absurd h (by decide),H2.out,K2.out⟩
 have qs:=bs_ne hAB
 have hs:Kn.sc (m+1) (c.l.take c.i) ns bd (Sx.tS 4 at' A B T N E body els)=if N<1∨5<N then 14 else if 3<T.length then 11 else 0:=by
  show (if Kn.twice bd (Sx.tS 4 at' A B T N E body els) then (9:Int) else if Kn.usedF ns (Sx.tS 4 at' A B T N E body els) ≠ 0 then Kn.usedF ns (Sx.tS 4 at' A B T N E body els) else Kn.rest (m+1) (c.l.take c.i) ns (Sx.tS 4 at' A B T N E body els))=_
  have hab:(A == B)=false:=by simpa using hAB
  rw [htw,hab,if_neg (by simp),if_neg (by show ¬ ((0:Int) ≠ 0);simp)]
  rfl
 rw [hs]
 have hz:((bs T).size:Int)=(T.length:Int):=by rw [bsz]
 have hwz:wrap64 ((T.length:Int) - 1)=(T.length:Int) - 1:=by simp only [wrap64];omega
 clear hs htw hAB
 by_cases hN:N<1∨5<N
 ·rw [if_pos hN]
  have hN':decide (N<1)=true∨(decide (N<1)=false∧decide (5<N)=true):=by
   by_cases h1:N<1
   ·left;simpa using h1
   ·right;simp;omega
  have ef:=Kn.flt_one (t:=t) (k:=14) hf (by decide)
  have HW1:=hide (HW.out 14 (by decide))
  have HW2:=hide (fun w' h=>nmWrong_any c w' nv bv ns bd t (Kn.flt f 14 t) 11 (by decide) h)
  have e2:Kn.flt (Kn.flt f 14 t) 11 t=Kn.flt f 14 t:=by rw [Kn.flt_flt];rfl
  rw [e2] at HW2
  generalize Kn.flt f 14 t=f1 at *
  by_cases hTl:3<T.length
  ·have dT:decide ((2:Int)<(T.length:Int) - 1)=true:=by simp;omega
   rcases hN' with dN|⟨dN,dM⟩
   ·go_enter Tryz.func42,Tryz.ntmps42
    go_wp2_with fail
    refine (HBd.out _).mono ?_
    rintro e w1 ⟨rfl,rfl⟩
    go_wp2_with fail
    refine (HIA.out _ (H.out.alloc _)).mono ?_
    rintro e w1 ⟨rfl,j1,rfl⟩
    go_wp2_with fail
    refine (HIB.out _ ((H.out.alloc _).drewN _)).mono ?_
    rintro e w1 ⟨rfl,j2,rfl⟩
    go_wp2_with fail
    refine (HW1.out _ ((H.out.alloc _).drewN _)).mono ?_
    rintro e w2 ⟨rfl,h2,k2⟩
    have p1:BX w.heap.size w2 4 N A B T (.slice aE E.length cE):=BX.keep ⟨by simp [go_sem],by simp [go_sem],by simp [go_sem],by simp [go_sem],by simp [go_sem],by simp [go_sem]⟩ k2 (by omega)
    have H2:=hide h2
    have K2:=hide ((((Kp.refl [c.g] w).alloc _).drewN _).trans k2)
    obtain ⟨q0,q2,q3,q4,q5,q6⟩:=p1
    clear h2 k2
    go_wp2_with fail
    refine (HW2.out _ H2.out).mono ?_
    rintro e w3 ⟨rfl,h3,k3⟩
    have H3:=hide h3
    have K3:=hide (K2.out.trans k3)
    clear h3 k3
    go_wp2
    go_ret
    exact ⟨[],rfl,fun _=>rfl,H3.out,K3.out⟩
   ·go_enter Tryz.func42,Tryz.ntmps42
    go_wp2_with fail
    refine (HBd.out _).mono ?_
    rintro e w1 ⟨rfl,rfl⟩
    go_wp2_with fail
    refine (HIA.out _ (H.out.alloc _)).mono ?_
    rintro e w1 ⟨rfl,j1,rfl⟩
    go_wp2_with fail
    refine (HIB.out _ ((H.out.alloc _).drewN _)).mono ?_
    rintro e w1 ⟨rfl,j2,rfl⟩
    go_wp2_with fail
    refine (HW1.out _ ((H.out.alloc _).drewN _)).mono ?_
    rintro e w2 ⟨rfl,h2,k2⟩
    have p1:BX w.heap.size w2 4 N A B T (.slice aE E.length cE):=BX.keep ⟨by simp [go_sem],by simp [go_sem],by simp [go_sem],by simp [go_sem],by simp [go_sem],by simp [go_sem]⟩ k2 (by omega)
    have H2:=hide h2
    have K2:=hide ((((Kp.refl [c.g] w).alloc _).drewN _).trans k2)
    obtain ⟨q0,q2,q3,q4,q5,q6⟩:=p1
    clear h2 k2
    go_wp2_with fail
    refine (HW2.out _ H2.out).mono ?_
    rintro e w3 ⟨rfl,h3,k3⟩
    have H3:=hide h3
    have K3:=hide (K2.out.trans k3)
    clear h3 k3
    go_wp2
    go_ret
    exact ⟨[],rfl,fun _=>rfl,H3.out,K3.out⟩
  ·have dT:decide ((2:Int)<(T.length:Int) - 1)=false:=by simp;omega
   rcases hN' with dN|⟨dN,dM⟩
   ·go_enter Tryz.func42,Tryz.ntmps42
    go_wp2_with fail
    refine (HBd.out _).mono ?_
    rintro e w1 ⟨rfl,rfl⟩
    go_wp2_with fail
    refine (HIA.out _ (H.out.alloc _)).mono ?_
    rintro e w1 ⟨rfl,j1,rfl⟩
    go_wp2_with fail
    refine (HIB.out _ ((H.out.alloc _).drewN _)).mono ?_
    rintro e w1 ⟨rfl,j2,rfl⟩
    go_wp2_with fail
    refine (HW1.out _ ((H.out.alloc _).drewN _)).mono ?_
    rintro e w2 ⟨rfl,h2,k2⟩
    have p1:BX w.heap.size w2 4 N A B T (.slice aE E.length cE):=BX.keep ⟨by simp [go_sem],by simp [go_sem],by simp [go_sem],by simp [go_sem],by simp [go_sem],by simp [go_sem]⟩ k2 (by omega)
    have H2:=hide h2
    have K2:=hide ((((Kp.refl [c.g] w).alloc _).drewN _).trans k2)
    obtain ⟨q0,q2,q3,q4,q5,q6⟩:=p1
    clear h2 k2
    go_wp2
    go_ret
    exact ⟨[],rfl,fun _=>rfl,H2.out,K2.out⟩
   ·go_enter Tryz.func42,Tryz.ntmps42
    go_wp2_with fail
    refine (HBd.out _).mono ?_
    rintro e w1 ⟨rfl,rfl⟩
    go_wp2_with fail
    refine (HIA.out _ (H.out.alloc _)).mono ?_
    rintro e w1 ⟨rfl,j1,rfl⟩
    go_wp2_with fail
    refine (HIB.out _ ((H.out.alloc _).drewN _)).mono ?_
    rintro e w1 ⟨rfl,j2,rfl⟩
    go_wp2_with fail
    refine (HW1.out _ ((H.out.alloc _).drewN _)).mono ?_
    rintro e w2 ⟨rfl,h2,k2⟩
    have p1:BX w.heap.size w2 4 N A B T (.slice aE E.length cE):=BX.keep ⟨by simp [go_sem],by simp [go_sem],by simp [go_sem],by simp [go_sem],by simp [go_sem],by simp [go_sem]⟩ k2 (by omega)
    have H2:=hide h2
    have K2:=hide ((((Kp.refl [c.g] w).alloc _).drewN _).trans k2)
    obtain ⟨q0,q2,q3,q4,q5,q6⟩:=p1
    clear h2 k2
    go_wp2
    go_ret
    exact ⟨[],rfl,fun _=>rfl,H2.out,K2.out⟩
 ·rw [if_neg hN]
  have dN:decide (N<1)=false:=by simp;omega
  have dM:decide (5<N)=false:=by simp;omega
  by_cases hTl:3<T.length
  ·have dT:decide ((2:Int)<(T.length:Int) - 1)=true:=by simp;omega
   rw [if_pos hTl]
   have HW1:=hide (HW.out 11 (by decide))
   go_enter Tryz.func42,Tryz.ntmps42
   go_wp2_with fail
   refine (HBd.out _).mono ?_
   rintro e w1 ⟨rfl,rfl⟩
   go_wp2_with fail
   refine (HIA.out _ (H.out.alloc _)).mono ?_
   rintro e w1 ⟨rfl,j1,rfl⟩
   go_wp2_with fail
   refine (HIB.out _ ((H.out.alloc _).drewN _)).mono ?_
   rintro e w1 ⟨rfl,j2,rfl⟩
   go_wp2_with fail
   refine (HW1.out _ ((H.out.alloc _).drewN _)).mono ?_
   rintro e w2 ⟨rfl,h2,k2⟩
   have p1:BX w.heap.size w2 4 N A B T (.slice aE E.length cE):=BX.keep ⟨by simp [go_sem],by simp [go_sem],by simp [go_sem],by simp [go_sem],by simp [go_sem],by simp [go_sem]⟩ k2 (by omega)
   have H2:=hide h2
   have K2:=hide ((((Kp.refl [c.g] w).alloc _).drewN _).trans k2)
   obtain ⟨q0,q2,q3,q4,q5,q6⟩:=p1
   clear h2 k2
   go_wp2
   go_ret
   exact ⟨[],rfl,fun _=>rfl,H2.out,K2.out⟩
  ·have dT:decide ((2:Int)<(T.length:Int) - 1)=false:=by simp;omega
   rw [if_neg hTl,Kn.flt_zero]
   go_enter Tryz.func42,Tryz.ntmps42
   go_wp2_with fail
   refine (HBd.out _).mono ?_
   rintro e w1 ⟨rfl,rfl⟩
   go_wp2_with fail
   refine (HIA.out _ (H.out.alloc _)).mono ?_
   rintro e w1 ⟨rfl,j1,rfl⟩
   go_wp2_with fail
   refine (HIB.out _ ((H.out.alloc _).drewN _)).mono ?_
   rintro e w1 ⟨rfl,j2,rfl⟩
   go_wp2
   go_ret
   exact ⟨[],rfl,fun _=>rfl,(H.out.alloc _).drewN _,((Kp.refl [c.g] w).alloc _).drewN _⟩
end Go.Proofs.YthcapfojofahkaaGreatDoor
