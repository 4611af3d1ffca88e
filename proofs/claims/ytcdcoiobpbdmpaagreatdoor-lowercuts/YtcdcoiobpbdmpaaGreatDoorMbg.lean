import Derived.Test.YtcdcoiobpbdmpaaGreatDoorMbf
import Derived.Test.YtcdcoiobpbdmpaaGreatDoorMag
import Derived.Test.YtcdcoiobpbdmpaaGreatDoorMae
import Derived.Test.YtcdcoiobpbdmpaaGreatDoorMbd
namespace Go.Proofs.YtcdcoiobpbdmpaaGreatDoor
open Go.RowKit Go.Maps Go.ChangeMaps
namespace Kn
def exs (n:Nat) (ns:List Nv):List Sx.Tr→List (List UInt8)→Int
 |d::r,t::s=>if exc n ns d t ≠ 0 then exc n ns d t else exs n ns r s
 |_,_=>0
def cho (d N:Int) (T:List UInt8):Int:=if d ≠ 4 then 0 else if N<1∨5<N then 14 else if Rn.isT T 2=false then 11 else 0
def scp (n:Nat) (ab:List Sx.Tr) (ns bd V:List Nv) (d N:Int) (A T:List UInt8) (E:List Sx.Tr) (u:Int):Int:=
 if twiceP bd V then 9 else if u ≠ 0 then u else match wtd ns ab d A E.length with
  | .inr k=>k
  | .inl ts=>if exs n ns E ts ≠ 0 then exs n ns E ts else cho d N T
theorem wtd_code {ns:List Nv} {ab:List Sx.Tr} {d:Int} {A:List UInt8} {m:Nat} {k:Int} (h:wtd ns ab d A m= .inr k):k ≠ 0:=by
 unfold wtd at h
 split at h
 ·cases h
 ·split at h
  ·split at h
   ·cases h;decide
   ·split at h
    ·cases h;decide
    ·cases h
  ·cases h
end Kn
structure BQ (b:Nat) (w:World) (d at' N:Int) (A B T:List UInt8) (uE uB uL:Value):Prop where
 q0:w.cell? ⟨b,0,none⟩=some (.int .i64 d)
 q1:w.cell? ⟨b,1,none⟩=some (.int .i64 at')
 q2:w.cell? ⟨b,2,none⟩=some (.string (bs A))
 q3:w.cell? ⟨b,3,none⟩=some (.string (bs B))
 q4:w.cell? ⟨b,4,none⟩=some (.string (bs T))
 q5:w.cell? ⟨b,5,none⟩=some (.int .i64 N)
 q6:w.cell? ⟨b,6,none⟩=some uE
 q7:w.cell? ⟨b,7,none⟩=some uB
 q8:w.cell? ⟨b,8,none⟩=some uL
theorem BQ.keep {S:List Nat} {b:Nat} {w w':World} {d at' N:Int} {A B T:List UInt8} {uE uB uL:Value} (h:BQ b w d at' N A B T uE uB uL) (hk:Kp S w w') (hb:b ∉ S):BQ b w' d at' N A B T uE uB uL:=
 ⟨hk.some h.q0 hb,hk.some h.q1 hb,hk.some h.q2 hb,hk.some h.q3 hb,hk.some h.q4 hb,hk.some h.q5 hb,hk.some h.q6 hb,hk.some h.q7 hb,hk.some h.q8 hb⟩
theorem BQ.new (w:World) (d at' N:Int) (A B T:List UInt8) (uE uB uL:Value) (t:TypeId):BQ w.heap.size (w.alloc (.cells #[.int .i64 d,.int .i64 at',.string (bs A),.string (bs B),.string (bs T),.int .i64 N,uE,uB,uL] t)) d at' N A B T uE uB uL:=
 ⟨by simp [go_sem],by simp [go_sem],by simp [go_sem],by simp [go_sem],by simp [go_sem],by simp [go_sem],by simp [go_sem],by simp [go_sem],by simp [go_sem]⟩
set_option maxRecDepth 100000 in
set_option maxHeartbeats 4000000 in
theorem stmtCode_any' (c:Kg) (m:Nat) (w:World) (P:Nat→Prop) (ab:List Sx.Tr) (d at':Int) (A B T:List UInt8) (N:Int) (E body els:List Sx.Tr) (aE:Option Addr) (cE:Nat) (uB uL vv:Value) (bd ns V:List Kn.Nv) (aV:Option Addr) (cV:Nat) (t:Nat)
  (d1:1≤d) (d2:d≤14) (hA:A.length≤12) (hB:B.length≤12) (hTl:T.length≤4) (hE:E.length≤6) (h1:d ≠ 10→E.length≤1) (hV:VR w (.slice aV V.length cV) V) (hVl:V.length≤2) (hVz: ∀ v,v ∈ V→v.1.length≤1000000)
  (hx: ∀ (i:Nat) x,E[i]? =some x→Rn.xf (m+1) x=0) (hEL:EL w P (m+1) E (.slice aE E.length cE))
  (hg: ∀ nm g,Kn.abv ab nm=some g→(Sx.gP g).length≤1000000) (hab:ABv c w P ab) (hs:Kn.Sb ns bd) (hty:(Kn.typ ns A).length≤1000000) (h:KS c w vv bd (Kn.fkn ns bd) t):
  Calls Tryz.prog 107 #[.pointer (some ⟨c.g,0,none⟩),.agg #[.int .i64 d,.int .i64 at',.string (bs A),.string (bs B),.string (bs T),.int .i64 N,.slice aE E.length cE,uB,uL],.slice aV V.length cV] w fun e w'=>
   e= .returned (.int .i64 (Kn.scp (m+1) ab ns bd V d N A T E (Kn.usedF ns (Sx.tS d at' A B T N E body els))))∧Kp [] w w':=by
 have H:=hide h
 have SB:=hide hs
 have HAB:=hide hab
 have HE:=hide hEL
 have HX:=hide hx
 have HVV:=hide hV
 have HR:=hide (fun w' (hk:Kp [] w w')=>kRepeats_any c w' vv bd (Kn.fkn ns bd) t V aV cV (H.out.kp hk) (by
  obtain ⟨a0,c0,e0,f0⟩:=HVV.out
  exact ⟨a0,c0,e0,fun hn=>by obtain ⟨g,o,h3,h4⟩:=f0 hn;exact ⟨g,o,h3,fun k x hx=>⟨hk.some (h4 k x hx).1 (by simp),hk.some (h4 k x hx).2 (by simp)⟩⟩⟩) (by omega) hVz)
 have HU:=hide (fun w' (hk:Kp [] w w')=>used_any d d1 d2 c w' at' A B T N E body els (.slice aE E.length cE) uB uL vv bd ns t hA hB SB.out (H.out.kp hk))
 have HW:=hide (fun w' (hk:Kp [] w w')=>wanted_any c w' P ab d at' A B T N E aE cE uB uL vv bd ns t hA hE hg (HAB.out.keep hk (by simp)) SB.out hty (H.out.kp hk))
 clear h hs hab hEL hx hV
 generalize Kn.usedF ns (Sx.tS d at' A B T N E body els)=U at *
 have HQ:Hid (Kn.scp (m+1) ab ns bd V d N A T E U=if Kn.twiceP bd V then 9 else if U ≠ 0 then U else match Kn.wtd ns ab d A E.length with
  | .inr k=>k
  | .inl ts=>if Kn.exs (m+1) ns E ts ≠ 0 then Kn.exs (m+1) ns E ts else Kn.cho d N T):=rfl
 generalize Kn.scp (m+1) ab ns bd V d N A T E U=R at *
 cases htw:Kn.twiceP bd V with
 |true=>
  rw [htw] at HR HQ
  obtain rfl:R=9:=HQ.out
  clear HQ htw
  go_enter Tryz.func107,Tryz.ntmps107
  go_wp2_with fail
  refine (HR.out _ ((Kp.refl _ _).alloc _)).mono ?_
  rintro e w1 ⟨rfl,k1⟩
  have K1:=hide (((Kp.refl [] w).alloc _).trans k1)
  clear k1
  go_wp2
  go_ret
  exact ⟨rfl,K1.out⟩
 |false=>
  rw [htw] at HR HQ
  by_cases hU:U=0
  ·subst hU
   have HQ2:Hid (R=match Kn.wtd ns ab d A E.length with
    | .inr k=>k
    | .inl ts=>if Kn.exs (m+1) ns E ts ≠ 0 then Kn.exs (m+1) ns E ts else Kn.cho d N T):=hide HQ.out
   have HWC:Hid (∀ k,Kn.wtd ns ab d A E.length= .inr k→k ≠ 0):=hide (fun k hk=>Kn.wtd_code hk)
   have HWL:Hid (∀ ts,Kn.wtd ns ab d A E.length= .inl ts→E.length≤ts.length):=hide (fun ts hts=>by
    unfold Kn.wtd at hts
    split at hts
    ·rename_i h6;cases hts;exact h1 (by omega)
    ·split at hts
     ·split at hts
      ·cases hts
      ·split at hts
       ·cases hts
       ·rename_i hn;cases hts;simp;omega
     ·rename_i h10;cases hts;exact h1 h10)
   clear HQ htw
   cases hwt:Kn.wtd ns ab d A E.length with
   |inr k=>
    rw [hwt] at HW HQ2
    have hk:=HWC.out k hwt
    obtain rfl:R=k:=HQ2.out
    clear HQ2 HWL HWC hwt
    go_enter Tryz.func107,Tryz.ntmps107
    go_wp2_with fail
    refine (HR.out _ ((Kp.refl _ _).alloc _)).mono ?_
    rintro e w1 ⟨rfl,k1⟩
    have K1:=hide (((Kp.refl [] w).alloc _).trans k1)
    obtain ⟨q0,q1,q2,q3,q4,q5,q6,q7,q8⟩:=(BQ.new w d at' N A B T (.slice aE E.length cE) uB uL 75).keep k1 (by simp)
    clear k1
    go_wp2_with fail
    refine (HU.out _ K1.out).mono ?_
    rintro e w2 ⟨rfl,k2⟩
    have K2:=hide (K1.out.trans k2)
    obtain ⟨p0,p1,p2,p3,p4,p5,p6,p7,p8⟩:=BQ.keep ⟨q0,q1,q2,q3,q4,q5,q6,q7,q8⟩ k2 (by simp)
    clear k2 q0 q1 q2 q3 q4 q5 q6 q7 q8
    go_wp2_with fail
    refine (HW.out _ K2.out).mono ?_
    rintro e w3 ⟨tv,k3,rfl,kk,hp⟩
    have K3:=hide (K2.out.trans kk)
    obtain ⟨q0,q1,q2,q3,q4,q5,q6,q7,q8⟩:=BQ.keep ⟨p0,p1,p2,p3,p4,p5,p6,p7,p8⟩ kk (by simp)
    clear kk p0 p1 p2 p3 p4 p5 p6 p7 p8
    obtain ⟨⟨ax,nx,cx,rfl⟩,rfl⟩:=hp
    have qk:(k3 !=0)=true:=by simpa using hk
    go_wp2
    go_ret
    exact ⟨rfl,K3.out⟩
   |inl ts=>
    rw [hwt] at HW HQ2
    have HEl:=hide (HWL.out ts hwt)
    have HQ3:Hid (R=if Kn.exs (m+1) ns E ts ≠ 0 then Kn.exs (m+1) ns E ts else Kn.cho d N T):=hide HQ2.out
    clear HQ2 HWL HWC hwt
    go_enter Tryz.func107,Tryz.ntmps107
    go_wp2_with fail
    refine (HR.out _ ((Kp.refl _ _).alloc _)).mono ?_
    rintro e w1 ⟨rfl,k1⟩
    have K1:=hide (((Kp.refl [] w).alloc _).trans k1)
    obtain ⟨q0,q1,q2,q3,q4,q5,q6,q7,q8⟩:=(BQ.new w d at' N A B T (.slice aE E.length cE) uB uL 75).keep k1 (by simp)
    clear k1
    go_wp2_with fail
    refine (HU.out _ K1.out).mono ?_
    rintro e w2 ⟨rfl,k2⟩
    have K2:=hide (K1.out.trans k2)
    obtain ⟨p0,p1,p2,p3,p4,p5,p6,p7,p8⟩:=BQ.keep ⟨q0,q1,q2,q3,q4,q5,q6,q7,q8⟩ k2 (by simp)
    clear k2 q0 q1 q2 q3 q4 q5 q6 q7 q8
    go_wp2_with fail
    refine (HW.out _ K2.out).mono ?_
    rintro e w3 ⟨tv,k3,rfl,kk,hp⟩
    have K3:=hide (K2.out.trans kk)
    obtain ⟨q0,q1,q2,q3,q4,q5,q6,q7,q8⟩:=BQ.keep ⟨p0,p1,p2,p3,p4,p5,p6,p7,p8⟩ kk (by simp)
    clear kk p0 p1 p2 p3 p4 p5 p6 p7 p8
    obtain ⟨⟨ax,cx,rfl,hts⟩,rfl⟩:=hp
    have HTS:=hide hts
    clear hts
    go_wp2
    go_loopw [36] (fun iv wr=> ∃ i:Nat,i≤E.length∧iv= .int .i64 i∧Hid (Kn.exs (m+1) ns E ts=Kn.exs (m+1) ns (E.drop i) (ts.drop i))∧Hid (Kp [] w3 wr)) (fun iv _=>E.length - (intOf iv).toNat)
    case atStart=>exact ⟨0,Nat.zero_le _,rfl,rfl,hide (Kp.refl _ _)⟩
    case round=>
     obtain ⟨i,hil,rfl,HF,HK⟩:=hrel
     by_cases hlt:i<E.length
     ·have d1:decide ((i:Int)<(E.length:Int))=true:=by simp;omega
      obtain ⟨b,off,op1,nm1,z1,L1,aL,cL,rfl,-,hd,m0,m1,m2,m3,hL⟩:=(HE.out.keep (K3.out.trans HK.out) (by simp)).nth i hlt
      have hit:i<ts.length:=Nat.lt_of_lt_of_le hlt HEl.out
      obtain ⟨ty,hty2⟩: ∃ ty,ts[i]? =some ty:=⟨_,List.getElem?_eq_getElem hit⟩
      obtain ⟨gt,ot,rfl,hct⟩:=HTS.out (fun e=>by rw [e] at hty2;cases hty2)
      have y0:=HK.out.some (hct i ty hty2) (by simp)
      have HXi:=hide (HX.out i _ hd)
      have HLe:=hide hL
      have HC:=hide (fun w' (hk:Kp [] wr w')=>kExpr_any c m w' P op1 z1 nm1 ty L1 aL cL vv bd ns t (HLe.out.keep hk (by simp)) HXi.out SB.out (H.out.kp (K3.out.trans (HK.out.trans hk))))
      have HFF:Hid (Kn.exs (m+1) ns E ts=if Kn.exc (m+1) ns (Sx.tE op1 nm1 z1 L1) ty ≠ 0 then Kn.exc (m+1) ns (Sx.tE op1 nm1 z1 L1) ty else Kn.exs (m+1) ns (E.drop (i+1)) (ts.drop (i+1))):=hide (by rw [HF.out,drop_nth hd,drop_nth hty2];rfl)
      have hk0:(0:Int)≤(i:Int):=by omega
      have hk1:(i:Int)<(E.length:Int):=by omega
      have hk2:(i:Int)<(ts.length:Int):=by omega
      generalize Kn.exc (m+1) ns (Sx.tE op1 nm1 z1 L1) ty=C at *
      clear hL hd hct hty2 HTS
      by_cases hC:C=0
      ·subst hC
       go_wp2
       go_region_held3 (fun w'=>w'.cell? ⟨wr.heap.size,0,none⟩=some (.int .i64 op1)∧w'.cell? ⟨wr.heap.size,1,none⟩=some (.string (bs nm1))∧w'.cell? ⟨wr.heap.size,2,none⟩=some (.int .i64 z1)∧w'.cell? ⟨wr.heap.size,3,none⟩=some (.slice aL L1.length cL)∧w'.cell? ⟨gt,ot+i,none⟩=some (.string (bs ty))) ((first|exact ⟨by assumption,by assumption,by assumption,by assumption,by assumption⟩|go_keep))
        ((go_at_call 137;refine (HC.out _ (by exact ((Kp.refl _ _).alloc _).drewN 1)).mono ?_;rintro e w4 ⟨rfl,k4⟩;have K4:=hide ((((Kp.refl [] wr).alloc _).drewN 1).trans k4);have s0:=k4.some (p:=⟨wr.heap.size,0,none⟩) (v:= .int .i64 op1) (by simp [go_sem]) (by simp);have s1:=k4.some (p:=⟨wr.heap.size,1,none⟩) (v:= .string (bs nm1)) (by simp [go_sem]) (by simp);have s2:=k4.some (p:=⟨wr.heap.size,2,none⟩) (v:= .int .i64 z1) (by simp [go_sem]) (by simp);have s3:=k4.some (p:=⟨wr.heap.size,3,none⟩) (v:= .slice aL L1.length cL) (by simp [go_sem]) (by simp);have s4:=K4.out.some y0 (by simp);clear k4))
       all_goals
        go_wp2
        go_roundw
        case rel=>exact ⟨i+1,by omega,by go_num,hide (by rw [HFF.out,if_neg (by simp)]),hide (HK.out.trans K4.out)⟩
        case measure=>simp [intOf];omega
      ·have q3:(C !=0)=true:=by simpa using hC
       have e1:R=C:=by rw [HQ3.out,HFF.out,if_pos hC,if_pos hC]
       subst e1
       clear HFF hC HQ3
       go_wp2
       go_region_held3 (fun w'=>w'.cell? ⟨wr.heap.size,0,none⟩=some (.int .i64 op1)∧w'.cell? ⟨wr.heap.size,1,none⟩=some (.string (bs nm1))∧w'.cell? ⟨wr.heap.size,2,none⟩=some (.int .i64 z1)∧w'.cell? ⟨wr.heap.size,3,none⟩=some (.slice aL L1.length cL)∧w'.cell? ⟨gt,ot+i,none⟩=some (.string (bs ty))) ((first|exact ⟨by assumption,by assumption,by assumption,by assumption,by assumption⟩|go_keep))
        ((go_at_call 137;refine (HC.out _ (by exact ((Kp.refl _ _).alloc _).drewN 1)).mono ?_;rintro e w4 ⟨rfl,k4⟩;have K4:=hide ((((Kp.refl [] wr).alloc _).drewN 1).trans k4);have s0:=k4.some (p:=⟨wr.heap.size,0,none⟩) (v:= .int .i64 op1) (by simp [go_sem]) (by simp);have s1:=k4.some (p:=⟨wr.heap.size,1,none⟩) (v:= .string (bs nm1)) (by simp [go_sem]) (by simp);have s2:=k4.some (p:=⟨wr.heap.size,2,none⟩) (v:= .int .i64 z1) (by simp [go_sem]) (by simp);have s3:=k4.some (p:=⟨wr.heap.size,3,none⟩) (v:= .slice aL L1.length cL) (by simp [go_sem]) (by simp);have s4:=K4.out.some y0 (by simp);clear k4))
       all_goals
        go_wp2
        go_ret
        exact ⟨rfl,K3.out.trans (HK.out.trans K4.out)⟩
     ·obtain rfl:i=E.length:=by omega
      have d1:decide ((E.length:Int)<(E.length:Int))=false:=by simp
      have e0:R=Kn.cho d N T:=by
       rw [HQ3.out,HF.out,List.drop_length]
       have:Kn.exs (m+1) ns [] (ts.drop E.length)=0:=by unfold Kn.exs;rfl
       rw [this,if_neg (by simp)]
      clear HQ3 HF
      obtain ⟨p0,p1,p2,p3,p4,p5,p6,p7,p8⟩:=BQ.keep ⟨q0,q1,q2,q3,q4,q5,q6,q7,q8⟩ HK.out (by simp)
      unfold Kn.cho at e0
      by_cases h4:d=4
      ·have g4:(d !=4)=false:=by simpa using h4
       rw [if_neg (by simpa using h4)] at e0
       by_cases hN:N<1∨5<N
       ·rw [if_pos hN] at e0
        subst e0
        by_cases hN1:N<1
        ·have g5:decide (N<1)=true:=by simpa using hN1
         clear h4 hN hN1
         go_wp2
         go_ret
         exact ⟨rfl,K3.out.trans HK.out⟩
        ·have g5:decide (N<1)=false:=by simpa using hN1
         have g6:decide (5<N)=true:=by simp;omega
         clear h4 hN hN1
         go_wp2
         go_ret
         exact ⟨rfl,K3.out.trans HK.out⟩
       ·rw [if_neg hN] at e0
        have g5:decide (N<1)=false:=by simp;omega
        have g6:decide (5<N)=false:=by simp;omega
        have HTy:=hide (fun w'=>rType_any T 2 w' (by omega))
        clear h4 hN
        cases hi:Rn.isT T 2 with
        |true=>
         rw [hi] at HTy e0
         obtain rfl:R=0:=e0
         clear hi
         go_wp2_with fail
         refine (HTy.out _).mono ?_
         rintro e w4 ⟨rfl,k4⟩
         have K4:=hide k4
         clear k4
         go_wp2
         go_ret
         exact ⟨rfl,K3.out.trans (HK.out.trans K4.out)⟩
        |false=>
         rw [hi] at HTy e0
         obtain rfl:R=11:=e0
         clear hi
         go_wp2_with fail
         refine (HTy.out _).mono ?_
         rintro e w4 ⟨rfl,k4⟩
         have K4:=hide k4
         clear k4
         go_wp2
         go_ret
         exact ⟨rfl,K3.out.trans (HK.out.trans K4.out)⟩
      ·have g4:(d !=4)=true:=by simpa using h4
       rw [if_pos h4] at e0
       subst e0
       clear h4
       go_wp2
       go_ret
       exact ⟨rfl,K3.out.trans HK.out⟩
  ·have hR:R=U:=by rw [HQ.out,if_neg (by simp),if_pos hU]
   subst hR
   have qU:(R !=0)=true:=by simpa using hU
   clear HQ hU htw HW
   go_enter Tryz.func107,Tryz.ntmps107
   go_wp2_with fail
   refine (HR.out _ ((Kp.refl _ _).alloc _)).mono ?_
   rintro e w1 ⟨rfl,k1⟩
   have K1:=hide (((Kp.refl [] w).alloc _).trans k1)
   obtain ⟨q0,q1,q2,q3,q4,q5,q6,q7,q8⟩:=(BQ.new w d at' N A B T (.slice aE E.length cE) uB uL 75).keep k1 (by simp)
   clear k1
   go_wp2_with fail
   refine (HU.out _ K1.out).mono ?_
   rintro e w2 ⟨rfl,k2⟩
   have K2:=hide (K1.out.trans k2)
   obtain ⟨p0,p1,p2,p3,p4,p5,p6,p7,p8⟩:=BQ.keep ⟨q0,q1,q2,q3,q4,q5,q6,q7,q8⟩ k2 (by simp)
   clear k2 q0 q1 q2 q3 q4 q5 q6 q7 q8
   go_wp2
   go_ret
   exact ⟨rfl,K2.out⟩
end Go.Proofs.YtcdcoiobpbdmpaaGreatDoor
namespace Go.Proofs.YtcdcoiobpbdmpaaGreatDoor.Kn
open Go.Proofs.YtcdcoiobpbdmpaaGreatDoor Go.Proofs.YtcdcoiobpbdmpaaGreatDoor.Sx
def Tyv (l:List Nv):Prop:= ∀ v,v ∈ l→Rn.sides v.2=true∧v.2.length≤4∧v.1.length≤12
theorem sides_head {t:List UInt8} (h:Rn.sides t=true) (hh:t.head? =some 105):t=[105]:=by
 match t,h,hh with
 |[b],_,hh=>simp at hh;rw [hh]
 |b::c::r,h,hh=>
  simp at hh
  subst hh
  have:((105:UInt8) == 115 || (105:UInt8) == 114) && Rn.sides (c::r)=true:=h
  simp at this
theorem sides_tail {t:List UInt8} {b:UInt8} (h:Rn.sides t=true) (hb:t.head? =some b) (hne:b ≠ 105):Rn.sides t.tail=true:=by
 match t,h,hb with
 |[x],h,hb=>
  simp at hb
  subst hb
  have:(x == 105)=true:=h
  exact absurd (by simpa using this) hne
 |x::c::r,h,_=>
  have:((x == 115 || x == 114) && Rn.sides (c::r))=true:=h
  rw [Bool.and_eq_true] at this
  exact this.2
theorem typ_i {ns:List Nv} (h:Tyv ns) {nm:List UInt8} (hh:(typ ns nm).head? =some 105):typ ns nm=[105]:=by
 cases hi:isIn ns nm with
 |false=>rw [typ_not hi] at hh;cases hh
 |true=>
  obtain ⟨v,h1,_,h3⟩:=typ_mem hi
  rw [h3] at hh ⊢
  exact sides_head (h v h1).1 hh
theorem typ_len {ns:List Nv} (h:Tyv ns) (nm:List UInt8):(typ ns nm).length≤4:=by
 cases hi:isIn ns nm with
 |false=>rw [typ_not hi];simp
 |true=>
  obtain ⟨v,h1,_,h3⟩:=typ_mem hi
  rw [h3]
  exact (h v h1).2.1
theorem typ_sides {ns:List Nv} (h:Tyv ns) {nm:List UInt8} (hn:typ ns nm ≠ []):Rn.sides (typ ns nm)=true:=by
 cases hi:isIn ns nm with
 |false=>rw [typ_not hi] at hn;exact absurd rfl hn
 |true=>
  obtain ⟨v,h1,_,h3⟩:=typ_mem hi
  rw [h3]
  exact (h v h1).1
theorem tc_i {ns:List Nv} (h:Tyv ns) (nm:List UInt8):tc ns nm [105]=mst ns nm 105:=by
 unfold tc mst
 by_cases h0:typ ns nm=[]
 ·rw [if_pos h0,if_pos h0]
 ·rw [if_neg h0,if_neg h0]
  by_cases h1:typ ns nm=[105]
  ·rw [if_neg (by simpa using h1),if_neg (by rw [h1];simp)]
  ·rw [if_pos h1,if_pos (fun hh=>h1 (typ_i h hh))]
theorem firstOf_congr {α:Type} {f g:α→Int}: ∀ {l:List α},(∀ x ∈ l,f x=g x)→Rn.firstOf f l=Rn.firstOf g l
 |[],_=>rfl
 |x::r,h=>by
  show (if f x ≠ 0 then f x else Rn.firstOf f r)=(if g x ≠ 0 then g x else Rn.firstOf g r)
  rw [h x List.mem_cons_self,firstOf_congr (l:=r) (fun y hy=>h y (List.mem_cons_of_mem _ hy))]
theorem xk' {n:Nat} {d:Tr} (h:Rn.xf (n+1) d=0):((eH d).1=2→eL d=[])∧ ∀ x ∈ eL d,Rn.xf n x=0:=by
 have hx:Rn.xf (n+1) d=if (eH d).1<1∨8<(eH d).1∨(eL d).length ≠ Rn.want (eH d).1∨((eH d).2.2 ≠ 0∧(eH d).1 ≠ 1)∨((eH d).2.1 ≠ []∧(eH d).1 ≠ 2) then (5:Int)
   else if (eH d).1=2∧Tk.isN (eH d).2.1=false then 4
   else if (eH d).2.2<0∨1000000000000000000≤(eH d).2.2 then 3
   else Rn.firstOf (Rn.xf n) (eL d):=rfl
 rw [hx] at h
 split at h
 ·cases h
 rename_i hb
 split at h
 ·cases h
 split at h
 ·cases h
 have hs:=Rn.firstOf_zero h
 have hw:(eL d).length=Rn.want (eH d).1:=Decidable.byContradiction fun hc=>hb (.inr (.inr (.inl hc)))
 exact ⟨fun h2=>by rw [h2] at hw;exact List.length_eq_zero_iff.1 hw,hs⟩
theorem exc_num {ns:List Nv} (hT:Tyv ns): ∀ (n:Nat) (d:Tr),Rn.xf n d=0→exc n ns d [105]=num n ns d:=by
 intro n
 induction n with
 |zero=>intro d _;rfl
 |succ n ih=>
  intro d h
  obtain ⟨h2,hr⟩:=xk' h
  show (if (eH d).1=2 then tc ns (eH d).2.1 [105] else if ([105]:List UInt8) ≠ [105] then 11 else Rn.firstOf (fun x=>exc n ns x [105]) (eL d))=
   (if (if (eH d).1=2 then mst ns (eH d).2.1 105 else 0) ≠ 0 then mst ns (eH d).2.1 105 else Rn.firstOf (num n ns) (eL d))
  by_cases o2:(eH d).1=2
  ·rw [if_pos o2,if_pos o2,tc_i hT,h2 o2]
   show _=if mst ns (eH d).2.1 105 ≠ 0 then mst ns (eH d).2.1 105 else 0
   by_cases hm:mst ns (eH d).2.1 105=0
   ·rw [hm];rfl
   ·rw [if_pos hm]
  ·rw [if_neg o2,if_neg (by simp),if_neg o2,if_neg (by simp)]
   exact firstOf_congr (fun x hx=>ih x (hr x hx))
theorem exc_thg {ns:List Nv} (hT:Tyv ns) (n:Nat) (d:Tr) (t:List UInt8) (h:Rn.xf (n+1) d=0):exc (n+1) ns d t=thg (n+1) ns d t:=by
 unfold thg
 by_cases ht:t=[105]
 ·rw [if_pos ht,ht,exc_num hT _ _ h]
 ·rw [if_neg ht]
  show (if (eH d).1=2 then tc ns (eH d).2.1 t else if t ≠ [105] then 11 else _)=_
  by_cases o2:(eH d).1=2
  ·rw [if_pos o2,if_neg (by simpa using o2)]
   rfl
  ·rw [if_neg o2,if_pos ht,if_pos o2]
theorem exs_thgs {ns:List Nv} (hT:Tyv ns) (n:Nat): ∀ (E:List Tr) (ts:List (List UInt8)),(∀ x ∈ E,Rn.xf (n+1) x=0)→exs (n+1) ns E ts=thgs (n+1) ns E ts
 |[],_,_=>by unfold exs thgs;rfl
 |_::_,[],_=>by unfold exs thgs;rfl
 |d::r,t::s,h=>by
  show (if exc (n+1) ns d t ≠ 0 then exc (n+1) ns d t else exs (n+1) ns r s)=(if thg (n+1) ns d t ≠ 0 then thg (n+1) ns d t else thgs (n+1) ns r s)
  rw [exc_thg hT n d t (h d List.mem_cons_self),exs_thgs hT n r s (fun x hx=>h x (List.mem_cons_of_mem _ hx))]
theorem exs_one {ns:List Nv} (hT:Tyv ns) (n:Nat) (E:List Tr) (h: ∀ x ∈ E,Rn.xf (n+1) x=0) (hl:E.length≤1):exs (n+1) ns E [[105]]=Rn.firstOf (num (n+1) ns) E:=by
 match E,h,hl with
 |[],_,_=>unfold exs;rfl
 |[d],h,_=>
  show (if exc (n+1) ns d [105] ≠ 0 then exc (n+1) ns d [105] else exs (n+1) ns [] [])=(if num (n+1) ns d ≠ 0 then num (n+1) ns d else 0)
  rw [exc_num hT _ d (h d List.mem_cons_self)]
  have:exs (n+1) ns [] ([]:List (List UInt8))=0:=by unfold exs;rfl
  rw [this]
theorem twice_bnp (bd ns:List Nv) (d at' N:Int) (A B T:List UInt8) (E body els:List Tr):twiceP bd (bnp ns d A B T)=twice bd (tS d at' A B T N E body els):=by
 have e1: ∀ v:Nv,twiceP bd [v]=isIn bd v.1:=fun v=>by show (isIn bd v.1 || false)=_;rw [Bool.or_false]
 show _=(binding d && (isIn bd A || (d == 4 && (isIn bd B || A == B))))
 unfold bnp binding
 by_cases h1:d=1
 ·subst h1;rw [if_pos rfl,e1];simp
 rw [if_neg h1]
 by_cases h4:d=4
 ·subst h4
  rw [if_pos rfl]
  show (isIn bd A || (isIn (bd++[(A,115::T)]) B || false))=_
  rw [Bool.or_false,isIn_app,isIn_one]
  have:(A == B)=decide (A=B):=by by_cases h:A=B<;> simp [h]
  rw [this]
  simp
 rw [if_neg h4]
 by_cases h5:d=5
 ·subst h5;rw [if_pos rfl,e1];simp
 rw [if_neg h5]
 by_cases h11:d=11∨d=12
 ·rw [if_pos h11,e1]
  rcases h11 with rfl|rfl<;> simp
 ·rw [if_neg h11]
  have q1:(d == 1)=false:=by simpa using h1
  have q4:(d == 4)=false:=by simpa using h4
  have q5:(d == 5)=false:=by simpa using h5
  have q11:(d == 11)=false:=by simpa using fun e=>h11 (.inl e)
  have q12:(d == 12)=false:=by simpa using fun e=>h11 (.inr e)
  rw [q1,q4,q5,q11,q12]
  rfl
theorem mst_head {ns:List Nv} {nm:List UInt8} {b:UInt8} (h:mst ns nm b=0):(typ ns nm).head? =some b:=by
 unfold mst at h
 split at h
 ·cases h
 ·split at h
  ·cases h
  ·rename_i h2;exact Decidable.byContradiction h2
theorem trm_tail {ns:List Nv} {nm:List UInt8} {b:UInt8} (h:mst ns nm b=0):trm (typ ns nm) b=(typ ns nm).tail:=if_pos (mst_head h)
theorem scp_sc {ns:List Nv} (hT:Tyv ns) (m:Nat) (ab:List Tr) (bd:List Nv) {d N at':Int} {A B T:List UInt8} {E body els:List Tr} (f:Rn.Okf (m+1) d A B T N E body els):
  scp (m+1) ab ns bd (bnp ns d A B T) d N A T E (usedF ns (tS d at' A B T N E body els))=sc (m+1) ab ns bd (tS d at' A B T N E body els):=by
 have hx: ∀ x ∈ E,Rn.xf (m+1) x=0:=fun x hx=>by obtain ⟨i,hi⟩:=List.mem_iff_getElem?.1 hx;exact f.xs i x hi
 unfold scp sc
 rw [twice_bnp bd ns d at' N A B T E body els]
 by_cases ht:twice bd (tS d at' A B T N E body els)=true
 ·rw [if_pos ht,if_pos ht]
 rw [if_neg ht,if_neg ht]
 by_cases hu':usedF ns (tS d at' A B T N E body els) ≠ 0
 ·rw [if_pos hu',if_pos hu']
 rw [if_neg hu',if_neg hu']
 have hu:usedF ns (tS d at' A B T N E body els)=0:=Decidable.byContradiction hu'
 have hone:d ≠ 10→E.length≤1:=fun h=>by
  rw [f.one h]
  unfold Rn.fewE
  split<;> omega
 show (match wtd ns ab d A E.length with
  | .inr k=>k
  | .inl ts=>if exs (m+1) ns E ts ≠ 0 then exs (m+1) ns E ts else cho d N T)=
  (if d=6 then thg (m+1) ns (E.headD d0) (typ ns A).tail
   else if d=10 then match abv ab A with
    |none=>12
    |some g=>if (gP g).length ≠ E.length then 15 else thgs (m+1) ns E ((gP g).map fun p=>(pH p).2)
   else if d=4 then if N<1∨5<N then 14 else if 3<T.length then 11 else 0
   else Rn.firstOf (num (m+1) ns) E)
 have hcho:d ≠ 4→cho d N T=0:=fun h=>if_pos h
 unfold wtd
 by_cases h6:d=6
 ·subst h6
  rw [if_pos rfl,if_pos rfl]
  have hm:mst ns A 115=0:=hu
  have hl:E.length=1:=f.one (by decide)
  match E,hl,hx with
  |[e],_,hx=>
   show (if exs (m+1) ns [e] [trm (typ ns A) 115] ≠ 0 then exs (m+1) ns [e] [trm (typ ns A) 115] else cho 6 N T)=thg (m+1) ns e (typ ns A).tail
   have e1:exs (m+1) ns [e] [trm (typ ns A) 115]=thg (m+1) ns e (typ ns A).tail:=by
    rw [exs_thgs hT m _ _ hx,trm_tail hm]
    show (if thg (m+1) ns e (typ ns A).tail ≠ 0 then thg (m+1) ns e (typ ns A).tail else thgs (m+1) ns [] [])=_
    have:thgs (m+1) ns [] ([]:List (List UInt8))=0:=by unfold thgs;rfl
    rw [this]
    by_cases h0:thg (m+1) ns e (typ ns A).tail=0
    ·rw [h0];rfl
    ·rw [if_pos h0]
   rw [e1,hcho (by decide)]
   by_cases h0:thg (m+1) ns e (typ ns A).tail=0
   ·rw [h0];rfl
   ·rw [if_pos h0]
 rw [if_neg h6,if_neg h6]
 by_cases h10:d=10
 ·subst h10
  rw [if_pos rfl,if_pos rfl]
  cases abv ab A with
  |none=>rfl
  |some g=>
   dsimp only
   by_cases hl:(gP g).length ≠ E.length
   ·rw [if_pos hl,if_pos hl]
   ·rw [if_neg hl,if_neg hl]
    dsimp only
    rw [exs_thgs hT m _ _ hx,hcho (by decide)]
    by_cases h0:thgs (m+1) ns E ((gP g).map fun p=>(pH p).2)=0
    ·rw [h0];rfl
    ·rw [if_pos h0]
 rw [if_neg h10,if_neg h10]
 by_cases h4:d=4
 ·subst h4
  rw [if_pos rfl]
  have hl:E=[]:=List.length_eq_zero_iff.1 (f.one (by decide))
  subst hl
  show (if exs (m+1) ns [] [[105]] ≠ 0 then exs (m+1) ns [] [[105]] else cho 4 N T)=_
  have:exs (m+1) ns [] [[105]]=0:=by unfold exs;rfl
  rw [this,if_neg (by simp)]
  have hi:Rn.isT T 3=true:=f.tT (by decide)
  have hs:Rn.sides T=true:=by unfold Rn.isT at hi;rw [Bool.and_eq_true] at hi;exact hi.1
  show (if (4:Int) ≠ 4 then (0:Int) else if N<1∨5<N then 14 else if Rn.isT T 2=false then 11 else 0)=_
  rw [if_neg (by simp)]
  by_cases hN:N<1∨5<N
  ·rw [if_pos hN,if_pos hN]
  ·rw [if_neg hN,if_neg hN]
   have h2:Rn.isT T 2=decide (T.length≤3):=by
    unfold Rn.isT
    rw [hs,Bool.true_and]
    by_cases hl:T.length≤3
    ·rw [decide_eq_true hl,decide_eq_true (by omega)]
    ·rw [decide_eq_false hl,decide_eq_false (by omega)]
   rw [h2]
   by_cases hl:3<T.length
   ·rw [if_pos hl,if_pos (by simp;omega)]
   ·rw [if_neg hl,if_neg (by simp;omega)]
 ·rw [if_neg h4]
  dsimp only
  rw [exs_one hT m E hx (hone h10),hcho h4]
  by_cases h0:Rn.firstOf (num (m+1) ns) E=0
  ·rw [h0];rfl
  ·rw [if_pos h0]
theorem sc_used {n:Nat} {ab:List Tr} {ns bd:List Nv} {t:Tr} (h:sc n ab ns bd t=0):twice bd t=false∧usedF ns t=0∧rest n ab ns t=0:=by
 unfold sc at h
 split at h
 ·cases h
 ·rename_i h1
  split at h
  ·rename_i h2;exact absurd h h2
  ·rename_i h2
   exact ⟨by simpa using h1,Decidable.byContradiction h2,h⟩
theorem bnp_bnds {n:Nat} {ab:List Tr} {ns bd:List Nv} {d N at':Int} {A B T:List UInt8} {E body els:List Tr} (h:sc n ab ns bd (tS d at' A B T N E body els)=0):bnp ns d A B T=bnds ns (tS d at' A B T N E body els):=by
 obtain ⟨-,hu,-⟩:=sc_used h
 show _=(if d=1 then [(A,[105])] else if d=4 then [(A,115::T),(B,114::T)] else if d=5 then [(A,typ ns B)] else if d=11∨d=12 then [(A,(typ ns B).tail)] else [])
 unfold bnp
 by_cases h1:d=1
 ·rw [if_pos h1,if_pos h1]
 rw [if_neg h1,if_neg h1]
 by_cases h4:d=4
 ·rw [if_pos h4,if_pos h4]
 rw [if_neg h4,if_neg h4]
 by_cases h5:d=5
 ·rw [if_pos h5,if_pos h5]
 rw [if_neg h5,if_neg h5]
 by_cases h11:d=11∨d=12
 ·rw [if_pos h11,if_pos h11]
  have hm:mst ns B 114=0:=by rcases h11 with rfl|rfl<;> exact hu
  rw [trm_tail hm]
 ·rw [if_neg h11,if_neg h11]
theorem bnds_ok {n m:Nat} {ab:List Tr} {ns bd:List Nv} (hT:Tyv ns) {d N at':Int} {A B T:List UInt8} {E body els:List Tr} (f:Rn.Okf m d A B T N E body els) (h:sc n ab ns bd (tS d at' A B T N E body els)=0):Tyv (bnds ns (tS d at' A B T N E body els)):=by
 obtain ⟨-,hu,hr⟩:=sc_used h
 show Tyv (if d=1 then [(A,[105])] else if d=4 then [(A,115::T),(B,114::T)] else if d=5 then [(A,typ ns B)] else if d=11∨d=12 then [(A,(typ ns B).tail)] else [])
 by_cases h1:d=1
 ·rw [if_pos h1]
  intro v hv
  simp at hv
  subst hv
  subst h1
  exact ⟨rfl,by simp,Rn.isN_len (f.naA (by decide))⟩
 rw [if_neg h1]
 by_cases h4:d=4
 ·rw [if_pos h4]
  subst h4
  have hi:Rn.isT T 3=true:=f.tT (by decide)
  have hs:Rn.sides T=true:=by unfold Rn.isT at hi;rw [Bool.and_eq_true] at hi;exact hi.1
  have hl:T.length≤3:=by
   have hr':(if N<1∨5<N then (14:Int) else if 3<T.length then 11 else 0)=0:=hr
   split at hr'
   ·cases hr'
   ·split at hr'
    ·cases hr'
    ·omega
  have hc: ∀ b:UInt8,b=115∨b=114→Rn.sides (b::T)=true:=fun b hb=>by
   match T,hs with
   |c::r,hs=>
    show ((b == 115 || b == 114) && Rn.sides (c::r))=true
    rw [hs,Bool.and_true]
    rcases hb with rfl|rfl<;> rfl
  intro v hv
  simp at hv
  rcases hv with rfl|rfl
  ·exact ⟨hc 115 (.inl rfl),by simp;omega,Rn.isN_len (f.naA (by decide))⟩
  ·exact ⟨hc 114 (.inr rfl),by simp;omega,Rn.isN_len (f.naB (by decide))⟩
 rw [if_neg h4]
 by_cases h5:d=5
 ·rw [if_pos h5]
  subst h5
  have hm:mst ns B 115=0:=hu
  have hn:typ ns B ≠ []:=fun e=>by have:=mst_head hm;rw [e] at this;cases this
  intro v hv
  simp at hv
  subst hv
  exact ⟨typ_sides hT hn,typ_len hT B,Rn.isN_len (f.naA (by decide))⟩
 rw [if_neg h5]
 by_cases h11:d=11∨d=12
 ·rw [if_pos h11]
  have hm:mst ns B 114=0:=by rcases h11 with rfl|rfl<;> exact hu
  have hn:typ ns B ≠ []:=fun e=>by have:=mst_head hm;rw [e] at this;cases this
  have hA:Tk.isN A=true:=by rcases h11 with rfl|rfl<;> exact f.naA (by decide)
  have:=typ_len hT B
  intro v hv
  simp at hv
  subst hv
  exact ⟨sides_tail (typ_sides hT hn) (mst_head hm) (by decide),by simp;omega,Rn.isN_len hA⟩
 ·rw [if_neg h11]
  intro v hv
  cases hv
end Go.Proofs.YtcdcoiobpbdmpaaGreatDoor.Kn
