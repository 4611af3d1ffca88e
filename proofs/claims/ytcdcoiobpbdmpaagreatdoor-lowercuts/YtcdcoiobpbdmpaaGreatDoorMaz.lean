import Derived.Test.YtcdcoiobpbdmpaaGreatDoorMaw
namespace Go.Proofs.YtcdcoiobpbdmpaaGreatDoor
open Go.RowKit
theorem Rn.wE_nth {n:Nat} {E:List Sx.Tr} {i:Nat} {d:Sx.Tr} (h:E[i]? =some d):Sx.wE n (Sx.eL d)≤Sx.wE (n+1) E:=by
 have:=sum_nth (fun d=>Sx.wE n (Sx.eL d)) h
 show _≤E.length+_
 omega
def Rn.tl (n deep:Nat) (d:Int) (E:List Sx.Tr):Int:=if Rn.firstOf (Rn.ef n) E ≠ 0 then Rn.firstOf (Rn.ef n) E else if Rn.hasS d=true∧8≤deep then 7 else 0
theorem Rn.sf_eq (n deep:Nat) (d at':Int) (A B T:List UInt8) (k:Int) (E b o:List Sx.Tr):Rn.sf n deep (Sx.tS d at' A B T k E b o)=
  if Rn.fm d A B T k E.length b.length o.length=false then 5 else if 6<E.length then 8 else if (Rn.hasA d=true∧Tk.isN A=false)∨(Rn.hasB d=true∧Tk.isN B=false) then 4
  else if Rn.hasT d=true∧Rn.isT T 3=false then 11 else if k<0∨1000000000000000000≤k then 14 else Rn.tl n deep d E:=by
 rw [←Rn.formed_fm d at' A B T k E b o]
 rfl
theorem Rn.fm_kind {d k:Int} {A B T:List UInt8} {nE nB nL:Nat} (h:Rn.fm d A B T k nE nB nL=true):1≤d∧d≤14:=by
 unfold Rn.fm at h
 simp only [Bool.and_eq_true,decide_eq_true_eq] at h
 omega
theorem Rn.has_kinds {d:Int} (h1:1≤d) (h2:d≤14):(Rn.hasA d=false∧Rn.hasB d=false∧Rn.hasT d=false)∨(Rn.hasA d=true∧Rn.hasB d=false∧Rn.hasT d=false)∨(Rn.hasA d=true∧Rn.hasB d=true∧Rn.hasT d=false)∨(Rn.hasA d=true∧Rn.hasB d=true∧Rn.hasT d=true):=by
 rcases Rn.kinds h1 h2 with rfl|rfl|rfl|rfl|rfl|rfl|rfl|rfl|rfl|rfl|rfl|rfl|rfl|rfl
 all_goals decide
end Go.Proofs.YtcdcoiobpbdmpaaGreatDoor
namespace Go.Proofs.YtcdcoiobpbdmpaaGreatDoor
open Go.RowKit
set_option maxRecDepth 100000 in
set_option maxHeartbeats 4000000 in
theorem stmtCode_fff (n deep:Nat) (w:World) (hT:Tb w) (P:Nat→Prop) (d at' kk:Int) (A B T:List UInt8) (E:List Sx.Tr) (aE aB aL:Option Addr) (nB nL cE cB cL:Nat) (h1:1≤d) (h2:d≤14) (hfm:Rn.fm d A B T kk E.length nB nL=true) (hE6: ¬ 6<E.length)
  (hS:EL w P (n+1) E (.slice aE E.length cE)) (hW:Sx.wE (n+1) E≤1000000000) (hN: ∀ (i:Nat) x,E[i]? =some x→Rn.nmE (n+1) x) (lA:A.length≤1099511627776) (lB:B.length≤1099511627776) (lT:T.length≤1099511627776)
  (k0:Rn.hasA d=false) (k1:Rn.hasB d=false) (k2:Rn.hasT d=false):
  Calls Tryz.prog 129 #[.agg #[.int .i64 d,.int .i64 at',.string (bs A),.string (bs B),.string (bs T),.int .i64 kk,.slice aE E.length cE,.slice aB nB cB,.slice aL nL cL],.int .i64 deep] w fun e w'=>e= .returned (.int .i64 (if (Rn.hasA d=true∧Tk.isN A=false)∨(Rn.hasB d=true∧Tk.isN B=false) then 4
  else if Rn.hasT d=true∧Rn.isT T 3=false then 11 else if kk<0∨1000000000000000000≤kk then 14 else Rn.tl (n+1) deep d E))∧Kp [] w w':=by
 have HF:=hide (fun w h=>hfm ▸ isFormed_any w h d at' kk A B T aE aB aL E.length nB nL cE cB cL)
 have FA:=hide (fun w h=>((Rn.hasF_A h1 h2).trans k0) ▸ hasField_any d 65 w h h1 h2)
 have FB:=hide (fun w h=>((Rn.hasF_B h1 h2).trans k1) ▸ hasField_any d 66 w h h1 h2)
 have FT:=hide (fun w h=>((Rn.hasF_T h1 h2).trans k2) ▸ hasField_any d 84 w h h1 h2)
 have FS:=hide (fun w h=>(Rn.hasF_S h1 h2) ▸ hasField_any d 83 w h h1 h2)
 have IA:=hide (fun w h=>nameW_any A w h lA)
 have IB:=hide (fun w h=>nameW_any B w h lB)
 have IT:=hide (fun w=>rType_any T 3 w lT)
 have HS:=hide hS
 have HW:=hide hW
 have HN:=hide hN
 have HT:=hide hT
 have d6:decide ((6:Int)<(E.length:Int))=false:=by simp;omega
 have hle:E.length≤6:=by omega
 rw [k0,k1,k2]
 clear hS hW hN hT lA lB lT hfm hE6 k0 k1 k2
 rw [if_neg (by simp)]
 rw [if_neg (by simp)]
 by_cases hz:kk<0∨1000000000000000000≤kk
 ·rw [if_pos hz]
  by_cases hn:kk<0
  ·have d2:decide (kk<0)=true:=by simpa using hn
   go_enter Tryz.func129,Tryz.ntmps129
   go_wp2_with fail
   refine (HF.out _ (HT.out.kp ((Kp.refl _ _).alloc _))).mono ?_
   rintro e w1 ⟨rfl,hk⟩
   have K1:Hid (Kp [] w w1):=((Kp.refl _ _).alloc _).trans hk
   have c0:w1.cell? ⟨w.heap.size,0,none⟩=some (.int .i64 d):=hk.some (by simp [go_sem]) (by simp)
   have c2:w1.cell? ⟨w.heap.size,2,none⟩=some (.string (bs A)):=hk.some (by simp [go_sem]) (by simp)
   have c3:w1.cell? ⟨w.heap.size,3,none⟩=some (.string (bs B)):=hk.some (by simp [go_sem]) (by simp)
   have c4:w1.cell? ⟨w.heap.size,4,none⟩=some (.string (bs T)):=hk.some (by simp [go_sem]) (by simp)
   have c5:w1.cell? ⟨w.heap.size,5,none⟩=some (.int .i64 kk):=hk.some (by simp [go_sem]) (by simp)
   have c6:w1.cell? ⟨w.heap.size,6,none⟩=some (.slice aE E.length cE):=hk.some (by simp [go_sem]) (by simp)
   clear hk
   have T1:=hide (HT.out.kp K1.out)
   go_wp2_with fail
   refine (FA.out _ T1.out).mono ?_
   rintro e w2 ⟨rfl,rfl⟩
   go_wp2_with fail
   refine (FB.out _ T1.out).mono ?_
   rintro e w2 ⟨rfl,rfl⟩
   go_wp2_with fail
   refine (FT.out _ T1.out).mono ?_
   rintro e w2 ⟨rfl,rfl⟩
   go_wp2_with fail
   go_ret
   exact ⟨rfl,K1.out⟩
  ·have d2:decide (kk<0)=false:=by simpa using hn
   have d3:decide (999999999999999999<kk)=true:=by simp;omega
   go_enter Tryz.func129,Tryz.ntmps129
   go_wp2_with fail
   refine (HF.out _ (HT.out.kp ((Kp.refl _ _).alloc _))).mono ?_
   rintro e w1 ⟨rfl,hk⟩
   have K1:Hid (Kp [] w w1):=((Kp.refl _ _).alloc _).trans hk
   have c0:w1.cell? ⟨w.heap.size,0,none⟩=some (.int .i64 d):=hk.some (by simp [go_sem]) (by simp)
   have c2:w1.cell? ⟨w.heap.size,2,none⟩=some (.string (bs A)):=hk.some (by simp [go_sem]) (by simp)
   have c3:w1.cell? ⟨w.heap.size,3,none⟩=some (.string (bs B)):=hk.some (by simp [go_sem]) (by simp)
   have c4:w1.cell? ⟨w.heap.size,4,none⟩=some (.string (bs T)):=hk.some (by simp [go_sem]) (by simp)
   have c5:w1.cell? ⟨w.heap.size,5,none⟩=some (.int .i64 kk):=hk.some (by simp [go_sem]) (by simp)
   have c6:w1.cell? ⟨w.heap.size,6,none⟩=some (.slice aE E.length cE):=hk.some (by simp [go_sem]) (by simp)
   clear hk
   have T1:=hide (HT.out.kp K1.out)
   go_wp2_with fail
   refine (FA.out _ T1.out).mono ?_
   rintro e w2 ⟨rfl,rfl⟩
   go_wp2_with fail
   refine (FB.out _ T1.out).mono ?_
   rintro e w2 ⟨rfl,rfl⟩
   go_wp2_with fail
   refine (FT.out _ T1.out).mono ?_
   rintro e w2 ⟨rfl,rfl⟩
   go_wp2_with fail
   go_ret
   exact ⟨rfl,K1.out⟩
 ·rw [if_neg hz]
  have d2:decide (kk<0)=false:=by simp;omega
  have d3:decide (999999999999999999<kk)=false:=by simp;omega
  clear hz
  go_enter Tryz.func129,Tryz.ntmps129
  go_wp2_with fail
  refine (HF.out _ (HT.out.kp ((Kp.refl _ _).alloc _))).mono ?_
  rintro e w1 ⟨rfl,hk⟩
  have K1:Hid (Kp [] w w1):=((Kp.refl _ _).alloc _).trans hk
  have c0:w1.cell? ⟨w.heap.size,0,none⟩=some (.int .i64 d):=hk.some (by simp [go_sem]) (by simp)
  have c2:w1.cell? ⟨w.heap.size,2,none⟩=some (.string (bs A)):=hk.some (by simp [go_sem]) (by simp)
  have c3:w1.cell? ⟨w.heap.size,3,none⟩=some (.string (bs B)):=hk.some (by simp [go_sem]) (by simp)
  have c4:w1.cell? ⟨w.heap.size,4,none⟩=some (.string (bs T)):=hk.some (by simp [go_sem]) (by simp)
  have c5:w1.cell? ⟨w.heap.size,5,none⟩=some (.int .i64 kk):=hk.some (by simp [go_sem]) (by simp)
  have c6:w1.cell? ⟨w.heap.size,6,none⟩=some (.slice aE E.length cE):=hk.some (by simp [go_sem]) (by simp)
  clear hk
  have T1:=hide (HT.out.kp K1.out)
  go_wp2_with fail
  refine (FA.out _ T1.out).mono ?_
  rintro e w2 ⟨rfl,rfl⟩
  go_wp2_with fail
  refine (FB.out _ T1.out).mono ?_
  rintro e w2 ⟨rfl,rfl⟩
  go_wp2_with fail
  refine (FT.out _ T1.out).mono ?_
  rintro e w2 ⟨rfl,rfl⟩
  go_wp2_with fail
  go_loopw [58] (fun iv wr=> ∃ (k:Nat),k≤E.length∧iv= .int .i64 k∧Hid (Rn.firstOf (Rn.ef (n+1)) E=Rn.firstOf (Rn.ef (n+1)) (E.drop k))∧Hid (Kp [] w wr)∧wr.cell? ⟨w.heap.size,0,none⟩=some (.int .i64 d)) (fun iv _=>E.length - (intOf iv).toNat)
  case atStart=>exact ⟨0,Nat.zero_le _,rfl,rfl,K1.out,c0⟩
  case round=>
   obtain ⟨k,hk,rfl,HV,HK,p0⟩:=hrel
   have hbl:=World.block_lt_of_cell? _ _ p0
   by_cases hlt:k<E.length
   ·have d1:decide ((k:Int)<(E.length:Int))=true:=by simp;omega
    obtain ⟨b,off,op1,nm1,z1,L1,aL1,cL1,rfl,-,hd,m0,m1,m2,m3,hL⟩:=(HS.out.keep HK.out (by simp)).nth k hlt
    have HC:=hide (fun w1 (hk:Kp [] wr w1)=>exprCode_any n w1 (HT.out.kp (HK.out.trans hk)) P op1 z1 nm1 L1 aL1 cL1 (hL.keep hk (by simp)) (Nat.le_trans (Rn.wE_nth hd) HW.out) (HN.out k _ hd))
    have HDR:=hide (drop_nth hd)
    have hk0:(0:Int)≤(k:Int):=by omega
    have hk1:(k:Int)<(E.length:Int):=by omega
    clear hL hd
    generalize hX:Rn.ef (n+1) (Sx.tE op1 nm1 z1 L1)=X at *
    by_cases h0:X=0
    ·go_wp2_with fail
     refine (HC.out _ ((Kp.refl _ _).alloc _)).mono ?_
     rintro e w3 ⟨rfl,hk2⟩
     rw [h0]
     have q0:w3.cell? ⟨w.heap.size,0,none⟩=some (.int .i64 d):=((((Kp.refl [] wr).alloc _).trans hk2)).some p0 (by simp)
     have K3:=hide hk2
     clear hk2
     go_wp2
     go_roundw
     case rel=>exact ⟨k+1,by omega,by go_num,by rw [HV.out,HDR.out,Rn.firstOf,hX,h0];rfl,(HK.out.alloc _).trans K3.out,q0⟩
     case measure=>simp [intOf];omega
    ·go_wp2_with fail
     refine (HC.out _ ((Kp.refl _ _).alloc _)).mono ?_
     rintro e w3 ⟨rfl,hk2⟩
     have K3:=hide hk2
     clear hk2
     go_wp2
     go_ret
     refine ⟨?_,(HK.out.alloc _).trans K3.out⟩
     rw [Rn.tl,HV.out,HDR.out,Rn.firstOf,hX,if_pos h0,if_pos h0]
     rfl
   ·obtain rfl:k=E.length:=by omega
    have d1:decide ((E.length:Int)<(E.length:Int))=false:=by simp
    rw [List.drop_length] at HV
    have HTL:Hid (Rn.tl (n+1) deep d E=if Rn.hasS d=true∧8≤deep then 7 else 0):=by
     unfold Hid Rn.tl
     rw [HV.out]
     rfl
    cases hS:Rn.hasS d with
    |false=>
     rw [hS] at FS HTL
     go_wp2_with fail
     refine (FS.out _ (HT.out.kp HK.out)).mono ?_
     rintro e w3 ⟨rfl,rfl⟩
     go_wp2
     go_ret
     refine ⟨?_,HK.out⟩
     rw [HTL.out]
     rfl
    |true=>
     rw [hS] at FS HTL
     by_cases h8:8≤deep
     ·have d8:decide ((8:Int)≤(deep:Int))=true:=by simp;omega
      rw [if_pos ⟨rfl,h8⟩] at HTL
      go_wp2_with fail
      refine (FS.out _ (HT.out.kp HK.out)).mono ?_
      rintro e w3 ⟨rfl,rfl⟩
      go_wp2
      go_ret
      refine ⟨?_,HK.out⟩
      rw [HTL.out]
      rfl
     ·have d8:decide ((8:Int)≤(deep:Int))=false:=by simp;omega
      rw [if_neg (fun hc=>h8 hc.2)] at HTL
      go_wp2_with fail
      refine (FS.out _ (HT.out.kp HK.out)).mono ?_
      rintro e w3 ⟨rfl,rfl⟩
      go_wp2
      go_ret
      refine ⟨?_,HK.out⟩
      rw [HTL.out]
      rfl
end Go.Proofs.YtcdcoiobpbdmpaaGreatDoor
namespace Go.Proofs.YtcdcoiobpbdmpaaGreatDoor
open Go.RowKit
set_option maxRecDepth 100000 in
set_option maxHeartbeats 4000000 in
theorem stmtCode_tff (n deep:Nat) (w:World) (hT:Tb w) (P:Nat→Prop) (d at' kk:Int) (A B T:List UInt8) (E:List Sx.Tr) (aE aB aL:Option Addr) (nB nL cE cB cL:Nat) (h1:1≤d) (h2:d≤14) (hfm:Rn.fm d A B T kk E.length nB nL=true) (hE6: ¬ 6<E.length)
  (hS:EL w P (n+1) E (.slice aE E.length cE)) (hW:Sx.wE (n+1) E≤1000000000) (hN: ∀ (i:Nat) x,E[i]? =some x→Rn.nmE (n+1) x) (lA:A.length≤1099511627776) (lB:B.length≤1099511627776) (lT:T.length≤1099511627776)
  (k0:Rn.hasA d=true) (k1:Rn.hasB d=false) (k2:Rn.hasT d=false):
  Calls Tryz.prog 129 #[.agg #[.int .i64 d,.int .i64 at',.string (bs A),.string (bs B),.string (bs T),.int .i64 kk,.slice aE E.length cE,.slice aB nB cB,.slice aL nL cL],.int .i64 deep] w fun e w'=>e= .returned (.int .i64 (if (Rn.hasA d=true∧Tk.isN A=false)∨(Rn.hasB d=true∧Tk.isN B=false) then 4
  else if Rn.hasT d=true∧Rn.isT T 3=false then 11 else if kk<0∨1000000000000000000≤kk then 14 else Rn.tl (n+1) deep d E))∧Kp [] w w':=by
 have HF:=hide (fun w h=>hfm ▸ isFormed_any w h d at' kk A B T aE aB aL E.length nB nL cE cB cL)
 have FA:=hide (fun w h=>((Rn.hasF_A h1 h2).trans k0) ▸ hasField_any d 65 w h h1 h2)
 have FB:=hide (fun w h=>((Rn.hasF_B h1 h2).trans k1) ▸ hasField_any d 66 w h h1 h2)
 have FT:=hide (fun w h=>((Rn.hasF_T h1 h2).trans k2) ▸ hasField_any d 84 w h h1 h2)
 have FS:=hide (fun w h=>(Rn.hasF_S h1 h2) ▸ hasField_any d 83 w h h1 h2)
 have IA:=hide (fun w h=>nameW_any A w h lA)
 have IB:=hide (fun w h=>nameW_any B w h lB)
 have IT:=hide (fun w=>rType_any T 3 w lT)
 have HS:=hide hS
 have HW:=hide hW
 have HN:=hide hN
 have HT:=hide hT
 have d6:decide ((6:Int)<(E.length:Int))=false:=by simp;omega
 have hle:E.length≤6:=by omega
 rw [k0,k1,k2]
 clear hS hW hN hT lA lB lT hfm hE6 k0 k1 k2
 cases iA:Tk.isN A with
 |false=>
  rw [if_pos (.inl ⟨rfl,rfl⟩)]
  rw [iA] at IA
  go_enter Tryz.func129,Tryz.ntmps129
  go_wp2_with fail
  refine (HF.out _ (HT.out.kp ((Kp.refl _ _).alloc _))).mono ?_
  rintro e w1 ⟨rfl,hk⟩
  have K1:Hid (Kp [] w w1):=((Kp.refl _ _).alloc _).trans hk
  have c0:w1.cell? ⟨w.heap.size,0,none⟩=some (.int .i64 d):=hk.some (by simp [go_sem]) (by simp)
  have c2:w1.cell? ⟨w.heap.size,2,none⟩=some (.string (bs A)):=hk.some (by simp [go_sem]) (by simp)
  have c3:w1.cell? ⟨w.heap.size,3,none⟩=some (.string (bs B)):=hk.some (by simp [go_sem]) (by simp)
  have c4:w1.cell? ⟨w.heap.size,4,none⟩=some (.string (bs T)):=hk.some (by simp [go_sem]) (by simp)
  have c5:w1.cell? ⟨w.heap.size,5,none⟩=some (.int .i64 kk):=hk.some (by simp [go_sem]) (by simp)
  have c6:w1.cell? ⟨w.heap.size,6,none⟩=some (.slice aE E.length cE):=hk.some (by simp [go_sem]) (by simp)
  clear hk
  have T1:=hide (HT.out.kp K1.out)
  go_wp2_with fail
  refine (FA.out _ T1.out).mono ?_
  rintro e w2 ⟨rfl,rfl⟩
  go_wp2_with fail
  refine (IA.out _ T1.out).mono ?_
  rintro e w2 ⟨rfl,rfl⟩
  go_wp2_with fail
  go_ret
  exact ⟨rfl,K1.out⟩
 |true=>
  rw [iA] at IA
  rw [if_neg (by simp)]
  rw [if_neg (by simp)]
  by_cases hz:kk<0∨1000000000000000000≤kk
  ·rw [if_pos hz]
   by_cases hn:kk<0
   ·have d2:decide (kk<0)=true:=by simpa using hn
    go_enter Tryz.func129,Tryz.ntmps129
    go_wp2_with fail
    refine (HF.out _ (HT.out.kp ((Kp.refl _ _).alloc _))).mono ?_
    rintro e w1 ⟨rfl,hk⟩
    have K1:Hid (Kp [] w w1):=((Kp.refl _ _).alloc _).trans hk
    have c0:w1.cell? ⟨w.heap.size,0,none⟩=some (.int .i64 d):=hk.some (by simp [go_sem]) (by simp)
    have c2:w1.cell? ⟨w.heap.size,2,none⟩=some (.string (bs A)):=hk.some (by simp [go_sem]) (by simp)
    have c3:w1.cell? ⟨w.heap.size,3,none⟩=some (.string (bs B)):=hk.some (by simp [go_sem]) (by simp)
    have c4:w1.cell? ⟨w.heap.size,4,none⟩=some (.string (bs T)):=hk.some (by simp [go_sem]) (by simp)
    have c5:w1.cell? ⟨w.heap.size,5,none⟩=some (.int .i64 kk):=hk.some (by simp [go_sem]) (by simp)
    have c6:w1.cell? ⟨w.heap.size,6,none⟩=some (.slice aE E.length cE):=hk.some (by simp [go_sem]) (by simp)
    clear hk
    have T1:=hide (HT.out.kp K1.out)
    go_wp2_with fail
    refine (FA.out _ T1.out).mono ?_
    rintro e w2 ⟨rfl,rfl⟩
    go_wp2_with fail
    refine (IA.out _ T1.out).mono ?_
    rintro e w2 ⟨rfl,rfl⟩
    go_wp2_with fail
    refine (FB.out _ T1.out).mono ?_
    rintro e w2 ⟨rfl,rfl⟩
    go_wp2_with fail
    refine (FT.out _ T1.out).mono ?_
    rintro e w2 ⟨rfl,rfl⟩
    go_wp2_with fail
    go_ret
    exact ⟨rfl,K1.out⟩
   ·have d2:decide (kk<0)=false:=by simpa using hn
    have d3:decide (999999999999999999<kk)=true:=by simp;omega
    go_enter Tryz.func129,Tryz.ntmps129
    go_wp2_with fail
    refine (HF.out _ (HT.out.kp ((Kp.refl _ _).alloc _))).mono ?_
    rintro e w1 ⟨rfl,hk⟩
    have K1:Hid (Kp [] w w1):=((Kp.refl _ _).alloc _).trans hk
    have c0:w1.cell? ⟨w.heap.size,0,none⟩=some (.int .i64 d):=hk.some (by simp [go_sem]) (by simp)
    have c2:w1.cell? ⟨w.heap.size,2,none⟩=some (.string (bs A)):=hk.some (by simp [go_sem]) (by simp)
    have c3:w1.cell? ⟨w.heap.size,3,none⟩=some (.string (bs B)):=hk.some (by simp [go_sem]) (by simp)
    have c4:w1.cell? ⟨w.heap.size,4,none⟩=some (.string (bs T)):=hk.some (by simp [go_sem]) (by simp)
    have c5:w1.cell? ⟨w.heap.size,5,none⟩=some (.int .i64 kk):=hk.some (by simp [go_sem]) (by simp)
    have c6:w1.cell? ⟨w.heap.size,6,none⟩=some (.slice aE E.length cE):=hk.some (by simp [go_sem]) (by simp)
    clear hk
    have T1:=hide (HT.out.kp K1.out)
    go_wp2_with fail
    refine (FA.out _ T1.out).mono ?_
    rintro e w2 ⟨rfl,rfl⟩
    go_wp2_with fail
    refine (IA.out _ T1.out).mono ?_
    rintro e w2 ⟨rfl,rfl⟩
    go_wp2_with fail
    refine (FB.out _ T1.out).mono ?_
    rintro e w2 ⟨rfl,rfl⟩
    go_wp2_with fail
    refine (FT.out _ T1.out).mono ?_
    rintro e w2 ⟨rfl,rfl⟩
    go_wp2_with fail
    go_ret
    exact ⟨rfl,K1.out⟩
  ·rw [if_neg hz]
   have d2:decide (kk<0)=false:=by simp;omega
   have d3:decide (999999999999999999<kk)=false:=by simp;omega
   clear hz
   go_enter Tryz.func129,Tryz.ntmps129
   go_wp2_with fail
   refine (HF.out _ (HT.out.kp ((Kp.refl _ _).alloc _))).mono ?_
   rintro e w1 ⟨rfl,hk⟩
   have K1:Hid (Kp [] w w1):=((Kp.refl _ _).alloc _).trans hk
   have c0:w1.cell? ⟨w.heap.size,0,none⟩=some (.int .i64 d):=hk.some (by simp [go_sem]) (by simp)
   have c2:w1.cell? ⟨w.heap.size,2,none⟩=some (.string (bs A)):=hk.some (by simp [go_sem]) (by simp)
   have c3:w1.cell? ⟨w.heap.size,3,none⟩=some (.string (bs B)):=hk.some (by simp [go_sem]) (by simp)
   have c4:w1.cell? ⟨w.heap.size,4,none⟩=some (.string (bs T)):=hk.some (by simp [go_sem]) (by simp)
   have c5:w1.cell? ⟨w.heap.size,5,none⟩=some (.int .i64 kk):=hk.some (by simp [go_sem]) (by simp)
   have c6:w1.cell? ⟨w.heap.size,6,none⟩=some (.slice aE E.length cE):=hk.some (by simp [go_sem]) (by simp)
   clear hk
   have T1:=hide (HT.out.kp K1.out)
   go_wp2_with fail
   refine (FA.out _ T1.out).mono ?_
   rintro e w2 ⟨rfl,rfl⟩
   go_wp2_with fail
   refine (IA.out _ T1.out).mono ?_
   rintro e w2 ⟨rfl,rfl⟩
   go_wp2_with fail
   refine (FB.out _ T1.out).mono ?_
   rintro e w2 ⟨rfl,rfl⟩
   go_wp2_with fail
   refine (FT.out _ T1.out).mono ?_
   rintro e w2 ⟨rfl,rfl⟩
   go_wp2_with fail
   go_loopw [58] (fun iv wr=> ∃ (k:Nat),k≤E.length∧iv= .int .i64 k∧Hid (Rn.firstOf (Rn.ef (n+1)) E=Rn.firstOf (Rn.ef (n+1)) (E.drop k))∧Hid (Kp [] w wr)∧wr.cell? ⟨w.heap.size,0,none⟩=some (.int .i64 d)) (fun iv _=>E.length - (intOf iv).toNat)
   case atStart=>exact ⟨0,Nat.zero_le _,rfl,rfl,K1.out,c0⟩
   case round=>
    obtain ⟨k,hk,rfl,HV,HK,p0⟩:=hrel
    have hbl:=World.block_lt_of_cell? _ _ p0
    by_cases hlt:k<E.length
    ·have d1:decide ((k:Int)<(E.length:Int))=true:=by simp;omega
     obtain ⟨b,off,op1,nm1,z1,L1,aL1,cL1,rfl,-,hd,m0,m1,m2,m3,hL⟩:=(HS.out.keep HK.out (by simp)).nth k hlt
     have HC:=hide (fun w1 (hk:Kp [] wr w1)=>exprCode_any n w1 (HT.out.kp (HK.out.trans hk)) P op1 z1 nm1 L1 aL1 cL1 (hL.keep hk (by simp)) (Nat.le_trans (Rn.wE_nth hd) HW.out) (HN.out k _ hd))
     have HDR:=hide (drop_nth hd)
     have hk0:(0:Int)≤(k:Int):=by omega
     have hk1:(k:Int)<(E.length:Int):=by omega
     clear hL hd
     generalize hX:Rn.ef (n+1) (Sx.tE op1 nm1 z1 L1)=X at *
     by_cases h0:X=0
     ·go_wp2_with fail
      refine (HC.out _ ((Kp.refl _ _).alloc _)).mono ?_
      rintro e w3 ⟨rfl,hk2⟩
      rw [h0]
      have q0:w3.cell? ⟨w.heap.size,0,none⟩=some (.int .i64 d):=((((Kp.refl [] wr).alloc _).trans hk2)).some p0 (by simp)
      have K3:=hide hk2
      clear hk2
      go_wp2
      go_roundw
      case rel=>exact ⟨k+1,by omega,by go_num,by rw [HV.out,HDR.out,Rn.firstOf,hX,h0];rfl,(HK.out.alloc _).trans K3.out,q0⟩
      case measure=>simp [intOf];omega
     ·go_wp2_with fail
      refine (HC.out _ ((Kp.refl _ _).alloc _)).mono ?_
      rintro e w3 ⟨rfl,hk2⟩
      have K3:=hide hk2
      clear hk2
      go_wp2
      go_ret
      refine ⟨?_,(HK.out.alloc _).trans K3.out⟩
      rw [Rn.tl,HV.out,HDR.out,Rn.firstOf,hX,if_pos h0,if_pos h0]
      rfl
    ·obtain rfl:k=E.length:=by omega
     have d1:decide ((E.length:Int)<(E.length:Int))=false:=by simp
     rw [List.drop_length] at HV
     have HTL:Hid (Rn.tl (n+1) deep d E=if Rn.hasS d=true∧8≤deep then 7 else 0):=by
      unfold Hid Rn.tl
      rw [HV.out]
      rfl
     cases hS:Rn.hasS d with
     |false=>
      rw [hS] at FS HTL
      go_wp2_with fail
      refine (FS.out _ (HT.out.kp HK.out)).mono ?_
      rintro e w3 ⟨rfl,rfl⟩
      go_wp2
      go_ret
      refine ⟨?_,HK.out⟩
      rw [HTL.out]
      rfl
     |true=>
      rw [hS] at FS HTL
      by_cases h8:8≤deep
      ·have d8:decide ((8:Int)≤(deep:Int))=true:=by simp;omega
       rw [if_pos ⟨rfl,h8⟩] at HTL
       go_wp2_with fail
       refine (FS.out _ (HT.out.kp HK.out)).mono ?_
       rintro e w3 ⟨rfl,rfl⟩
       go_wp2
       go_ret
       refine ⟨?_,HK.out⟩
       rw [HTL.out]
       rfl
      ·have d8:decide ((8:Int)≤(deep:Int))=false:=by simp;omega
       rw [if_neg (fun hc=>h8 hc.2)] at HTL
       go_wp2_with fail
       refine (FS.out _ (HT.out.kp HK.out)).mono ?_
       rintro e w3 ⟨rfl,rfl⟩
       go_wp2
       go_ret
       refine ⟨?_,HK.out⟩
       rw [HTL.out]
       rfl
end Go.Proofs.YtcdcoiobpbdmpaaGreatDoor
