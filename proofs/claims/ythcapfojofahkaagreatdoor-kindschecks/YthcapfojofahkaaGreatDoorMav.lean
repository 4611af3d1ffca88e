import Derived.Test.YthcapfojofahkaaGreatDoorMau
namespace Go.Proofs.YthcapfojofahkaaGreatDoor
open Go.RowKit
set_option maxRecDepth 100000 in
set_option maxHeartbeats 8000000 in
theorem stmtFault_ttf (n deep num:Nat) (w:World) (hT:Tb w) (P:Nat→Prop) (d at' kk:Int) (A B T:List UInt8) (E:List Sx.Tr) (aE aB aL:Option Addr) (nB nL cE cB cL:Nat) (h1:1≤d) (h2:d≤14) (h300:num<300) (hfm:Rn.fm d A B T kk E.length nB nL=true) (hE6: ¬ 6<E.length)
  (hS:EL w P (n+1) E (.slice aE E.length cE)) (hW:Sx.wE (n+1) E≤1000000000) (hN: ∀ (i:Nat) x,E[i]? =some x→Rn.nmE (n+1) x) (lA:A.length≤1099511627776) (lB:B.length≤1099511627776) (lT:T.length≤1099511627776)
  (k0:Rn.hasA d=true) (k1:Rn.hasB d=true) (k2:Rn.hasT d=false):
  Calls Tryz.prog 68 #[.agg #[.int .i64 d,.int .i64 at',.string (bs A),.string (bs B),.string (bs T),.int .i64 kk,.slice aE E.length cE,.slice aB nB cB,.slice aL nL cL],.int .i64 num,.int .i64 deep] w fun e w'=>e= .returned (.int .i64 (if (Rn.hasA d=true∧Tk.isN A=false)∨(Rn.hasB d=true∧Tk.isN B=false) then 4
  else if Rn.hasT d=true∧Rn.isT T 3=false then 11 else if kk<0∨1000000000000000000≤kk then 14 else Rn.tl (n+1) deep d E))∧Kp [] w w':=by
 have HF:=hide (fun w h=>hfm ▸ stmtForm_any w h d at' kk A B T aE aB aL E.length nB nL cE cB cL (by omega))
 have HL:=hide (fun w=>fields_any d w h1 h2)
 have IA:=hide (fun w=>rnameW_any A w lA)
 have IB:=hide (fun w=>rnameW_any B w lB)
 have IT:=hide (fun w=>rIsType_any T 3 w lT)
 have HS:=hide hS
 have HW:=hide hW
 have HN:=hide hN
 have HT:=hide hT
 have d6:decide ((6:Int)<(E.length:Int))=false:=by simp;omega
 have d0:decide ((300:Int)≤(num:Int))=false:=by simp;omega
 have hle:E.length≤6:=by omega
 have hfn:((bs (Rn.fld d)).size:Int)=7:=rfl
 have x0:(bs (Rn.fld d)).extract 0 1=bs [65]:=by show bs [Rn.fA d]=_;rw [Rn.fA,k0];rfl
 have x1:(bs (Rn.fld d)).extract 1 2=bs [66]:=by show bs [Rn.fB d]=_;rw [Rn.fB,k1];rfl
 have x2:(bs (Rn.fld d)).extract 2 3=bs [45]:=by show bs [Rn.fT d]=_;rw [Rn.fT,k2];rfl
 have x5:(bs (Rn.fld d)).extract 5 6=bs [Rn.fS d]:=rfl
 have y45:(bs [45]).toList=[45]:=bsl _
 have y65:(bs [65]).toList=[65]:=bsl _
 have y66:(bs [66]).toList=[66]:=bsl _
 have y84:(bs [84]).toList=[84]:=bsl _
 rw [k0,k1,k2]
 clear hS hW hN hT lA lB lT hfm hE6 k0 k1 k2 h300
 generalize bs (Rn.fld d)=FL at *
 cases iA:Tk.isN A with
 |false=>
  rw [if_pos (.inl ⟨rfl,rfl⟩)]
  rw [iA] at IA
  go_enter Tryz.func68,Tryz.ntmps68
  go_wp2_with fail
  refine (HF.out _ (HT.out.kp ((Kp.refl _ _).alloc _))).mono ?_
  rintro e w1 ⟨rfl,hk⟩
  have K1:Hid (Kp [] w w1):=((Kp.refl _ _).alloc _).trans hk
  have c0:w1.cell? ⟨w.heap.size,0,none⟩=some (.int .i64 d):=hk.some (by simp [go_sem]) (by simp)
  have c2:w1.cell? ⟨w.heap.size,2,none⟩=some (.string (bs A)):=hk.some (by simp [go_sem]) (by simp)
  have c3:w1.cell? ⟨w.heap.size,3,none⟩=some (.string (bs B)):=hk.some (by simp [go_sem]) (by simp)
  have c4:w1.cell? ⟨w.heap.size,4,none⟩=some (.string (bs T)):=hk.some (by simp [go_sem]) (by simp)
  have c5:w1.cell? ⟨w.heap.size,5,none⟩=some (.int .i64 kk):=hk.some (by simp [go_sem]) (by simp)
  have c6:w1.cell? ⟨w.heap.size,6,none⟩=some (.slice aE E.length cE):=hk.some (by simp [go_sem]) (by simp)
  clear hk
  go_wp2_with fail
  refine (HL.out _).mono ?_
  rintro e w2 ⟨rfl,hk⟩
  have K2:Hid (Kp [] w w2):=K1.out.trans hk
  have g2:w2.cell? ⟨w.heap.size,2,none⟩=some (.string (bs A)):=hk.some c2 (by simp)
  have g3:w2.cell? ⟨w.heap.size,3,none⟩=some (.string (bs B)):=hk.some c3 (by simp)
  have g4:w2.cell? ⟨w.heap.size,4,none⟩=some (.string (bs T)):=hk.some c4 (by simp)
  have g5:w2.cell? ⟨w.heap.size,5,none⟩=some (.int .i64 kk):=hk.some c5 (by simp)
  have g6:w2.cell? ⟨w.heap.size,6,none⟩=some (.slice aE E.length cE):=hk.some c6 (by simp)
  clear hk
  clear c0 c2 c3 c4 c5 c6
  go_wp2_with fail
  refine (IA.out _).mono ?_
  rintro e w3 ⟨rfl,hk⟩
  have K3:Hid (Kp [] w w3):=K2.out.trans hk
  have gg3:w3.cell? ⟨w.heap.size,3,none⟩=some (.string (bs B)):=hk.some g3 (by simp)
  have gg4:w3.cell? ⟨w.heap.size,4,none⟩=some (.string (bs T)):=hk.some g4 (by simp)
  have gg5:w3.cell? ⟨w.heap.size,5,none⟩=some (.int .i64 kk):=hk.some g5 (by simp)
  have gg6:w3.cell? ⟨w.heap.size,6,none⟩=some (.slice aE E.length cE):=hk.some g6 (by simp)
  clear hk
  go_wp2_with fail
  go_ret
  exact ⟨rfl,K3.out⟩
 |true=>
  rw [iA] at IA
  cases iB:Tk.isN B with
  |false=>
   rw [if_pos (.inr ⟨rfl,rfl⟩)]
   rw [iB] at IB
   go_enter Tryz.func68,Tryz.ntmps68
   go_wp2_with fail
   refine (HF.out _ (HT.out.kp ((Kp.refl _ _).alloc _))).mono ?_
   rintro e w1 ⟨rfl,hk⟩
   have K1:Hid (Kp [] w w1):=((Kp.refl _ _).alloc _).trans hk
   have c0:w1.cell? ⟨w.heap.size,0,none⟩=some (.int .i64 d):=hk.some (by simp [go_sem]) (by simp)
   have c2:w1.cell? ⟨w.heap.size,2,none⟩=some (.string (bs A)):=hk.some (by simp [go_sem]) (by simp)
   have c3:w1.cell? ⟨w.heap.size,3,none⟩=some (.string (bs B)):=hk.some (by simp [go_sem]) (by simp)
   have c4:w1.cell? ⟨w.heap.size,4,none⟩=some (.string (bs T)):=hk.some (by simp [go_sem]) (by simp)
   have c5:w1.cell? ⟨w.heap.size,5,none⟩=some (.int .i64 kk):=hk.some (by simp [go_sem]) (by simp)
   have c6:w1.cell? ⟨w.heap.size,6,none⟩=some (.slice aE E.length cE):=hk.some (by simp [go_sem]) (by simp)
   clear hk
   go_wp2_with fail
   refine (HL.out _).mono ?_
   rintro e w2 ⟨rfl,hk⟩
   have K2:Hid (Kp [] w w2):=K1.out.trans hk
   have g2:w2.cell? ⟨w.heap.size,2,none⟩=some (.string (bs A)):=hk.some c2 (by simp)
   have g3:w2.cell? ⟨w.heap.size,3,none⟩=some (.string (bs B)):=hk.some c3 (by simp)
   have g4:w2.cell? ⟨w.heap.size,4,none⟩=some (.string (bs T)):=hk.some c4 (by simp)
   have g5:w2.cell? ⟨w.heap.size,5,none⟩=some (.int .i64 kk):=hk.some c5 (by simp)
   have g6:w2.cell? ⟨w.heap.size,6,none⟩=some (.slice aE E.length cE):=hk.some c6 (by simp)
   clear hk
   clear c0 c2 c3 c4 c5 c6
   go_wp2_with fail
   refine (IA.out _).mono ?_
   rintro e w3 ⟨rfl,hk⟩
   have K3:Hid (Kp [] w w3):=K2.out.trans hk
   have gg3:w3.cell? ⟨w.heap.size,3,none⟩=some (.string (bs B)):=hk.some g3 (by simp)
   have gg4:w3.cell? ⟨w.heap.size,4,none⟩=some (.string (bs T)):=hk.some g4 (by simp)
   have gg5:w3.cell? ⟨w.heap.size,5,none⟩=some (.int .i64 kk):=hk.some g5 (by simp)
   have gg6:w3.cell? ⟨w.heap.size,6,none⟩=some (.slice aE E.length cE):=hk.some g6 (by simp)
   clear hk
   go_wp2_with fail
   refine (IB.out _).mono ?_
   rintro e w4 ⟨rfl,hk⟩
   have K4:Hid (Kp [] w w4):=K3.out.trans hk
   have ggg4:w4.cell? ⟨w.heap.size,4,none⟩=some (.string (bs T)):=hk.some gg4 (by simp)
   have ggg5:w4.cell? ⟨w.heap.size,5,none⟩=some (.int .i64 kk):=hk.some gg5 (by simp)
   have ggg6:w4.cell? ⟨w.heap.size,6,none⟩=some (.slice aE E.length cE):=hk.some gg6 (by simp)
   clear hk
   go_wp2_with fail
   go_ret
   exact ⟨rfl,K4.out⟩
  |true=>
   rw [iB] at IB
   rw [if_neg (by simp)]
   rw [if_neg (by simp)]
   by_cases hz:kk<0∨1000000000000000000≤kk
   ·rw [if_pos hz]
    by_cases hn:kk<0
    ·have d2:decide (kk<0)=true:=by simpa using hn
     go_enter Tryz.func68,Tryz.ntmps68
     go_wp2_with fail
     refine (HF.out _ (HT.out.kp ((Kp.refl _ _).alloc _))).mono ?_
     rintro e w1 ⟨rfl,hk⟩
     have K1:Hid (Kp [] w w1):=((Kp.refl _ _).alloc _).trans hk
     have c0:w1.cell? ⟨w.heap.size,0,none⟩=some (.int .i64 d):=hk.some (by simp [go_sem]) (by simp)
     have c2:w1.cell? ⟨w.heap.size,2,none⟩=some (.string (bs A)):=hk.some (by simp [go_sem]) (by simp)
     have c3:w1.cell? ⟨w.heap.size,3,none⟩=some (.string (bs B)):=hk.some (by simp [go_sem]) (by simp)
     have c4:w1.cell? ⟨w.heap.size,4,none⟩=some (.string (bs T)):=hk.some (by simp [go_sem]) (by simp)
     have c5:w1.cell? ⟨w.heap.size,5,none⟩=some (.int .i64 kk):=hk.some (by simp [go_sem]) (by simp)
     have c6:w1.cell? ⟨w.heap.size,6,none⟩=some (.slice aE E.length cE):=hk.some (by simp [go_sem]) (by simp)
     clear hk
     go_wp2_with fail
     refine (HL.out _).mono ?_
     rintro e w2 ⟨rfl,hk⟩
     have K2:Hid (Kp [] w w2):=K1.out.trans hk
     have g2:w2.cell? ⟨w.heap.size,2,none⟩=some (.string (bs A)):=hk.some c2 (by simp)
     have g3:w2.cell? ⟨w.heap.size,3,none⟩=some (.string (bs B)):=hk.some c3 (by simp)
     have g4:w2.cell? ⟨w.heap.size,4,none⟩=some (.string (bs T)):=hk.some c4 (by simp)
     have g5:w2.cell? ⟨w.heap.size,5,none⟩=some (.int .i64 kk):=hk.some c5 (by simp)
     have g6:w2.cell? ⟨w.heap.size,6,none⟩=some (.slice aE E.length cE):=hk.some c6 (by simp)
     clear hk
     clear c0 c2 c3 c4 c5 c6
     go_wp2_with fail
     refine (IA.out _).mono ?_
     rintro e w3 ⟨rfl,hk⟩
     have K3:Hid (Kp [] w w3):=K2.out.trans hk
     have gg3:w3.cell? ⟨w.heap.size,3,none⟩=some (.string (bs B)):=hk.some g3 (by simp)
     have gg4:w3.cell? ⟨w.heap.size,4,none⟩=some (.string (bs T)):=hk.some g4 (by simp)
     have gg5:w3.cell? ⟨w.heap.size,5,none⟩=some (.int .i64 kk):=hk.some g5 (by simp)
     have gg6:w3.cell? ⟨w.heap.size,6,none⟩=some (.slice aE E.length cE):=hk.some g6 (by simp)
     clear hk
     go_wp2_with fail
     refine (IB.out _).mono ?_
     rintro e w4 ⟨rfl,hk⟩
     have K4:Hid (Kp [] w w4):=K3.out.trans hk
     have ggg4:w4.cell? ⟨w.heap.size,4,none⟩=some (.string (bs T)):=hk.some gg4 (by simp)
     have ggg5:w4.cell? ⟨w.heap.size,5,none⟩=some (.int .i64 kk):=hk.some gg5 (by simp)
     have ggg6:w4.cell? ⟨w.heap.size,6,none⟩=some (.slice aE E.length cE):=hk.some gg6 (by simp)
     clear hk
     go_wp2_with fail
     go_ret
     exact ⟨rfl,K4.out⟩
    ·have d2:decide (kk<0)=false:=by simpa using hn
     have d3:decide (1000000000000000000≤kk)=true:=by simp;omega
     go_enter Tryz.func68,Tryz.ntmps68
     go_wp2_with fail
     refine (HF.out _ (HT.out.kp ((Kp.refl _ _).alloc _))).mono ?_
     rintro e w1 ⟨rfl,hk⟩
     have K1:Hid (Kp [] w w1):=((Kp.refl _ _).alloc _).trans hk
     have c0:w1.cell? ⟨w.heap.size,0,none⟩=some (.int .i64 d):=hk.some (by simp [go_sem]) (by simp)
     have c2:w1.cell? ⟨w.heap.size,2,none⟩=some (.string (bs A)):=hk.some (by simp [go_sem]) (by simp)
     have c3:w1.cell? ⟨w.heap.size,3,none⟩=some (.string (bs B)):=hk.some (by simp [go_sem]) (by simp)
     have c4:w1.cell? ⟨w.heap.size,4,none⟩=some (.string (bs T)):=hk.some (by simp [go_sem]) (by simp)
     have c5:w1.cell? ⟨w.heap.size,5,none⟩=some (.int .i64 kk):=hk.some (by simp [go_sem]) (by simp)
     have c6:w1.cell? ⟨w.heap.size,6,none⟩=some (.slice aE E.length cE):=hk.some (by simp [go_sem]) (by simp)
     clear hk
     go_wp2_with fail
     refine (HL.out _).mono ?_
     rintro e w2 ⟨rfl,hk⟩
     have K2:Hid (Kp [] w w2):=K1.out.trans hk
     have g2:w2.cell? ⟨w.heap.size,2,none⟩=some (.string (bs A)):=hk.some c2 (by simp)
     have g3:w2.cell? ⟨w.heap.size,3,none⟩=some (.string (bs B)):=hk.some c3 (by simp)
     have g4:w2.cell? ⟨w.heap.size,4,none⟩=some (.string (bs T)):=hk.some c4 (by simp)
     have g5:w2.cell? ⟨w.heap.size,5,none⟩=some (.int .i64 kk):=hk.some c5 (by simp)
     have g6:w2.cell? ⟨w.heap.size,6,none⟩=some (.slice aE E.length cE):=hk.some c6 (by simp)
     clear hk
     clear c0 c2 c3 c4 c5 c6
     go_wp2_with fail
     refine (IA.out _).mono ?_
     rintro e w3 ⟨rfl,hk⟩
     have K3:Hid (Kp [] w w3):=K2.out.trans hk
     have gg3:w3.cell? ⟨w.heap.size,3,none⟩=some (.string (bs B)):=hk.some g3 (by simp)
     have gg4:w3.cell? ⟨w.heap.size,4,none⟩=some (.string (bs T)):=hk.some g4 (by simp)
     have gg5:w3.cell? ⟨w.heap.size,5,none⟩=some (.int .i64 kk):=hk.some g5 (by simp)
     have gg6:w3.cell? ⟨w.heap.size,6,none⟩=some (.slice aE E.length cE):=hk.some g6 (by simp)
     clear hk
     go_wp2_with fail
     refine (IB.out _).mono ?_
     rintro e w4 ⟨rfl,hk⟩
     have K4:Hid (Kp [] w w4):=K3.out.trans hk
     have ggg4:w4.cell? ⟨w.heap.size,4,none⟩=some (.string (bs T)):=hk.some gg4 (by simp)
     have ggg5:w4.cell? ⟨w.heap.size,5,none⟩=some (.int .i64 kk):=hk.some gg5 (by simp)
     have ggg6:w4.cell? ⟨w.heap.size,6,none⟩=some (.slice aE E.length cE):=hk.some gg6 (by simp)
     clear hk
     go_wp2_with fail
     go_ret
     exact ⟨rfl,K4.out⟩
   ·rw [if_neg hz]
    have d2:decide (kk<0)=false:=by simp;omega
    have d3:decide (1000000000000000000≤kk)=false:=by simp;omega
    clear hz
    go_enter Tryz.func68,Tryz.ntmps68
    go_wp2_with fail
    refine (HF.out _ (HT.out.kp ((Kp.refl _ _).alloc _))).mono ?_
    rintro e w1 ⟨rfl,hk⟩
    have K1:Hid (Kp [] w w1):=((Kp.refl _ _).alloc _).trans hk
    have c0:w1.cell? ⟨w.heap.size,0,none⟩=some (.int .i64 d):=hk.some (by simp [go_sem]) (by simp)
    have c2:w1.cell? ⟨w.heap.size,2,none⟩=some (.string (bs A)):=hk.some (by simp [go_sem]) (by simp)
    have c3:w1.cell? ⟨w.heap.size,3,none⟩=some (.string (bs B)):=hk.some (by simp [go_sem]) (by simp)
    have c4:w1.cell? ⟨w.heap.size,4,none⟩=some (.string (bs T)):=hk.some (by simp [go_sem]) (by simp)
    have c5:w1.cell? ⟨w.heap.size,5,none⟩=some (.int .i64 kk):=hk.some (by simp [go_sem]) (by simp)
    have c6:w1.cell? ⟨w.heap.size,6,none⟩=some (.slice aE E.length cE):=hk.some (by simp [go_sem]) (by simp)
    clear hk
    go_wp2_with fail
    refine (HL.out _).mono ?_
    rintro e w2 ⟨rfl,hk⟩
    have K2:Hid (Kp [] w w2):=K1.out.trans hk
    have g2:w2.cell? ⟨w.heap.size,2,none⟩=some (.string (bs A)):=hk.some c2 (by simp)
    have g3:w2.cell? ⟨w.heap.size,3,none⟩=some (.string (bs B)):=hk.some c3 (by simp)
    have g4:w2.cell? ⟨w.heap.size,4,none⟩=some (.string (bs T)):=hk.some c4 (by simp)
    have g5:w2.cell? ⟨w.heap.size,5,none⟩=some (.int .i64 kk):=hk.some c5 (by simp)
    have g6:w2.cell? ⟨w.heap.size,6,none⟩=some (.slice aE E.length cE):=hk.some c6 (by simp)
    clear hk
    clear c0 c2 c3 c4 c5 c6
    go_wp2_with fail
    refine (IA.out _).mono ?_
    rintro e w3 ⟨rfl,hk⟩
    have K3:Hid (Kp [] w w3):=K2.out.trans hk
    have gg3:w3.cell? ⟨w.heap.size,3,none⟩=some (.string (bs B)):=hk.some g3 (by simp)
    have gg4:w3.cell? ⟨w.heap.size,4,none⟩=some (.string (bs T)):=hk.some g4 (by simp)
    have gg5:w3.cell? ⟨w.heap.size,5,none⟩=some (.int .i64 kk):=hk.some g5 (by simp)
    have gg6:w3.cell? ⟨w.heap.size,6,none⟩=some (.slice aE E.length cE):=hk.some g6 (by simp)
    clear hk
    go_wp2_with fail
    refine (IB.out _).mono ?_
    rintro e w4 ⟨rfl,hk⟩
    have K4:Hid (Kp [] w w4):=K3.out.trans hk
    have ggg4:w4.cell? ⟨w.heap.size,4,none⟩=some (.string (bs T)):=hk.some gg4 (by simp)
    have ggg5:w4.cell? ⟨w.heap.size,5,none⟩=some (.int .i64 kk):=hk.some gg5 (by simp)
    have ggg6:w4.cell? ⟨w.heap.size,6,none⟩=some (.slice aE E.length cE):=hk.some gg6 (by simp)
    clear hk
    go_wp2_with fail
    go_loopw [8] (fun iv wr=> ∃ (k:Nat),k≤E.length∧iv= .int .i64 k∧Hid (Rn.firstOf (Rn.ef (n+1)) E=Rn.firstOf (Rn.ef (n+1)) (E.drop k))∧Hid (Kp [] w wr)∧wr.cell? ⟨w.heap.size,6,none⟩=some (.slice aE E.length cE)) (fun iv _=>E.length - (intOf iv).toNat)
    case atStart=>exact ⟨0,Nat.zero_le _,rfl,rfl,K4.out,ggg6⟩
    case round=>
     obtain ⟨k,hk,rfl,HV,HK,p6⟩:=hrel
     by_cases hlt:k<E.length
     ·have d1:decide ((k:Int)<(E.length:Int))=true:=by simp;omega
      obtain ⟨b,off,op1,nm1,z1,L1,aL1,cL1,rfl,-,hd,m0,m1,m2,m3,hL⟩:=(HS.out.keep HK.out (by simp)).nth k hlt
      have hwl:Sx.wE n L1≤1000000000:=Nat.le_trans (Rn.wE_nth hd) HW.out
      have HP:=hide (rparts_any n wr P op1 z1 nm1 L1 aL1 cL1 hL hwl)
      have HX:=hide (fun w1 (hk:Kp [] wr w1)=>exprFault_any n w1 P op1 z1 nm1 L1 aL1 cL1 (hL.keep hk (by simp)) (HN.out k _ hd))
      have HDR:=hide (drop_nth hd)
      have HEF:Hid (Rn.ef (n+1) (Sx.tE op1 nm1 z1 L1)=if 20<1+Sx.wE n L1 then 8 else Rn.xf (n+1) (Sx.tE op1 nm1 z1 L1)):=by
       have:=hL.wE
       unfold Hid
       rw [←this]
       rfl
      have hk0:(0:Int)≤(k:Int):=by omega
      have hk1:(k:Int)<(E.length:Int):=by omega
      clear hL hd
      generalize Rn.xf (n+1) (Sx.tE op1 nm1 z1 L1)=X at *
      have hQ9:1+Sx.wE n L1≤1000000001:=by omega
      clear hwl
      generalize 1+Sx.wE n L1=Q at *
      by_cases hq:20<Q
      ·have d20:decide ((20:Int)<(Q:Int))=true:=by simp;omega
       rw [if_pos hq] at HEF
       go_wp2_with fail
       refine HP.out.mono ?_
       rintro e w3 ⟨rfl,hk2⟩
       have KK:=hide (HK.out.trans hk2)
       clear hk2
       go_wp2
       go_ret
       refine ⟨?_,KK.out⟩
       rw [Rn.tl,HV.out,HDR.out,Rn.firstOf,HEF.out]
       rfl
      ·have d20:decide ((20:Int)<(Q:Int))=false:=by simp;omega
       rw [if_neg hq] at HEF
       by_cases h0:X=0
       ·go_wp2_with fail
        refine HP.out.mono ?_
        rintro e w3 ⟨rfl,hk2⟩
        have KK:=hide hk2
        have q6:=hk2.some p6 (by simp)
        have n0:=hk2.some m0 (by simp)
        have n1:=hk2.some m1 (by simp)
        have n2:=hk2.some m2 (by simp)
        have n3:=hk2.some m3 (by simp)
        clear hk2
        go_wp2_with fail
        refine (HX.out _ KK.out).mono ?_
        rintro e w4 ⟨rfl,hk2⟩
        rw [h0]
        have r6:=hk2.some q6 (by simp)
        have KL:=hide (HK.out.trans (KK.out.trans hk2))
        clear hk2
        go_wp2
        go_roundw
        case rel=>exact ⟨k+1,by omega,by go_num,by rw [HV.out,HDR.out,Rn.firstOf,HEF.out,h0];rfl,KL.out,r6⟩
        case measure=>simp [intOf];omega
       ·go_wp2_with fail
        refine HP.out.mono ?_
        rintro e w3 ⟨rfl,hk2⟩
        have KK:=hide hk2
        have q6:=hk2.some p6 (by simp)
        have n0:=hk2.some m0 (by simp)
        have n1:=hk2.some m1 (by simp)
        have n2:=hk2.some m2 (by simp)
        have n3:=hk2.some m3 (by simp)
        clear hk2
        go_wp2_with fail
        refine (HX.out _ KK.out).mono ?_
        rintro e w4 ⟨rfl,hk2⟩
        have KL:=hide (HK.out.trans (KK.out.trans hk2))
        clear hk2
        go_wp2
        go_ret
        refine ⟨?_,KL.out⟩
        rw [Rn.tl,HV.out,HDR.out,Rn.firstOf,HEF.out,if_pos h0,if_pos h0]
        rfl
     ·obtain rfl:k=E.length:=by omega
      have d1:decide ((E.length:Int)<(E.length:Int))=false:=by simp
      rw [List.drop_length] at HV
      have HTL:Hid (Rn.tl (n+1) deep d E=if Rn.hasS d=true∧8≤deep then 7 else 0):=by
       unfold Hid Rn.tl
       rw [HV.out]
       rfl
      cases hS:Rn.hasS d with
      |false=>
       rw [hS] at HTL
       have z5:FL.extract 5 6=bs [45]:=by rw [x5,Rn.fS,hS];rfl
       clear x5
       go_wp2
       go_ret
       refine ⟨?_,HK.out⟩
       rw [HTL.out]
       rfl
      |true=>
       rw [hS] at HTL
       have z5:FL.extract 5 6=bs [66]:=by rw [x5,Rn.fS,hS];rfl
       clear x5
       by_cases h8:8≤deep
       ·have d8:decide ((8:Int)≤(deep:Int))=true:=by simp;omega
        rw [if_pos ⟨rfl,h8⟩] at HTL
        go_wp2
        go_ret
        refine ⟨?_,HK.out⟩
        rw [HTL.out]
        rfl
       ·have d8:decide ((8:Int)≤(deep:Int))=false:=by simp;omega
        rw [if_neg (fun hc=>h8 hc.2)] at HTL
        go_wp2
        go_ret
        refine ⟨?_,HK.out⟩
        rw [HTL.out]
        rfl
end Go.Proofs.YthcapfojofahkaaGreatDoor
namespace Go.Proofs.YthcapfojofahkaaGreatDoor
open Go.RowKit
set_option maxRecDepth 100000 in
set_option maxHeartbeats 8000000 in
theorem stmtFault_ttt (n deep num:Nat) (w:World) (hT:Tb w) (P:Nat→Prop) (d at' kk:Int) (A B T:List UInt8) (E:List Sx.Tr) (aE aB aL:Option Addr) (nB nL cE cB cL:Nat) (h1:1≤d) (h2:d≤14) (h300:num<300) (hfm:Rn.fm d A B T kk E.length nB nL=true) (hE6: ¬ 6<E.length)
  (hS:EL w P (n+1) E (.slice aE E.length cE)) (hW:Sx.wE (n+1) E≤1000000000) (hN: ∀ (i:Nat) x,E[i]? =some x→Rn.nmE (n+1) x) (lA:A.length≤1099511627776) (lB:B.length≤1099511627776) (lT:T.length≤1099511627776)
  (k0:Rn.hasA d=true) (k1:Rn.hasB d=true) (k2:Rn.hasT d=true):
  Calls Tryz.prog 68 #[.agg #[.int .i64 d,.int .i64 at',.string (bs A),.string (bs B),.string (bs T),.int .i64 kk,.slice aE E.length cE,.slice aB nB cB,.slice aL nL cL],.int .i64 num,.int .i64 deep] w fun e w'=>e= .returned (.int .i64 (if (Rn.hasA d=true∧Tk.isN A=false)∨(Rn.hasB d=true∧Tk.isN B=false) then 4
  else if Rn.hasT d=true∧Rn.isT T 3=false then 11 else if kk<0∨1000000000000000000≤kk then 14 else Rn.tl (n+1) deep d E))∧Kp [] w w':=by
 have HF:=hide (fun w h=>hfm ▸ stmtForm_any w h d at' kk A B T aE aB aL E.length nB nL cE cB cL (by omega))
 have HL:=hide (fun w=>fields_any d w h1 h2)
 have IA:=hide (fun w=>rnameW_any A w lA)
 have IB:=hide (fun w=>rnameW_any B w lB)
 have IT:=hide (fun w=>rIsType_any T 3 w lT)
 have HS:=hide hS
 have HW:=hide hW
 have HN:=hide hN
 have HT:=hide hT
 have d6:decide ((6:Int)<(E.length:Int))=false:=by simp;omega
 have d0:decide ((300:Int)≤(num:Int))=false:=by simp;omega
 have hle:E.length≤6:=by omega
 have hfn:((bs (Rn.fld d)).size:Int)=7:=rfl
 have x0:(bs (Rn.fld d)).extract 0 1=bs [65]:=by show bs [Rn.fA d]=_;rw [Rn.fA,k0];rfl
 have x1:(bs (Rn.fld d)).extract 1 2=bs [66]:=by show bs [Rn.fB d]=_;rw [Rn.fB,k1];rfl
 have x2:(bs (Rn.fld d)).extract 2 3=bs [84]:=by show bs [Rn.fT d]=_;rw [Rn.fT,k2];rfl
 have x5:(bs (Rn.fld d)).extract 5 6=bs [Rn.fS d]:=rfl
 have y45:(bs [45]).toList=[45]:=bsl _
 have y65:(bs [65]).toList=[65]:=bsl _
 have y66:(bs [66]).toList=[66]:=bsl _
 have y84:(bs [84]).toList=[84]:=bsl _
 rw [k0,k1,k2]
 clear hS hW hN hT lA lB lT hfm hE6 k0 k1 k2 h300
 generalize bs (Rn.fld d)=FL at *
 cases iA:Tk.isN A with
 |false=>
  rw [if_pos (.inl ⟨rfl,rfl⟩)]
  rw [iA] at IA
  go_enter Tryz.func68,Tryz.ntmps68
  go_wp2_with fail
  refine (HF.out _ (HT.out.kp ((Kp.refl _ _).alloc _))).mono ?_
  rintro e w1 ⟨rfl,hk⟩
  have K1:Hid (Kp [] w w1):=((Kp.refl _ _).alloc _).trans hk
  have c0:w1.cell? ⟨w.heap.size,0,none⟩=some (.int .i64 d):=hk.some (by simp [go_sem]) (by simp)
  have c2:w1.cell? ⟨w.heap.size,2,none⟩=some (.string (bs A)):=hk.some (by simp [go_sem]) (by simp)
  have c3:w1.cell? ⟨w.heap.size,3,none⟩=some (.string (bs B)):=hk.some (by simp [go_sem]) (by simp)
  have c4:w1.cell? ⟨w.heap.size,4,none⟩=some (.string (bs T)):=hk.some (by simp [go_sem]) (by simp)
  have c5:w1.cell? ⟨w.heap.size,5,none⟩=some (.int .i64 kk):=hk.some (by simp [go_sem]) (by simp)
  have c6:w1.cell? ⟨w.heap.size,6,none⟩=some (.slice aE E.length cE):=hk.some (by simp [go_sem]) (by simp)
  clear hk
  go_wp2_with fail
  refine (HL.out _).mono ?_
  rintro e w2 ⟨rfl,hk⟩
  have K2:Hid (Kp [] w w2):=K1.out.trans hk
  have g2:w2.cell? ⟨w.heap.size,2,none⟩=some (.string (bs A)):=hk.some c2 (by simp)
  have g3:w2.cell? ⟨w.heap.size,3,none⟩=some (.string (bs B)):=hk.some c3 (by simp)
  have g4:w2.cell? ⟨w.heap.size,4,none⟩=some (.string (bs T)):=hk.some c4 (by simp)
  have g5:w2.cell? ⟨w.heap.size,5,none⟩=some (.int .i64 kk):=hk.some c5 (by simp)
  have g6:w2.cell? ⟨w.heap.size,6,none⟩=some (.slice aE E.length cE):=hk.some c6 (by simp)
  clear hk
  clear c0 c2 c3 c4 c5 c6
  go_wp2_with fail
  refine (IA.out _).mono ?_
  rintro e w3 ⟨rfl,hk⟩
  have K3:Hid (Kp [] w w3):=K2.out.trans hk
  have gg3:w3.cell? ⟨w.heap.size,3,none⟩=some (.string (bs B)):=hk.some g3 (by simp)
  have gg4:w3.cell? ⟨w.heap.size,4,none⟩=some (.string (bs T)):=hk.some g4 (by simp)
  have gg5:w3.cell? ⟨w.heap.size,5,none⟩=some (.int .i64 kk):=hk.some g5 (by simp)
  have gg6:w3.cell? ⟨w.heap.size,6,none⟩=some (.slice aE E.length cE):=hk.some g6 (by simp)
  clear hk
  go_wp2_with fail
  go_ret
  exact ⟨rfl,K3.out⟩
 |true=>
  rw [iA] at IA
  cases iB:Tk.isN B with
  |false=>
   rw [if_pos (.inr ⟨rfl,rfl⟩)]
   rw [iB] at IB
   go_enter Tryz.func68,Tryz.ntmps68
   go_wp2_with fail
   refine (HF.out _ (HT.out.kp ((Kp.refl _ _).alloc _))).mono ?_
   rintro e w1 ⟨rfl,hk⟩
   have K1:Hid (Kp [] w w1):=((Kp.refl _ _).alloc _).trans hk
   have c0:w1.cell? ⟨w.heap.size,0,none⟩=some (.int .i64 d):=hk.some (by simp [go_sem]) (by simp)
   have c2:w1.cell? ⟨w.heap.size,2,none⟩=some (.string (bs A)):=hk.some (by simp [go_sem]) (by simp)
   have c3:w1.cell? ⟨w.heap.size,3,none⟩=some (.string (bs B)):=hk.some (by simp [go_sem]) (by simp)
   have c4:w1.cell? ⟨w.heap.size,4,none⟩=some (.string (bs T)):=hk.some (by simp [go_sem]) (by simp)
   have c5:w1.cell? ⟨w.heap.size,5,none⟩=some (.int .i64 kk):=hk.some (by simp [go_sem]) (by simp)
   have c6:w1.cell? ⟨w.heap.size,6,none⟩=some (.slice aE E.length cE):=hk.some (by simp [go_sem]) (by simp)
   clear hk
   go_wp2_with fail
   refine (HL.out _).mono ?_
   rintro e w2 ⟨rfl,hk⟩
   have K2:Hid (Kp [] w w2):=K1.out.trans hk
   have g2:w2.cell? ⟨w.heap.size,2,none⟩=some (.string (bs A)):=hk.some c2 (by simp)
   have g3:w2.cell? ⟨w.heap.size,3,none⟩=some (.string (bs B)):=hk.some c3 (by simp)
   have g4:w2.cell? ⟨w.heap.size,4,none⟩=some (.string (bs T)):=hk.some c4 (by simp)
   have g5:w2.cell? ⟨w.heap.size,5,none⟩=some (.int .i64 kk):=hk.some c5 (by simp)
   have g6:w2.cell? ⟨w.heap.size,6,none⟩=some (.slice aE E.length cE):=hk.some c6 (by simp)
   clear hk
   clear c0 c2 c3 c4 c5 c6
   go_wp2_with fail
   refine (IA.out _).mono ?_
   rintro e w3 ⟨rfl,hk⟩
   have K3:Hid (Kp [] w w3):=K2.out.trans hk
   have gg3:w3.cell? ⟨w.heap.size,3,none⟩=some (.string (bs B)):=hk.some g3 (by simp)
   have gg4:w3.cell? ⟨w.heap.size,4,none⟩=some (.string (bs T)):=hk.some g4 (by simp)
   have gg5:w3.cell? ⟨w.heap.size,5,none⟩=some (.int .i64 kk):=hk.some g5 (by simp)
   have gg6:w3.cell? ⟨w.heap.size,6,none⟩=some (.slice aE E.length cE):=hk.some g6 (by simp)
   clear hk
   go_wp2_with fail
   refine (IB.out _).mono ?_
   rintro e w4 ⟨rfl,hk⟩
   have K4:Hid (Kp [] w w4):=K3.out.trans hk
   have ggg4:w4.cell? ⟨w.heap.size,4,none⟩=some (.string (bs T)):=hk.some gg4 (by simp)
   have ggg5:w4.cell? ⟨w.heap.size,5,none⟩=some (.int .i64 kk):=hk.some gg5 (by simp)
   have ggg6:w4.cell? ⟨w.heap.size,6,none⟩=some (.slice aE E.length cE):=hk.some gg6 (by simp)
   clear hk
   go_wp2_with fail
   go_ret
   exact ⟨rfl,K4.out⟩
  |true=>
   rw [iB] at IB
   rw [if_neg (by simp)]
   cases iT:Rn.isT T 3 with
   |false=>
    rw [if_pos ⟨rfl,rfl⟩]
    rw [iT] at IT
    go_enter Tryz.func68,Tryz.ntmps68
    go_wp2_with fail
    refine (HF.out _ (HT.out.kp ((Kp.refl _ _).alloc _))).mono ?_
    rintro e w1 ⟨rfl,hk⟩
    have K1:Hid (Kp [] w w1):=((Kp.refl _ _).alloc _).trans hk
    have c0:w1.cell? ⟨w.heap.size,0,none⟩=some (.int .i64 d):=hk.some (by simp [go_sem]) (by simp)
    have c2:w1.cell? ⟨w.heap.size,2,none⟩=some (.string (bs A)):=hk.some (by simp [go_sem]) (by simp)
    have c3:w1.cell? ⟨w.heap.size,3,none⟩=some (.string (bs B)):=hk.some (by simp [go_sem]) (by simp)
    have c4:w1.cell? ⟨w.heap.size,4,none⟩=some (.string (bs T)):=hk.some (by simp [go_sem]) (by simp)
    have c5:w1.cell? ⟨w.heap.size,5,none⟩=some (.int .i64 kk):=hk.some (by simp [go_sem]) (by simp)
    have c6:w1.cell? ⟨w.heap.size,6,none⟩=some (.slice aE E.length cE):=hk.some (by simp [go_sem]) (by simp)
    clear hk
    go_wp2_with fail
    refine (HL.out _).mono ?_
    rintro e w2 ⟨rfl,hk⟩
    have K2:Hid (Kp [] w w2):=K1.out.trans hk
    have g2:w2.cell? ⟨w.heap.size,2,none⟩=some (.string (bs A)):=hk.some c2 (by simp)
    have g3:w2.cell? ⟨w.heap.size,3,none⟩=some (.string (bs B)):=hk.some c3 (by simp)
    have g4:w2.cell? ⟨w.heap.size,4,none⟩=some (.string (bs T)):=hk.some c4 (by simp)
    have g5:w2.cell? ⟨w.heap.size,5,none⟩=some (.int .i64 kk):=hk.some c5 (by simp)
    have g6:w2.cell? ⟨w.heap.size,6,none⟩=some (.slice aE E.length cE):=hk.some c6 (by simp)
    clear hk
    clear c0 c2 c3 c4 c5 c6
    go_wp2_with fail
    refine (IA.out _).mono ?_
    rintro e w3 ⟨rfl,hk⟩
    have K3:Hid (Kp [] w w3):=K2.out.trans hk
    have gg3:w3.cell? ⟨w.heap.size,3,none⟩=some (.string (bs B)):=hk.some g3 (by simp)
    have gg4:w3.cell? ⟨w.heap.size,4,none⟩=some (.string (bs T)):=hk.some g4 (by simp)
    have gg5:w3.cell? ⟨w.heap.size,5,none⟩=some (.int .i64 kk):=hk.some g5 (by simp)
    have gg6:w3.cell? ⟨w.heap.size,6,none⟩=some (.slice aE E.length cE):=hk.some g6 (by simp)
    clear hk
    go_wp2_with fail
    refine (IB.out _).mono ?_
    rintro e w4 ⟨rfl,hk⟩
    have K4:Hid (Kp [] w w4):=K3.out.trans hk
    have ggg4:w4.cell? ⟨w.heap.size,4,none⟩=some (.string (bs T)):=hk.some gg4 (by simp)
    have ggg5:w4.cell? ⟨w.heap.size,5,none⟩=some (.int .i64 kk):=hk.some gg5 (by simp)
    have ggg6:w4.cell? ⟨w.heap.size,6,none⟩=some (.slice aE E.length cE):=hk.some gg6 (by simp)
    clear hk
    go_wp2_with fail
    refine (IT.out _).mono ?_
    rintro e w9 ⟨rfl,hk⟩
    subst hk
    go_wp2_with fail
    go_ret
    exact ⟨rfl,K4.out⟩
   |true=>
    rw [iT] at IT
    rw [if_neg (by simp)]
    by_cases hz:kk<0∨1000000000000000000≤kk
    ·rw [if_pos hz]
     by_cases hn:kk<0
     ·have d2:decide (kk<0)=true:=by simpa using hn
      go_enter Tryz.func68,Tryz.ntmps68
      go_wp2_with fail
      refine (HF.out _ (HT.out.kp ((Kp.refl _ _).alloc _))).mono ?_
      rintro e w1 ⟨rfl,hk⟩
      have K1:Hid (Kp [] w w1):=((Kp.refl _ _).alloc _).trans hk
      have c0:w1.cell? ⟨w.heap.size,0,none⟩=some (.int .i64 d):=hk.some (by simp [go_sem]) (by simp)
      have c2:w1.cell? ⟨w.heap.size,2,none⟩=some (.string (bs A)):=hk.some (by simp [go_sem]) (by simp)
      have c3:w1.cell? ⟨w.heap.size,3,none⟩=some (.string (bs B)):=hk.some (by simp [go_sem]) (by simp)
      have c4:w1.cell? ⟨w.heap.size,4,none⟩=some (.string (bs T)):=hk.some (by simp [go_sem]) (by simp)
      have c5:w1.cell? ⟨w.heap.size,5,none⟩=some (.int .i64 kk):=hk.some (by simp [go_sem]) (by simp)
      have c6:w1.cell? ⟨w.heap.size,6,none⟩=some (.slice aE E.length cE):=hk.some (by simp [go_sem]) (by simp)
      clear hk
      go_wp2_with fail
      refine (HL.out _).mono ?_
      rintro e w2 ⟨rfl,hk⟩
      have K2:Hid (Kp [] w w2):=K1.out.trans hk
      have g2:w2.cell? ⟨w.heap.size,2,none⟩=some (.string (bs A)):=hk.some c2 (by simp)
      have g3:w2.cell? ⟨w.heap.size,3,none⟩=some (.string (bs B)):=hk.some c3 (by simp)
      have g4:w2.cell? ⟨w.heap.size,4,none⟩=some (.string (bs T)):=hk.some c4 (by simp)
      have g5:w2.cell? ⟨w.heap.size,5,none⟩=some (.int .i64 kk):=hk.some c5 (by simp)
      have g6:w2.cell? ⟨w.heap.size,6,none⟩=some (.slice aE E.length cE):=hk.some c6 (by simp)
      clear hk
      clear c0 c2 c3 c4 c5 c6
      go_wp2_with fail
      refine (IA.out _).mono ?_
      rintro e w3 ⟨rfl,hk⟩
      have K3:Hid (Kp [] w w3):=K2.out.trans hk
      have gg3:w3.cell? ⟨w.heap.size,3,none⟩=some (.string (bs B)):=hk.some g3 (by simp)
      have gg4:w3.cell? ⟨w.heap.size,4,none⟩=some (.string (bs T)):=hk.some g4 (by simp)
      have gg5:w3.cell? ⟨w.heap.size,5,none⟩=some (.int .i64 kk):=hk.some g5 (by simp)
      have gg6:w3.cell? ⟨w.heap.size,6,none⟩=some (.slice aE E.length cE):=hk.some g6 (by simp)
      clear hk
      go_wp2_with fail
      refine (IB.out _).mono ?_
      rintro e w4 ⟨rfl,hk⟩
      have K4:Hid (Kp [] w w4):=K3.out.trans hk
      have ggg4:w4.cell? ⟨w.heap.size,4,none⟩=some (.string (bs T)):=hk.some gg4 (by simp)
      have ggg5:w4.cell? ⟨w.heap.size,5,none⟩=some (.int .i64 kk):=hk.some gg5 (by simp)
      have ggg6:w4.cell? ⟨w.heap.size,6,none⟩=some (.slice aE E.length cE):=hk.some gg6 (by simp)
      clear hk
      go_wp2_with fail
      refine (IT.out _).mono ?_
      rintro e w9 ⟨rfl,hk⟩
      subst hk
      go_wp2_with fail
      go_ret
      exact ⟨rfl,K4.out⟩
     ·have d2:decide (kk<0)=false:=by simpa using hn
      have d3:decide (1000000000000000000≤kk)=true:=by simp;omega
      go_enter Tryz.func68,Tryz.ntmps68
      go_wp2_with fail
      refine (HF.out _ (HT.out.kp ((Kp.refl _ _).alloc _))).mono ?_
      rintro e w1 ⟨rfl,hk⟩
      have K1:Hid (Kp [] w w1):=((Kp.refl _ _).alloc _).trans hk
      have c0:w1.cell? ⟨w.heap.size,0,none⟩=some (.int .i64 d):=hk.some (by simp [go_sem]) (by simp)
      have c2:w1.cell? ⟨w.heap.size,2,none⟩=some (.string (bs A)):=hk.some (by simp [go_sem]) (by simp)
      have c3:w1.cell? ⟨w.heap.size,3,none⟩=some (.string (bs B)):=hk.some (by simp [go_sem]) (by simp)
      have c4:w1.cell? ⟨w.heap.size,4,none⟩=some (.string (bs T)):=hk.some (by simp [go_sem]) (by simp)
      have c5:w1.cell? ⟨w.heap.size,5,none⟩=some (.int .i64 kk):=hk.some (by simp [go_sem]) (by simp)
      have c6:w1.cell? ⟨w.heap.size,6,none⟩=some (.slice aE E.length cE):=hk.some (by simp [go_sem]) (by simp)
      clear hk
      go_wp2_with fail
      refine (HL.out _).mono ?_
      rintro e w2 ⟨rfl,hk⟩
      have K2:Hid (Kp [] w w2):=K1.out.trans hk
      have g2:w2.cell? ⟨w.heap.size,2,none⟩=some (.string (bs A)):=hk.some c2 (by simp)
      have g3:w2.cell? ⟨w.heap.size,3,none⟩=some (.string (bs B)):=hk.some c3 (by simp)
      have g4:w2.cell? ⟨w.heap.size,4,none⟩=some (.string (bs T)):=hk.some c4 (by simp)
      have g5:w2.cell? ⟨w.heap.size,5,none⟩=some (.int .i64 kk):=hk.some c5 (by simp)
      have g6:w2.cell? ⟨w.heap.size,6,none⟩=some (.slice aE E.length cE):=hk.some c6 (by simp)
      clear hk
      clear c0 c2 c3 c4 c5 c6
      go_wp2_with fail
      refine (IA.out _).mono ?_
      rintro e w3 ⟨rfl,hk⟩
      have K3:Hid (Kp [] w w3):=K2.out.trans hk
      have gg3:w3.cell? ⟨w.heap.size,3,none⟩=some (.string (bs B)):=hk.some g3 (by simp)
      have gg4:w3.cell? ⟨w.heap.size,4,none⟩=some (.string (bs T)):=hk.some g4 (by simp)
      have gg5:w3.cell? ⟨w.heap.size,5,none⟩=some (.int .i64 kk):=hk.some g5 (by simp)
      have gg6:w3.cell? ⟨w.heap.size,6,none⟩=some (.slice aE E.length cE):=hk.some g6 (by simp)
      clear hk
      go_wp2_with fail
      refine (IB.out _).mono ?_
      rintro e w4 ⟨rfl,hk⟩
      have K4:Hid (Kp [] w w4):=K3.out.trans hk
      have ggg4:w4.cell? ⟨w.heap.size,4,none⟩=some (.string (bs T)):=hk.some gg4 (by simp)
      have ggg5:w4.cell? ⟨w.heap.size,5,none⟩=some (.int .i64 kk):=hk.some gg5 (by simp)
      have ggg6:w4.cell? ⟨w.heap.size,6,none⟩=some (.slice aE E.length cE):=hk.some gg6 (by simp)
      clear hk
      go_wp2_with fail
      refine (IT.out _).mono ?_
      rintro e w9 ⟨rfl,hk⟩
      subst hk
      go_wp2_with fail
      go_ret
      exact ⟨rfl,K4.out⟩
    ·rw [if_neg hz]
     have d2:decide (kk<0)=false:=by simp;omega
     have d3:decide (1000000000000000000≤kk)=false:=by simp;omega
     clear hz
     go_enter Tryz.func68,Tryz.ntmps68
     go_wp2_with fail
     refine (HF.out _ (HT.out.kp ((Kp.refl _ _).alloc _))).mono ?_
     rintro e w1 ⟨rfl,hk⟩
     have K1:Hid (Kp [] w w1):=((Kp.refl _ _).alloc _).trans hk
     have c0:w1.cell? ⟨w.heap.size,0,none⟩=some (.int .i64 d):=hk.some (by simp [go_sem]) (by simp)
     have c2:w1.cell? ⟨w.heap.size,2,none⟩=some (.string (bs A)):=hk.some (by simp [go_sem]) (by simp)
     have c3:w1.cell? ⟨w.heap.size,3,none⟩=some (.string (bs B)):=hk.some (by simp [go_sem]) (by simp)
     have c4:w1.cell? ⟨w.heap.size,4,none⟩=some (.string (bs T)):=hk.some (by simp [go_sem]) (by simp)
     have c5:w1.cell? ⟨w.heap.size,5,none⟩=some (.int .i64 kk):=hk.some (by simp [go_sem]) (by simp)
     have c6:w1.cell? ⟨w.heap.size,6,none⟩=some (.slice aE E.length cE):=hk.some (by simp [go_sem]) (by simp)
     clear hk
     go_wp2_with fail
     refine (HL.out _).mono ?_
     rintro e w2 ⟨rfl,hk⟩
     have K2:Hid (Kp [] w w2):=K1.out.trans hk
     have g2:w2.cell? ⟨w.heap.size,2,none⟩=some (.string (bs A)):=hk.some c2 (by simp)
     have g3:w2.cell? ⟨w.heap.size,3,none⟩=some (.string (bs B)):=hk.some c3 (by simp)
     have g4:w2.cell? ⟨w.heap.size,4,none⟩=some (.string (bs T)):=hk.some c4 (by simp)
     have g5:w2.cell? ⟨w.heap.size,5,none⟩=some (.int .i64 kk):=hk.some c5 (by simp)
     have g6:w2.cell? ⟨w.heap.size,6,none⟩=some (.slice aE E.length cE):=hk.some c6 (by simp)
     clear hk
     clear c0 c2 c3 c4 c5 c6
     go_wp2_with fail
     refine (IA.out _).mono ?_
     rintro e w3 ⟨rfl,hk⟩
     have K3:Hid (Kp [] w w3):=K2.out.trans hk
     have gg3:w3.cell? ⟨w.heap.size,3,none⟩=some (.string (bs B)):=hk.some g3 (by simp)
     have gg4:w3.cell? ⟨w.heap.size,4,none⟩=some (.string (bs T)):=hk.some g4 (by simp)
     have gg5:w3.cell? ⟨w.heap.size,5,none⟩=some (.int .i64 kk):=hk.some g5 (by simp)
     have gg6:w3.cell? ⟨w.heap.size,6,none⟩=some (.slice aE E.length cE):=hk.some g6 (by simp)
     clear hk
     go_wp2_with fail
     refine (IB.out _).mono ?_
     rintro e w4 ⟨rfl,hk⟩
     have K4:Hid (Kp [] w w4):=K3.out.trans hk
     have ggg4:w4.cell? ⟨w.heap.size,4,none⟩=some (.string (bs T)):=hk.some gg4 (by simp)
     have ggg5:w4.cell? ⟨w.heap.size,5,none⟩=some (.int .i64 kk):=hk.some gg5 (by simp)
     have ggg6:w4.cell? ⟨w.heap.size,6,none⟩=some (.slice aE E.length cE):=hk.some gg6 (by simp)
     clear hk
     go_wp2_with fail
     refine (IT.out _).mono ?_
     rintro e w9 ⟨rfl,hk⟩
     subst hk
     go_wp2_with fail
     go_loopw [8] (fun iv wr=> ∃ (k:Nat),k≤E.length∧iv= .int .i64 k∧Hid (Rn.firstOf (Rn.ef (n+1)) E=Rn.firstOf (Rn.ef (n+1)) (E.drop k))∧Hid (Kp [] w wr)∧wr.cell? ⟨w.heap.size,6,none⟩=some (.slice aE E.length cE)) (fun iv _=>E.length - (intOf iv).toNat)
     case atStart=>exact ⟨0,Nat.zero_le _,rfl,rfl,K4.out,ggg6⟩
     case round=>
      obtain ⟨k,hk,rfl,HV,HK,p6⟩:=hrel
      by_cases hlt:k<E.length
      ·have d1:decide ((k:Int)<(E.length:Int))=true:=by simp;omega
       obtain ⟨b,off,op1,nm1,z1,L1,aL1,cL1,rfl,-,hd,m0,m1,m2,m3,hL⟩:=(HS.out.keep HK.out (by simp)).nth k hlt
       have hwl:Sx.wE n L1≤1000000000:=Nat.le_trans (Rn.wE_nth hd) HW.out
       have HP:=hide (rparts_any n wr P op1 z1 nm1 L1 aL1 cL1 hL hwl)
       have HX:=hide (fun w1 (hk:Kp [] wr w1)=>exprFault_any n w1 P op1 z1 nm1 L1 aL1 cL1 (hL.keep hk (by simp)) (HN.out k _ hd))
       have HDR:=hide (drop_nth hd)
       have HEF:Hid (Rn.ef (n+1) (Sx.tE op1 nm1 z1 L1)=if 20<1+Sx.wE n L1 then 8 else Rn.xf (n+1) (Sx.tE op1 nm1 z1 L1)):=by
        have:=hL.wE
        unfold Hid
        rw [←this]
        rfl
       have hk0:(0:Int)≤(k:Int):=by omega
       have hk1:(k:Int)<(E.length:Int):=by omega
       clear hL hd
       generalize Rn.xf (n+1) (Sx.tE op1 nm1 z1 L1)=X at *
       have hQ9:1+Sx.wE n L1≤1000000001:=by omega
       clear hwl
       generalize 1+Sx.wE n L1=Q at *
       by_cases hq:20<Q
       ·have d20:decide ((20:Int)<(Q:Int))=true:=by simp;omega
        rw [if_pos hq] at HEF
        go_wp2_with fail
        refine HP.out.mono ?_
        rintro e w3 ⟨rfl,hk2⟩
        have KK:=hide (HK.out.trans hk2)
        clear hk2
        go_wp2
        go_ret
        refine ⟨?_,KK.out⟩
        rw [Rn.tl,HV.out,HDR.out,Rn.firstOf,HEF.out]
        rfl
       ·have d20:decide ((20:Int)<(Q:Int))=false:=by simp;omega
        rw [if_neg hq] at HEF
        by_cases h0:X=0
        ·go_wp2_with fail
         refine HP.out.mono ?_
         rintro e w3 ⟨rfl,hk2⟩
         have KK:=hide hk2
         have q6:=hk2.some p6 (by simp)
         have n0:=hk2.some m0 (by simp)
         have n1:=hk2.some m1 (by simp)
         have n2:=hk2.some m2 (by simp)
         have n3:=hk2.some m3 (by simp)
         clear hk2
         go_wp2_with fail
         refine (HX.out _ KK.out).mono ?_
         rintro e w4 ⟨rfl,hk2⟩
         rw [h0]
         have r6:=hk2.some q6 (by simp)
         have KL:=hide (HK.out.trans (KK.out.trans hk2))
         clear hk2
         go_wp2
         go_roundw
         case rel=>exact ⟨k+1,by omega,by go_num,by rw [HV.out,HDR.out,Rn.firstOf,HEF.out,h0];rfl,KL.out,r6⟩
         case measure=>simp [intOf];omega
        ·go_wp2_with fail
         refine HP.out.mono ?_
         rintro e w3 ⟨rfl,hk2⟩
         have KK:=hide hk2
         have q6:=hk2.some p6 (by simp)
         have n0:=hk2.some m0 (by simp)
         have n1:=hk2.some m1 (by simp)
         have n2:=hk2.some m2 (by simp)
         have n3:=hk2.some m3 (by simp)
         clear hk2
         go_wp2_with fail
         refine (HX.out _ KK.out).mono ?_
         rintro e w4 ⟨rfl,hk2⟩
         have KL:=hide (HK.out.trans (KK.out.trans hk2))
         clear hk2
         go_wp2
         go_ret
         refine ⟨?_,KL.out⟩
         rw [Rn.tl,HV.out,HDR.out,Rn.firstOf,HEF.out,if_pos h0,if_pos h0]
         rfl
      ·obtain rfl:k=E.length:=by omega
       have d1:decide ((E.length:Int)<(E.length:Int))=false:=by simp
       rw [List.drop_length] at HV
       have HTL:Hid (Rn.tl (n+1) deep d E=if Rn.hasS d=true∧8≤deep then 7 else 0):=by
        unfold Hid Rn.tl
        rw [HV.out]
        rfl
       cases hS:Rn.hasS d with
       |false=>
        rw [hS] at HTL
        have z5:FL.extract 5 6=bs [45]:=by rw [x5,Rn.fS,hS];rfl
        clear x5
        go_wp2
        go_ret
        refine ⟨?_,HK.out⟩
        rw [HTL.out]
        rfl
       |true=>
        rw [hS] at HTL
        have z5:FL.extract 5 6=bs [66]:=by rw [x5,Rn.fS,hS];rfl
        clear x5
        by_cases h8:8≤deep
        ·have d8:decide ((8:Int)≤(deep:Int))=true:=by simp;omega
         rw [if_pos ⟨rfl,h8⟩] at HTL
         go_wp2
         go_ret
         refine ⟨?_,HK.out⟩
         rw [HTL.out]
         rfl
        ·have d8:decide ((8:Int)≤(deep:Int))=false:=by simp;omega
         rw [if_neg (fun hc=>h8 hc.2)] at HTL
         go_wp2
         go_ret
         refine ⟨?_,HK.out⟩
         rw [HTL.out]
         rfl
end Go.Proofs.YthcapfojofahkaaGreatDoor
namespace Go.Proofs.YthcapfojofahkaaGreatDoor
open Go.RowKit
set_option maxRecDepth 100000 in
set_option maxHeartbeats 8000000 in
theorem stmtFault_any (n deep num:Nat) (w:World) (hT:Tb w) (P:Nat→Prop) (d at' kk:Int) (A B T:List UInt8) (E:List Sx.Tr) (aE aB aL:Option Addr) (nB nL cE cB cL:Nat) (b o:List Sx.Tr) (hb:b.length=nB) (ho:o.length=nL) (hn:num≤1000000000) (hS:EL w P (n+1) E (.slice aE E.length cE)) (hl:E.length≤1000000000) (hW:Sx.wE (n+1) E≤1000000000) (hN: ∀ (i:Nat) x,E[i]? =some x→Rn.nmE (n+1) x) (lA:A.length≤1099511627776) (lB:B.length≤1099511627776) (lT:T.length≤1099511627776):
  Calls Tryz.prog 68 #[.agg #[.int .i64 d,.int .i64 at',.string (bs A),.string (bs B),.string (bs T),.int .i64 kk,.slice aE E.length cE,.slice aB nB cB,.slice aL nL cL],.int .i64 num,.int .i64 deep] w fun e w'=>e= .returned (.int .i64 (if 300≤num then 8 else Rn.sf (n+1) deep (Sx.tS d at' A B T kk E b o)))∧Kp [] w w':=by
 subst hb ho
 by_cases h3:300≤num
 ·rw [if_pos h3]
  have d0:decide ((300:Int)≤(num:Int))=true:=by simp;omega
  clear hT hS hW hN
  go_enter Tryz.func68,Tryz.ntmps68
  go_wp2
  go_ret
  exact ⟨rfl,(Kp.refl _ _).alloc _⟩
 ·rw [if_neg h3,Rn.sf_eq]
  have d0:decide ((300:Int)≤(num:Int))=false:=by simp;omega
  cases hfm:Rn.fm d A B T kk E.length b.length o.length with
  |false=>
   rw [if_pos rfl]
   have HF:=hide (fun w h=>hfm ▸ stmtForm_any w h d at' kk A B T aE aB aL E.length b.length o.length cE cB cL hl)
   have HT:=hide hT
   clear hT hfm hS hW hN
   go_enter Tryz.func68,Tryz.ntmps68
   go_wp2_with fail
   refine (HF.out _ (HT.out.kp ((Kp.refl _ _).alloc _))).mono ?_
   rintro e w1 ⟨rfl,hk⟩
   have K1:Hid (Kp [] w w1):=((Kp.refl _ _).alloc _).trans hk
   clear hk
   go_wp2
   go_ret
   exact ⟨rfl,K1.out⟩
  |true=>
   rw [if_neg (by simp)]
   obtain ⟨h1,h2⟩:=Rn.fm_kind hfm
   by_cases h6:6<E.length
   ·rw [if_pos h6]
    have HF:=hide (fun w h=>hfm ▸ stmtForm_any w h d at' kk A B T aE aB aL E.length b.length o.length cE cB cL hl)
    have HT:=hide hT
    have d6:decide ((6:Int)<(E.length:Int))=true:=by simp;omega
    clear hT hfm hS hW hN
    go_enter Tryz.func68,Tryz.ntmps68
    go_wp2_with fail
    refine (HF.out _ (HT.out.kp ((Kp.refl _ _).alloc _))).mono ?_
    rintro e w1 ⟨rfl,hk⟩
    have K1:Hid (Kp [] w w1):=((Kp.refl _ _).alloc _).trans hk
    have c6:w1.cell? ⟨w.heap.size,6,none⟩=some (.slice aE E.length cE):=hk.some (by simp [go_sem]) (by simp)
    clear hk
    go_wp2
    go_ret
    exact ⟨rfl,K1.out⟩
   ·rw [if_neg h6]
    rcases Rn.has_kinds h1 h2 with ⟨k0,k1,k2⟩|⟨k0,k1,k2⟩|⟨k0,k1,k2⟩|⟨k0,k1,k2⟩
    ·exact stmtFault_fff n deep num w hT P d at' kk A B T E aE aB aL _ _ cE cB cL h1 h2 (by omega) hfm h6 hS hW hN lA lB lT k0 k1 k2
    ·exact stmtFault_tff n deep num w hT P d at' kk A B T E aE aB aL _ _ cE cB cL h1 h2 (by omega) hfm h6 hS hW hN lA lB lT k0 k1 k2
    ·exact stmtFault_ttf n deep num w hT P d at' kk A B T E aE aB aL _ _ cE cB cL h1 h2 (by omega) hfm h6 hS hW hN lA lB lT k0 k1 k2
    ·exact stmtFault_ttt n deep num w hT P d at' kk A B T E aE aB aL _ _ cE cB cL h1 h2 (by omega) hfm h6 hS hW hN lA lB lT k0 k1 k2
end Go.Proofs.YthcapfojofahkaaGreatDoor
