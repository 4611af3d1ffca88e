import Derived.Test.YthcapfojofahkaaGreatDoorMah
import Derived.Lib.ItoaMem
import Derived.BigQuiet
import Derived.Deep.RegionHeldLaw
namespace Go.Proofs.YthcapfojofahkaaGreatDoor
open Go.RowKit
theorem Rn.z_of (h:Bool) (l:UInt8) (hl:l ≠ 45) (b:Bool):([if h then l else 45] !=[45] || b)=(h || b):=by
 cases h with
 |true=>
  have:([l] !=[45])=true:=by simpa using hl
  simp only [if_true,this,Bool.true_or]
 |false=>rfl
theorem dec_ne (u:Nat):Lib.decDigits u ≠ []:=by
 rw [Lib.decDigits]
 split
 ·simp
 ·simp
theorem itoa_digit (n c:Nat) (hc:c<10):(Lib.itoa n == [UInt8.ofNat (48+c)])=(n == c):=by
 rw [Lib.itoa_nonneg]
 by_cases h:n<10
 ·rw [Lib.decDigits_one h]
  by_cases e:n=c
  ·subst e;simp
  ·have e1:(n == c)=false:=by simpa using e
   rw [e1]
   apply beq_eq_false_iff_ne.2
   intro hh
   have:=congrArg (fun l:List UInt8=>(l.headD 0).toNat) hh
   simp [UInt8.toNat_ofNat'] at this
   omega
 ·have e1:(n == c)=false:=by simp;omega
  rw [e1,Lib.decDigits,dif_neg h]
  apply beq_eq_false_iff_ne.2
  intro hh
  have:=congrArg List.length hh
  simp at this
  exact dec_ne _ this
theorem z_any (h:Bool) (l:UInt8) (hl:l ≠ 45) (b z:Bool) (hz:(h || b)=z) (w:World):
  Calls Tryz.prog 123 #[.string (bs [if h then l else 45]),.bool b] w fun e w'=>e= .returned (.bool z)∧w'=w:=by
 have:=zeroOr_any [if h then l else 45] b w
 rw [Rn.z_of h l hl b,hz] at this
 exact this
end Go.Proofs.YthcapfojofahkaaGreatDoor
namespace Go.Proofs.YthcapfojofahkaaGreatDoor
open Go.RowKit
set_option maxRecDepth 100000 in
set_option maxHeartbeats 40000000 in
theorem stmtForm_0 (w:World) (hT:Tb w) (d at' k:Int) (A B T:List UInt8) (aE aB aL:Option Addr) (nE nB nL cE cB cL:Nat) (h1:1≤d) (h2:d≤14) (hE:nE≤1000000000)
  (z1 z2 z3 z5 z6:Bool) (h0:(Rn.hasA d || A.isEmpty)=false) (h1':(Rn.hasB d || B.isEmpty)=z1) (h2':(Rn.hasT d || T.isEmpty)=z2) (h3:(Rn.hasT d || k == 0)=z3) (h5:(Rn.hasS d || nB == 0)=z5) (h6:(Rn.hasO d || nL == 0)=z6):
  Calls Tryz.prog 92 #[.agg #[.int .i64 d,.int .i64 at',.string (bs A),.string (bs B),.string (bs T),.int .i64 k,.slice aE nE cE,.slice aB nB cB,.slice aL nL cL]] w
   fun e w'=>e= .returned (.bool (false && z1 && z2 && z3 && z5 && z6 && (d == 10 || nE == Rn.fewE d)))∧Kp [] w w':=by
 have HF:=hide (fun w=>fields_any d w h1 h2)
 have Z0:=hide (fun w=>z_any (Rn.hasA d) 65 (by decide) A.isEmpty false h0 w)
 have Z1:=hide (fun w=>z_any (Rn.hasB d) 66 (by decide) B.isEmpty z1 h1' w)
 have Z2:=hide (fun w=>z_any (Rn.hasT d) 84 (by decide) T.isEmpty z2 h2' w)
 have Z3:=hide (fun (b:Bool) (hb:b=(k == 0)) w=>z_any (Rn.hasT d) 78 (by decide) b z3 (by rw [hb];exact h3) w)
 have Z5:=hide (fun (b:Bool) (hb:b=true ↔ nB=0) w=>z_any (Rn.hasS d) 66 (by decide) b z5 (by rw [show b=(nB == 0) from by rw [Bool.eq_iff_iff,hb];simp];exact h5) w)
 have Z6:=hide (fun (b:Bool) (hb:b=true ↔ nL=0) w=>z_any (Rn.hasO d) 69 (by decide) b z6 (by rw [show b=(nL == 0) from by rw [Bool.eq_iff_iff,hb];simp];exact h6) w)
 change Hid (∀ w,Calls Tryz.prog 123 #[.string (bs [Rn.fA d]),.bool A.isEmpty] w _) at Z0
 change Hid (∀ w,Calls Tryz.prog 123 #[.string (bs [Rn.fB d]),.bool B.isEmpty] w _) at Z1
 change Hid (∀ w,Calls Tryz.prog 123 #[.string (bs [Rn.fT d]),.bool T.isEmpty] w _) at Z2
 change Hid (∀ b,_→ ∀ w,Calls Tryz.prog 123 #[.string (bs [Rn.fN d]),.bool b] w _) at Z3
 change Hid (∀ b,_→ ∀ w,Calls Tryz.prog 123 #[.string (bs [Rn.fS d]),.bool b] w _) at Z5
 change Hid (∀ b,_→ ∀ w,Calls Tryz.prog 123 #[.string (bs [Rn.fO d]),.bool b] w _) at Z6
 have HI:=hide (fun w (h:Tb w)=>itoa_any nE w (by omega) (by omega) h)
 have HTb:=hide hT
 have eA:(bs A).toList=A:=bsl A
 have eB:(bs B).toList=B:=bsl B
 have eT:(bs T).toList=T:=bsl T
 have HFE:Hid (if d=10 then Rn.fE d=42 else Rn.fE d=UInt8.ofNat (48+Rn.fewE d)∧Rn.fewE d<10):=by
  unfold Hid
  rcases Rn.kinds h1 h2 with rfl|rfl|rfl|rfl|rfl|rfl|rfl|rfl|rfl|rfl|rfl|rfl|rfl|rfl
  all_goals decide
 have hfs:(bs (Rn.fld d)).toList=Rn.fld d:=bsl _
 have hfn:((bs (Rn.fld d)).size:Int)=7:=rfl
 have hfe:(Rn.fld d).isEmpty=false:=rfl
 have x0:(bs (Rn.fld d)).extract 0 1=bs [Rn.fA d]:=rfl
 have x1:(bs (Rn.fld d)).extract 1 2=bs [Rn.fB d]:=rfl
 have x2:(bs (Rn.fld d)).extract 2 3=bs [Rn.fT d]:=rfl
 have x3:(bs (Rn.fld d)).extract 3 4=bs [Rn.fN d]:=rfl
 have x4:(bs (Rn.fld d)).extract 4 5=bs [Rn.fE d]:=rfl
 have x5:(bs (Rn.fld d)).extract 5 6=bs [Rn.fS d]:=rfl
 have x6:(bs (Rn.fld d)).extract 6 7=bs [Rn.fO d]:=rfl
 clear h0 h1' h2' h3 h5 h6 hT
 generalize hFL:bs (Rn.fld d)=FL at *
 generalize hfl:Rn.fld d=fl at *
 clear hFL hfl
 generalize Rn.fA d=yA at *
 generalize Rn.fB d=yB at *
 generalize Rn.fT d=yT at *
 generalize Rn.fN d=yN at *
 generalize Rn.fE d=yE at *
 generalize Rn.fS d=yS at *
 generalize Rn.fO d=yO at *
 go_enter Tryz.func92,Tryz.ntmps92
 go_wp2_with fail
 refine (HF.out _).mono ?_
 rintro e w1 ⟨rfl,hk⟩
 have HCS:Hid (∀ (j:Nat) v,(#[.int .i64 d,.int .i64 at',.string (bs A),.string (bs B),.string (bs T),.int .i64 k,.slice aE nE cE,.slice aB nB cB,.slice aL nL cL]:Array Value)[j]? =some v→w1.cell? ⟨w.heap.size,j,none⟩=some v):=fun j v hv=>hk.some (by simpa [go_sem] using hv) (by simp)
 have K1:Hid (Kp [] w w1):=((Kp.refl [] _).alloc _).trans hk
 have c2:=HCS.out 2 _ rfl
 have c3:=HCS.out 3 _ rfl
 have c4:=HCS.out 4 _ rfl
 have c5:=HCS.out 5 _ rfl
 have c6:=HCS.out 6 _ rfl
 have c7:=HCS.out 7 _ rfl
 have c8:=HCS.out 8 _ rfl
 clear hk
 go_wp2_with fail
 generalize (Value.agg #[.int .i64 d,.int .i64 at',.string (bs A),.string (bs B),.string (bs T),.int .i64 k,.slice aE nE cE,.slice aB nB cB,.slice aL nL cL])=v0
 go_quiet (first|(go_at_call 123;with_reducible refine Calls.quiet_of_same (Z0.out _))|(go_at_call 123;with_reducible refine Calls.quiet_of_same (Z1.out _))|(go_at_call 123;with_reducible refine Calls.quiet_of_same (Z2.out _))|(go_at_call 123;with_reducible refine Calls.quiet_of_same (Z3.out _ (by first|rfl|(simp;done)) _))|(go_at_call 123;with_reducible refine Calls.quiet_of_same (Z5.out _ (by first|(simp;done)|(simp;omega)) _))|(go_at_call 123;with_reducible refine Calls.quiet_of_same (Z6.out _ (by first|(simp;done)|(simp;omega)) _)))
 go_wp2
 go_ret
 exact ⟨rfl,K1.out.drewN _⟩
end Go.Proofs.YthcapfojofahkaaGreatDoor
namespace Go.Proofs.YthcapfojofahkaaGreatDoor
open Go.RowKit
set_option maxRecDepth 100000 in
set_option maxHeartbeats 40000000 in
theorem stmtForm_1 (w:World) (hT:Tb w) (d at' k:Int) (A B T:List UInt8) (aE aB aL:Option Addr) (nE nB nL cE cB cL:Nat) (h1:1≤d) (h2:d≤14) (hE:nE≤1000000000)
  (z2 z3 z5 z6:Bool) (h0:(Rn.hasA d || A.isEmpty)=true) (h1':(Rn.hasB d || B.isEmpty)=false) (h2':(Rn.hasT d || T.isEmpty)=z2) (h3:(Rn.hasT d || k == 0)=z3) (h5:(Rn.hasS d || nB == 0)=z5) (h6:(Rn.hasO d || nL == 0)=z6):
  Calls Tryz.prog 92 #[.agg #[.int .i64 d,.int .i64 at',.string (bs A),.string (bs B),.string (bs T),.int .i64 k,.slice aE nE cE,.slice aB nB cB,.slice aL nL cL]] w
   fun e w'=>e= .returned (.bool (true && false && z2 && z3 && z5 && z6 && (d == 10 || nE == Rn.fewE d)))∧Kp [] w w':=by
 have HF:=hide (fun w=>fields_any d w h1 h2)
 have Z0:=hide (fun w=>z_any (Rn.hasA d) 65 (by decide) A.isEmpty true h0 w)
 have Z1:=hide (fun w=>z_any (Rn.hasB d) 66 (by decide) B.isEmpty false h1' w)
 have Z2:=hide (fun w=>z_any (Rn.hasT d) 84 (by decide) T.isEmpty z2 h2' w)
 have Z3:=hide (fun (b:Bool) (hb:b=(k == 0)) w=>z_any (Rn.hasT d) 78 (by decide) b z3 (by rw [hb];exact h3) w)
 have Z5:=hide (fun (b:Bool) (hb:b=true ↔ nB=0) w=>z_any (Rn.hasS d) 66 (by decide) b z5 (by rw [show b=(nB == 0) from by rw [Bool.eq_iff_iff,hb];simp];exact h5) w)
 have Z6:=hide (fun (b:Bool) (hb:b=true ↔ nL=0) w=>z_any (Rn.hasO d) 69 (by decide) b z6 (by rw [show b=(nL == 0) from by rw [Bool.eq_iff_iff,hb];simp];exact h6) w)
 change Hid (∀ w,Calls Tryz.prog 123 #[.string (bs [Rn.fA d]),.bool A.isEmpty] w _) at Z0
 change Hid (∀ w,Calls Tryz.prog 123 #[.string (bs [Rn.fB d]),.bool B.isEmpty] w _) at Z1
 change Hid (∀ w,Calls Tryz.prog 123 #[.string (bs [Rn.fT d]),.bool T.isEmpty] w _) at Z2
 change Hid (∀ b,_→ ∀ w,Calls Tryz.prog 123 #[.string (bs [Rn.fN d]),.bool b] w _) at Z3
 change Hid (∀ b,_→ ∀ w,Calls Tryz.prog 123 #[.string (bs [Rn.fS d]),.bool b] w _) at Z5
 change Hid (∀ b,_→ ∀ w,Calls Tryz.prog 123 #[.string (bs [Rn.fO d]),.bool b] w _) at Z6
 have HI:=hide (fun w (h:Tb w)=>itoa_any nE w (by omega) (by omega) h)
 have HTb:=hide hT
 have eA:(bs A).toList=A:=bsl A
 have eB:(bs B).toList=B:=bsl B
 have eT:(bs T).toList=T:=bsl T
 have HFE:Hid (if d=10 then Rn.fE d=42 else Rn.fE d=UInt8.ofNat (48+Rn.fewE d)∧Rn.fewE d<10):=by
  unfold Hid
  rcases Rn.kinds h1 h2 with rfl|rfl|rfl|rfl|rfl|rfl|rfl|rfl|rfl|rfl|rfl|rfl|rfl|rfl
  all_goals decide
 have hfs:(bs (Rn.fld d)).toList=Rn.fld d:=bsl _
 have hfn:((bs (Rn.fld d)).size:Int)=7:=rfl
 have hfe:(Rn.fld d).isEmpty=false:=rfl
 have x0:(bs (Rn.fld d)).extract 0 1=bs [Rn.fA d]:=rfl
 have x1:(bs (Rn.fld d)).extract 1 2=bs [Rn.fB d]:=rfl
 have x2:(bs (Rn.fld d)).extract 2 3=bs [Rn.fT d]:=rfl
 have x3:(bs (Rn.fld d)).extract 3 4=bs [Rn.fN d]:=rfl
 have x4:(bs (Rn.fld d)).extract 4 5=bs [Rn.fE d]:=rfl
 have x5:(bs (Rn.fld d)).extract 5 6=bs [Rn.fS d]:=rfl
 have x6:(bs (Rn.fld d)).extract 6 7=bs [Rn.fO d]:=rfl
 clear h0 h1' h2' h3 h5 h6 hT
 generalize hFL:bs (Rn.fld d)=FL at *
 generalize hfl:Rn.fld d=fl at *
 clear hFL hfl
 generalize Rn.fA d=yA at *
 generalize Rn.fB d=yB at *
 generalize Rn.fT d=yT at *
 generalize Rn.fN d=yN at *
 generalize Rn.fE d=yE at *
 generalize Rn.fS d=yS at *
 generalize Rn.fO d=yO at *
 go_enter Tryz.func92,Tryz.ntmps92
 go_wp2_with fail
 refine (HF.out _).mono ?_
 rintro e w1 ⟨rfl,hk⟩
 have HCS:Hid (∀ (j:Nat) v,(#[.int .i64 d,.int .i64 at',.string (bs A),.string (bs B),.string (bs T),.int .i64 k,.slice aE nE cE,.slice aB nB cB,.slice aL nL cL]:Array Value)[j]? =some v→w1.cell? ⟨w.heap.size,j,none⟩=some v):=fun j v hv=>hk.some (by simpa [go_sem] using hv) (by simp)
 have K1:Hid (Kp [] w w1):=((Kp.refl [] _).alloc _).trans hk
 have c2:=HCS.out 2 _ rfl
 have c3:=HCS.out 3 _ rfl
 have c4:=HCS.out 4 _ rfl
 have c5:=HCS.out 5 _ rfl
 have c6:=HCS.out 6 _ rfl
 have c7:=HCS.out 7 _ rfl
 have c8:=HCS.out 8 _ rfl
 clear hk
 go_wp2_with fail
 generalize (Value.agg #[.int .i64 d,.int .i64 at',.string (bs A),.string (bs B),.string (bs T),.int .i64 k,.slice aE nE cE,.slice aB nB cB,.slice aL nL cL])=v0
 go_quiet (first|(go_at_call 123;with_reducible refine Calls.quiet_of_same (Z0.out _))|(go_at_call 123;with_reducible refine Calls.quiet_of_same (Z1.out _))|(go_at_call 123;with_reducible refine Calls.quiet_of_same (Z2.out _))|(go_at_call 123;with_reducible refine Calls.quiet_of_same (Z3.out _ (by first|rfl|(simp;done)) _))|(go_at_call 123;with_reducible refine Calls.quiet_of_same (Z5.out _ (by first|(simp;done)|(simp;omega)) _))|(go_at_call 123;with_reducible refine Calls.quiet_of_same (Z6.out _ (by first|(simp;done)|(simp;omega)) _)))
 go_wp2
 go_ret
 exact ⟨rfl,K1.out.drewN _⟩
end Go.Proofs.YthcapfojofahkaaGreatDoor
namespace Go.Proofs.YthcapfojofahkaaGreatDoor
open Go.RowKit
set_option maxRecDepth 100000 in
set_option maxHeartbeats 40000000 in
theorem stmtForm_2 (w:World) (hT:Tb w) (d at' k:Int) (A B T:List UInt8) (aE aB aL:Option Addr) (nE nB nL cE cB cL:Nat) (h1:1≤d) (h2:d≤14) (hE:nE≤1000000000)
  (z3 z5 z6:Bool) (h0:(Rn.hasA d || A.isEmpty)=true) (h1':(Rn.hasB d || B.isEmpty)=true) (h2':(Rn.hasT d || T.isEmpty)=false) (h3:(Rn.hasT d || k == 0)=z3) (h5:(Rn.hasS d || nB == 0)=z5) (h6:(Rn.hasO d || nL == 0)=z6):
  Calls Tryz.prog 92 #[.agg #[.int .i64 d,.int .i64 at',.string (bs A),.string (bs B),.string (bs T),.int .i64 k,.slice aE nE cE,.slice aB nB cB,.slice aL nL cL]] w
   fun e w'=>e= .returned (.bool (true && true && false && z3 && z5 && z6 && (d == 10 || nE == Rn.fewE d)))∧Kp [] w w':=by
 have HF:=hide (fun w=>fields_any d w h1 h2)
 have Z0:=hide (fun w=>z_any (Rn.hasA d) 65 (by decide) A.isEmpty true h0 w)
 have Z1:=hide (fun w=>z_any (Rn.hasB d) 66 (by decide) B.isEmpty true h1' w)
 have Z2:=hide (fun w=>z_any (Rn.hasT d) 84 (by decide) T.isEmpty false h2' w)
 have Z3:=hide (fun (b:Bool) (hb:b=(k == 0)) w=>z_any (Rn.hasT d) 78 (by decide) b z3 (by rw [hb];exact h3) w)
 have Z5:=hide (fun (b:Bool) (hb:b=true ↔ nB=0) w=>z_any (Rn.hasS d) 66 (by decide) b z5 (by rw [show b=(nB == 0) from by rw [Bool.eq_iff_iff,hb];simp];exact h5) w)
 have Z6:=hide (fun (b:Bool) (hb:b=true ↔ nL=0) w=>z_any (Rn.hasO d) 69 (by decide) b z6 (by rw [show b=(nL == 0) from by rw [Bool.eq_iff_iff,hb];simp];exact h6) w)
 change Hid (∀ w,Calls Tryz.prog 123 #[.string (bs [Rn.fA d]),.bool A.isEmpty] w _) at Z0
 change Hid (∀ w,Calls Tryz.prog 123 #[.string (bs [Rn.fB d]),.bool B.isEmpty] w _) at Z1
 change Hid (∀ w,Calls Tryz.prog 123 #[.string (bs [Rn.fT d]),.bool T.isEmpty] w _) at Z2
 change Hid (∀ b,_→ ∀ w,Calls Tryz.prog 123 #[.string (bs [Rn.fN d]),.bool b] w _) at Z3
 change Hid (∀ b,_→ ∀ w,Calls Tryz.prog 123 #[.string (bs [Rn.fS d]),.bool b] w _) at Z5
 change Hid (∀ b,_→ ∀ w,Calls Tryz.prog 123 #[.string (bs [Rn.fO d]),.bool b] w _) at Z6
 have HI:=hide (fun w (h:Tb w)=>itoa_any nE w (by omega) (by omega) h)
 have HTb:=hide hT
 have eA:(bs A).toList=A:=bsl A
 have eB:(bs B).toList=B:=bsl B
 have eT:(bs T).toList=T:=bsl T
 have HFE:Hid (if d=10 then Rn.fE d=42 else Rn.fE d=UInt8.ofNat (48+Rn.fewE d)∧Rn.fewE d<10):=by
  unfold Hid
  rcases Rn.kinds h1 h2 with rfl|rfl|rfl|rfl|rfl|rfl|rfl|rfl|rfl|rfl|rfl|rfl|rfl|rfl
  all_goals decide
 have hfs:(bs (Rn.fld d)).toList=Rn.fld d:=bsl _
 have hfn:((bs (Rn.fld d)).size:Int)=7:=rfl
 have hfe:(Rn.fld d).isEmpty=false:=rfl
 have x0:(bs (Rn.fld d)).extract 0 1=bs [Rn.fA d]:=rfl
 have x1:(bs (Rn.fld d)).extract 1 2=bs [Rn.fB d]:=rfl
 have x2:(bs (Rn.fld d)).extract 2 3=bs [Rn.fT d]:=rfl
 have x3:(bs (Rn.fld d)).extract 3 4=bs [Rn.fN d]:=rfl
 have x4:(bs (Rn.fld d)).extract 4 5=bs [Rn.fE d]:=rfl
 have x5:(bs (Rn.fld d)).extract 5 6=bs [Rn.fS d]:=rfl
 have x6:(bs (Rn.fld d)).extract 6 7=bs [Rn.fO d]:=rfl
 clear h0 h1' h2' h3 h5 h6 hT
 generalize hFL:bs (Rn.fld d)=FL at *
 generalize hfl:Rn.fld d=fl at *
 clear hFL hfl
 generalize Rn.fA d=yA at *
 generalize Rn.fB d=yB at *
 generalize Rn.fT d=yT at *
 generalize Rn.fN d=yN at *
 generalize Rn.fE d=yE at *
 generalize Rn.fS d=yS at *
 generalize Rn.fO d=yO at *
 go_enter Tryz.func92,Tryz.ntmps92
 go_wp2_with fail
 refine (HF.out _).mono ?_
 rintro e w1 ⟨rfl,hk⟩
 have HCS:Hid (∀ (j:Nat) v,(#[.int .i64 d,.int .i64 at',.string (bs A),.string (bs B),.string (bs T),.int .i64 k,.slice aE nE cE,.slice aB nB cB,.slice aL nL cL]:Array Value)[j]? =some v→w1.cell? ⟨w.heap.size,j,none⟩=some v):=fun j v hv=>hk.some (by simpa [go_sem] using hv) (by simp)
 have K1:Hid (Kp [] w w1):=((Kp.refl [] _).alloc _).trans hk
 have c2:=HCS.out 2 _ rfl
 have c3:=HCS.out 3 _ rfl
 have c4:=HCS.out 4 _ rfl
 have c5:=HCS.out 5 _ rfl
 have c6:=HCS.out 6 _ rfl
 have c7:=HCS.out 7 _ rfl
 have c8:=HCS.out 8 _ rfl
 clear hk
 go_wp2_with fail
 generalize (Value.agg #[.int .i64 d,.int .i64 at',.string (bs A),.string (bs B),.string (bs T),.int .i64 k,.slice aE nE cE,.slice aB nB cB,.slice aL nL cL])=v0
 go_quiet (first|(go_at_call 123;with_reducible refine Calls.quiet_of_same (Z0.out _))|(go_at_call 123;with_reducible refine Calls.quiet_of_same (Z1.out _))|(go_at_call 123;with_reducible refine Calls.quiet_of_same (Z2.out _))|(go_at_call 123;with_reducible refine Calls.quiet_of_same (Z3.out _ (by first|rfl|(simp;done)) _))|(go_at_call 123;with_reducible refine Calls.quiet_of_same (Z5.out _ (by first|(simp;done)|(simp;omega)) _))|(go_at_call 123;with_reducible refine Calls.quiet_of_same (Z6.out _ (by first|(simp;done)|(simp;omega)) _)))
 go_wp2
 go_ret
 exact ⟨rfl,K1.out.drewN _⟩
end Go.Proofs.YthcapfojofahkaaGreatDoor
