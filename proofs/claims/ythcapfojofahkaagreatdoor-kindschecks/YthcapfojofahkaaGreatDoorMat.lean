import Derived.Test.YthcapfojofahkaaGreatDoorMas
import Derived.Deep.RegionHeldLaw
namespace Go.Proofs.YthcapfojofahkaaGreatDoor
open Go.RowKit
set_option maxRecDepth 100000 in
set_option maxHeartbeats 40000000 in
theorem stmtForm_3 (w:World) (hT:Tb w) (d at' k:Int) (A B T:List UInt8) (aE aB aL:Option Addr) (nE nB nL cE cB cL:Nat) (h1:1≤d) (h2:d≤14) (hE:nE≤1000000000)
  (z5 z6:Bool) (h0:(Rn.hasA d || A.isEmpty)=true) (h1':(Rn.hasB d || B.isEmpty)=true) (h2':(Rn.hasT d || T.isEmpty)=true) (h3:(Rn.hasT d || k == 0)=false) (h5:(Rn.hasS d || nB == 0)=z5) (h6:(Rn.hasO d || nL == 0)=z6):
  Calls Tryz.prog 92 #[.agg #[.int .i64 d,.int .i64 at',.string (bs A),.string (bs B),.string (bs T),.int .i64 k,.slice aE nE cE,.slice aB nB cB,.slice aL nL cL]] w
   fun e w'=>e= .returned (.bool (true && true && true && false && z5 && z6 && (d == 10 || nE == Rn.fewE d)))∧Kp [] w w':=by
 have HF:=hide (fun w=>fields_any d w h1 h2)
 have Z0:=hide (fun w=>z_any (Rn.hasA d) 65 (by decide) A.isEmpty true h0 w)
 have Z1:=hide (fun w=>z_any (Rn.hasB d) 66 (by decide) B.isEmpty true h1' w)
 have Z2:=hide (fun w=>z_any (Rn.hasT d) 84 (by decide) T.isEmpty true h2' w)
 have Z3:=hide (fun (b:Bool) (hb:b=(k == 0)) w=>z_any (Rn.hasT d) 78 (by decide) b false (by rw [hb];exact h3) w)
 have Z5:=hide (fun (b:Bool) (hb:b=true ↔ nB=0) w=>z_any (Rn.hasS d) 66 (by decide) b z5 (by rw [show b=(nB == 0) from by rw [Bool.eq_iff_iff,hb];simp];exact h5) w)
 have Z6:=hide (fun (b:Bool) (hb:b=true ↔ nL=0) w=>z_any (Rn.hasO d) 69 (by decide) b z6 (by rw [show b=(nL == 0) from by rw [Bool.eq_iff_iff,hb];simp];exact h6) w)
 change Hid (∀ w,Calls Tryz.prog 123 #[.string (bs [Rn.fA d]),.bool A.isEmpty] w _) at Z0
 change Hid (∀ w,Calls Tryz.prog 123 #[.string (bs [Rn.fB d]),.bool B.isEmpty] w _) at Z1
 change Hid (∀ w,Calls Tryz.prog 123 #[.string (bs [Rn.fT d]),.bool T.isEmpty] w _) at Z2
 change Hid (∀ b,_→ ∀ w,Calls Tryz.prog 123 #[.string (bs [Rn.fN d]),.bool b] w _) at Z3
 change Hid (∀ b,_→ ∀ w,Calls Tryz.prog 123 #[.string (bs [Rn.fS d]),.bool b] w _) at Z5
 change Hid (∀ b,_→ ∀ w,Calls Tryz.prog 123 #[.string (bs [Rn.fO d]),.bool b] w _) at Z6
 have HI:=hide (fun w (h:Tb w)=>itoa_any nE w (by omega) (by omega) h)
 have HTb:=hide hT
 have eA:(bs A).toList=A:=bsl A
 have eB:(bs B).toList=B:=bsl B
 have eT:(bs T).toList=T:=bsl T
 have HFE:Hid (if d=10 then Rn.fE d=42 else Rn.fE d=UInt8.ofNat (48+Rn.fewE d)∧Rn.fewE d<10):=by
  unfold Hid
  rcases Rn.kinds h1 h2 with rfl|rfl|rfl|rfl|rfl|rfl|rfl|rfl|rfl|rfl|rfl|rfl|rfl|rfl
  all_goals decide
 have hfs:(bs (Rn.fld d)).toList=Rn.fld d:=bsl _
 have hfn:((bs (Rn.fld d)).size:Int)=7:=rfl
 have hfe:(Rn.fld d).isEmpty=false:=rfl
 have x0:(bs (Rn.fld d)).extract 0 1=bs [Rn.fA d]:=rfl
 have x1:(bs (Rn.fld d)).extract 1 2=bs [Rn.fB d]:=rfl
 have x2:(bs (Rn.fld d)).extract 2 3=bs [Rn.fT d]:=rfl
 have x3:(bs (Rn.fld d)).extract 3 4=bs [Rn.fN d]:=rfl
 have x4:(bs (Rn.fld d)).extract 4 5=bs [Rn.fE d]:=rfl
 have x5:(bs (Rn.fld d)).extract 5 6=bs [Rn.fS d]:=rfl
 have x6:(bs (Rn.fld d)).extract 6 7=bs [Rn.fO d]:=rfl
 clear h0 h1' h2' h3 h5 h6 hT
 generalize hFL:bs (Rn.fld d)=FL at *
 generalize hfl:Rn.fld d=fl at *
 clear hFL hfl
 generalize Rn.fA d=yA at *
 generalize Rn.fB d=yB at *
 generalize Rn.fT d=yT at *
 generalize Rn.fN d=yN at *
 generalize Rn.fE d=yE at *
 generalize Rn.fS d=yS at *
 generalize Rn.fO d=yO at *
 go_enter Tryz.func92,Tryz.ntmps92
 go_wp2_with fail
 refine (HF.out _).mono ?_
 rintro e w1 ⟨rfl,hk⟩
 have HCS:Hid (∀ (j:Nat) v,(#[.int .i64 d,.int .i64 at',.string (bs A),.string (bs B),.string (bs T),.int .i64 k,.slice aE nE cE,.slice aB nB cB,.slice aL nL cL]:Array Value)[j]? =some v→w1.cell? ⟨w.heap.size,j,none⟩=some v):=fun j v hv=>hk.some (by simpa [go_sem] using hv) (by simp)
 have K1:Hid (Kp [] w w1):=((Kp.refl [] _).alloc _).trans hk
 have c2:=HCS.out 2 _ rfl
 have c3:=HCS.out 3 _ rfl
 have c4:=HCS.out 4 _ rfl
 have c5:=HCS.out 5 _ rfl
 have c6:=HCS.out 6 _ rfl
 have c7:=HCS.out 7 _ rfl
 have c8:=HCS.out 8 _ rfl
 clear hk
 go_wp2_with fail
 generalize (Value.agg #[.int .i64 d,.int .i64 at',.string (bs A),.string (bs B),.string (bs T),.int .i64 k,.slice aE nE cE,.slice aB nB cB,.slice aL nL cL])=v0
 go_quiet (first|(go_at_call 123;with_reducible refine Calls.quiet_of_same (Z0.out _))|(go_at_call 123;with_reducible refine Calls.quiet_of_same (Z1.out _))|(go_at_call 123;with_reducible refine Calls.quiet_of_same (Z2.out _))|(go_at_call 123;with_reducible refine Calls.quiet_of_same (Z3.out _ (by first|rfl|(simp;done)) _))|(go_at_call 123;with_reducible refine Calls.quiet_of_same (Z5.out _ (by first|(simp;done)|(simp;omega)) _))|(go_at_call 123;with_reducible refine Calls.quiet_of_same (Z6.out _ (by first|(simp;done)|(simp;omega)) _)))
 go_wp2
 go_ret
 exact ⟨rfl,K1.out.drewN _⟩
end Go.Proofs.YthcapfojofahkaaGreatDoor
namespace Go.Proofs.YthcapfojofahkaaGreatDoor
open Go.RowKit
set_option maxRecDepth 100000 in
set_option maxHeartbeats 40000000 in
theorem stmtForm_4 (w:World) (hT:Tb w) (d at' k:Int) (A B T:List UInt8) (aE aB aL:Option Addr) (nE nB nL cE cB cL:Nat) (h1:1≤d) (h2:d≤14) (hE:nE≤1000000000)
  (z6:Bool) (h0:(Rn.hasA d || A.isEmpty)=true) (h1':(Rn.hasB d || B.isEmpty)=true) (h2':(Rn.hasT d || T.isEmpty)=true) (h3:(Rn.hasT d || k == 0)=true) (h5:(Rn.hasS d || nB == 0)=false) (h6:(Rn.hasO d || nL == 0)=z6):
  Calls Tryz.prog 92 #[.agg #[.int .i64 d,.int .i64 at',.string (bs A),.string (bs B),.string (bs T),.int .i64 k,.slice aE nE cE,.slice aB nB cB,.slice aL nL cL]] w
   fun e w'=>e= .returned (.bool (true && true && true && true && false && z6 && (d == 10 || nE == Rn.fewE d)))∧Kp [] w w':=by
 have HF:=hide (fun w=>fields_any d w h1 h2)
 have Z0:=hide (fun w=>z_any (Rn.hasA d) 65 (by decide) A.isEmpty true h0 w)
 have Z1:=hide (fun w=>z_any (Rn.hasB d) 66 (by decide) B.isEmpty true h1' w)
 have Z2:=hide (fun w=>z_any (Rn.hasT d) 84 (by decide) T.isEmpty true h2' w)
 have Z3:=hide (fun (b:Bool) (hb:b=(k == 0)) w=>z_any (Rn.hasT d) 78 (by decide) b true (by rw [hb];exact h3) w)
 have Z5:=hide (fun (b:Bool) (hb:b=true ↔ nB=0) w=>z_any (Rn.hasS d) 66 (by decide) b false (by rw [show b=(nB == 0) from by rw [Bool.eq_iff_iff,hb];simp];exact h5) w)
 have Z6:=hide (fun (b:Bool) (hb:b=true ↔ nL=0) w=>z_any (Rn.hasO d) 69 (by decide) b z6 (by rw [show b=(nL == 0) from by rw [Bool.eq_iff_iff,hb];simp];exact h6) w)
 change Hid (∀ w,Calls Tryz.prog 123 #[.string (bs [Rn.fA d]),.bool A.isEmpty] w _) at Z0
 change Hid (∀ w,Calls Tryz.prog 123 #[.string (bs [Rn.fB d]),.bool B.isEmpty] w _) at Z1
 change Hid (∀ w,Calls Tryz.prog 123 #[.string (bs [Rn.fT d]),.bool T.isEmpty] w _) at Z2
 change Hid (∀ b,_→ ∀ w,Calls Tryz.prog 123 #[.string (bs [Rn.fN d]),.bool b] w _) at Z3
 change Hid (∀ b,_→ ∀ w,Calls Tryz.prog 123 #[.string (bs [Rn.fS d]),.bool b] w _) at Z5
 change Hid (∀ b,_→ ∀ w,Calls Tryz.prog 123 #[.string (bs [Rn.fO d]),.bool b] w _) at Z6
 have HI:=hide (fun w (h:Tb w)=>itoa_any nE w (by omega) (by omega) h)
 have HTb:=hide hT
 have eA:(bs A).toList=A:=bsl A
 have eB:(bs B).toList=B:=bsl B
 have eT:(bs T).toList=T:=bsl T
 have HFE:Hid (if d=10 then Rn.fE d=42 else Rn.fE d=UInt8.ofNat (48+Rn.fewE d)∧Rn.fewE d<10):=by
  unfold Hid
  rcases Rn.kinds h1 h2 with rfl|rfl|rfl|rfl|rfl|rfl|rfl|rfl|rfl|rfl|rfl|rfl|rfl|rfl
  all_goals decide
 have hfs:(bs (Rn.fld d)).toList=Rn.fld d:=bsl _
 have hfn:((bs (Rn.fld d)).size:Int)=7:=rfl
 have hfe:(Rn.fld d).isEmpty=false:=rfl
 have x0:(bs (Rn.fld d)).extract 0 1=bs [Rn.fA d]:=rfl
 have x1:(bs (Rn.fld d)).extract 1 2=bs [Rn.fB d]:=rfl
 have x2:(bs (Rn.fld d)).extract 2 3=bs [Rn.fT d]:=rfl
 have x3:(bs (Rn.fld d)).extract 3 4=bs [Rn.fN d]:=rfl
 have x4:(bs (Rn.fld d)).extract 4 5=bs [Rn.fE d]:=rfl
 have x5:(bs (Rn.fld d)).extract 5 6=bs [Rn.fS d]:=rfl
 have x6:(bs (Rn.fld d)).extract 6 7=bs [Rn.fO d]:=rfl
 clear h0 h1' h2' h3 h5 h6 hT
 generalize hFL:bs (Rn.fld d)=FL at *
 generalize hfl:Rn.fld d=fl at *
 clear hFL hfl
 generalize Rn.fA d=yA at *
 generalize Rn.fB d=yB at *
 generalize Rn.fT d=yT at *
 generalize Rn.fN d=yN at *
 generalize Rn.fE d=yE at *
 generalize Rn.fS d=yS at *
 generalize Rn.fO d=yO at *
 go_enter Tryz.func92,Tryz.ntmps92
 go_wp2_with fail
 refine (HF.out _).mono ?_
 rintro e w1 ⟨rfl,hk⟩
 have HCS:Hid (∀ (j:Nat) v,(#[.int .i64 d,.int .i64 at',.string (bs A),.string (bs B),.string (bs T),.int .i64 k,.slice aE nE cE,.slice aB nB cB,.slice aL nL cL]:Array Value)[j]? =some v→w1.cell? ⟨w.heap.size,j,none⟩=some v):=fun j v hv=>hk.some (by simpa [go_sem] using hv) (by simp)
 have K1:Hid (Kp [] w w1):=((Kp.refl [] _).alloc _).trans hk
 have c2:=HCS.out 2 _ rfl
 have c3:=HCS.out 3 _ rfl
 have c4:=HCS.out 4 _ rfl
 have c5:=HCS.out 5 _ rfl
 have c6:=HCS.out 6 _ rfl
 have c7:=HCS.out 7 _ rfl
 have c8:=HCS.out 8 _ rfl
 clear hk
 go_wp2_with fail
 generalize (Value.agg #[.int .i64 d,.int .i64 at',.string (bs A),.string (bs B),.string (bs T),.int .i64 k,.slice aE nE cE,.slice aB nB cB,.slice aL nL cL])=v0
 go_quiet (first|(go_at_call 123;with_reducible refine Calls.quiet_of_same (Z0.out _))|(go_at_call 123;with_reducible refine Calls.quiet_of_same (Z1.out _))|(go_at_call 123;with_reducible refine Calls.quiet_of_same (Z2.out _))|(go_at_call 123;with_reducible refine Calls.quiet_of_same (Z3.out _ (by first|rfl|(simp;done)) _))|(go_at_call 123;with_reducible refine Calls.quiet_of_same (Z5.out _ (by first|(simp;done)|(simp;omega)) _))|(go_at_call 123;with_reducible refine Calls.quiet_of_same (Z6.out _ (by first|(simp;done)|(simp;omega)) _)))
 go_wp2
 go_ret
 exact ⟨rfl,K1.out.drewN _⟩
end Go.Proofs.YthcapfojofahkaaGreatDoor
namespace Go.Proofs.YthcapfojofahkaaGreatDoor
open Go.RowKit
set_option maxRecDepth 100000 in
set_option maxHeartbeats 40000000 in
theorem stmtForm_5 (w:World) (hT:Tb w) (d at' k:Int) (A B T:List UInt8) (aE aB aL:Option Addr) (nE nB nL cE cB cL:Nat) (h1:1≤d) (h2:d≤14) (hE:nE≤1000000000)
  (h0:(Rn.hasA d || A.isEmpty)=true) (h1':(Rn.hasB d || B.isEmpty)=true) (h2':(Rn.hasT d || T.isEmpty)=true) (h3:(Rn.hasT d || k == 0)=true) (h5:(Rn.hasS d || nB == 0)=true) (h6:(Rn.hasO d || nL == 0)=false):
  Calls Tryz.prog 92 #[.agg #[.int .i64 d,.int .i64 at',.string (bs A),.string (bs B),.string (bs T),.int .i64 k,.slice aE nE cE,.slice aB nB cB,.slice aL nL cL]] w
   fun e w'=>e= .returned (.bool (true && true && true && true && true && false && (d == 10 || nE == Rn.fewE d)))∧Kp [] w w':=by
 have HF:=hide (fun w=>fields_any d w h1 h2)
 have Z0:=hide (fun w=>z_any (Rn.hasA d) 65 (by decide) A.isEmpty true h0 w)
 have Z1:=hide (fun w=>z_any (Rn.hasB d) 66 (by decide) B.isEmpty true h1' w)
 have Z2:=hide (fun w=>z_any (Rn.hasT d) 84 (by decide) T.isEmpty true h2' w)
 have Z3:=hide (fun (b:Bool) (hb:b=(k == 0)) w=>z_any (Rn.hasT d) 78 (by decide) b true (by rw [hb];exact h3) w)
 have Z5:=hide (fun (b:Bool) (hb:b=true ↔ nB=0) w=>z_any (Rn.hasS d) 66 (by decide) b true (by rw [show b=(nB == 0) from by rw [Bool.eq_iff_iff,hb];simp];exact h5) w)
 have Z6:=hide (fun (b:Bool) (hb:b=true ↔ nL=0) w=>z_any (Rn.hasO d) 69 (by decide) b false (by rw [show b=(nL == 0) from by rw [Bool.eq_iff_iff,hb];simp];exact h6) w)
 change Hid (∀ w,Calls Tryz.prog 123 #[.string (bs [Rn.fA d]),.bool A.isEmpty] w _) at Z0
 change Hid (∀ w,Calls Tryz.prog 123 #[.string (bs [Rn.fB d]),.bool B.isEmpty] w _) at Z1
 change Hid (∀ w,Calls Tryz.prog 123 #[.string (bs [Rn.fT d]),.bool T.isEmpty] w _) at Z2
 change Hid (∀ b,_→ ∀ w,Calls Tryz.prog 123 #[.string (bs [Rn.fN d]),.bool b] w _) at Z3
 change Hid (∀ b,_→ ∀ w,Calls Tryz.prog 123 #[.string (bs [Rn.fS d]),.bool b] w _) at Z5
 change Hid (∀ b,_→ ∀ w,Calls Tryz.prog 123 #[.string (bs [Rn.fO d]),.bool b] w _) at Z6
 have HI:=hide (fun w (h:Tb w)=>itoa_any nE w (by omega) (by omega) h)
 have HTb:=hide hT
 have eA:(bs A).toList=A:=bsl A
 have eB:(bs B).toList=B:=bsl B
 have eT:(bs T).toList=T:=bsl T
 have HFE:Hid (if d=10 then Rn.fE d=42 else Rn.fE d=UInt8.ofNat (48+Rn.fewE d)∧Rn.fewE d<10):=by
  unfold Hid
  rcases Rn.kinds h1 h2 with rfl|rfl|rfl|rfl|rfl|rfl|rfl|rfl|rfl|rfl|rfl|rfl|rfl|rfl
  all_goals decide
 have hfs:(bs (Rn.fld d)).toList=Rn.fld d:=bsl _
 have hfn:((bs (Rn.fld d)).size:Int)=7:=rfl
 have hfe:(Rn.fld d).isEmpty=false:=rfl
 have x0:(bs (Rn.fld d)).extract 0 1=bs [Rn.fA d]:=rfl
 have x1:(bs (Rn.fld d)).extract 1 2=bs [Rn.fB d]:=rfl
 have x2:(bs (Rn.fld d)).extract 2 3=bs [Rn.fT d]:=rfl
 have x3:(bs (Rn.fld d)).extract 3 4=bs [Rn.fN d]:=rfl
 have x4:(bs (Rn.fld d)).extract 4 5=bs [Rn.fE d]:=rfl
 have x5:(bs (Rn.fld d)).extract 5 6=bs [Rn.fS d]:=rfl
 have x6:(bs (Rn.fld d)).extract 6 7=bs [Rn.fO d]:=rfl
 clear h0 h1' h2' h3 h5 h6 hT
 generalize hFL:bs (Rn.fld d)=FL at *
 generalize hfl:Rn.fld d=fl at *
 clear hFL hfl
 generalize Rn.fA d=yA at *
 generalize Rn.fB d=yB at *
 generalize Rn.fT d=yT at *
 generalize Rn.fN d=yN at *
 generalize Rn.fE d=yE at *
 generalize Rn.fS d=yS at *
 generalize Rn.fO d=yO at *
 go_enter Tryz.func92,Tryz.ntmps92
 go_wp2_with fail
 refine (HF.out _).mono ?_
 rintro e w1 ⟨rfl,hk⟩
 have HCS:Hid (∀ (j:Nat) v,(#[.int .i64 d,.int .i64 at',.string (bs A),.string (bs B),.string (bs T),.int .i64 k,.slice aE nE cE,.slice aB nB cB,.slice aL nL cL]:Array Value)[j]? =some v→w1.cell? ⟨w.heap.size,j,none⟩=some v):=fun j v hv=>hk.some (by simpa [go_sem] using hv) (by simp)
 have K1:Hid (Kp [] w w1):=((Kp.refl [] _).alloc _).trans hk
 have c2:=HCS.out 2 _ rfl
 have c3:=HCS.out 3 _ rfl
 have c4:=HCS.out 4 _ rfl
 have c5:=HCS.out 5 _ rfl
 have c6:=HCS.out 6 _ rfl
 have c7:=HCS.out 7 _ rfl
 have c8:=HCS.out 8 _ rfl
 clear hk
 go_wp2_with fail
 generalize (Value.agg #[.int .i64 d,.int .i64 at',.string (bs A),.string (bs B),.string (bs T),.int .i64 k,.slice aE nE cE,.slice aB nB cB,.slice aL nL cL])=v0
 go_quiet (first|(go_at_call 123;with_reducible refine Calls.quiet_of_same (Z0.out _))|(go_at_call 123;with_reducible refine Calls.quiet_of_same (Z1.out _))|(go_at_call 123;with_reducible refine Calls.quiet_of_same (Z2.out _))|(go_at_call 123;with_reducible refine Calls.quiet_of_same (Z3.out _ (by first|rfl|(simp;done)) _))|(go_at_call 123;with_reducible refine Calls.quiet_of_same (Z5.out _ (by first|(simp;done)|(simp;omega)) _))|(go_at_call 123;with_reducible refine Calls.quiet_of_same (Z6.out _ (by first|(simp;done)|(simp;omega)) _)))
 go_wp2
 go_ret
 exact ⟨rfl,K1.out.drewN _⟩
end Go.Proofs.YthcapfojofahkaaGreatDoor
namespace Go.Proofs.YthcapfojofahkaaGreatDoor
open Go.RowKit
set_option maxRecDepth 100000 in
set_option maxHeartbeats 40000000 in
theorem stmtForm_6 (w:World) (hT:Tb w) (d at' k:Int) (A B T:List UInt8) (aE aB aL:Option Addr) (nE nB nL cE cB cL:Nat) (h1:1≤d) (h2:d≤14) (hE:nE≤1000000000)
  (h0:(Rn.hasA d || A.isEmpty)=true) (h1':(Rn.hasB d || B.isEmpty)=true) (h2':(Rn.hasT d || T.isEmpty)=true) (h3:(Rn.hasT d || k == 0)=true) (h5:(Rn.hasS d || nB == 0)=true) (h6:(Rn.hasO d || nL == 0)=true):
  Calls Tryz.prog 92 #[.agg #[.int .i64 d,.int .i64 at',.string (bs A),.string (bs B),.string (bs T),.int .i64 k,.slice aE nE cE,.slice aB nB cB,.slice aL nL cL]] w
   fun e w'=>e= .returned (.bool (true && true && true && true && true && true && (d == 10 || nE == Rn.fewE d)))∧Kp [] w w':=by
 have HF:=hide (fun w=>fields_any d w h1 h2)
 have Z0:=hide (fun w=>z_any (Rn.hasA d) 65 (by decide) A.isEmpty true h0 w)
 have Z1:=hide (fun w=>z_any (Rn.hasB d) 66 (by decide) B.isEmpty true h1' w)
 have Z2:=hide (fun w=>z_any (Rn.hasT d) 84 (by decide) T.isEmpty true h2' w)
 have Z3:=hide (fun (b:Bool) (hb:b=(k == 0)) w=>z_any (Rn.hasT d) 78 (by decide) b true (by rw [hb];exact h3) w)
 have Z5:=hide (fun (b:Bool) (hb:b=true ↔ nB=0) w=>z_any (Rn.hasS d) 66 (by decide) b true (by rw [show b=(nB == 0) from by rw [Bool.eq_iff_iff,hb];simp];exact h5) w)
 have Z6:=hide (fun (b:Bool) (hb:b=true ↔ nL=0) w=>z_any (Rn.hasO d) 69 (by decide) b true (by rw [show b=(nL == 0) from by rw [Bool.eq_iff_iff,hb];simp];exact h6) w)
 change Hid (∀ w,Calls Tryz.prog 123 #[.string (bs [Rn.fA d]),.bool A.isEmpty] w _) at Z0
 change Hid (∀ w,Calls Tryz.prog 123 #[.string (bs [Rn.fB d]),.bool B.isEmpty] w _) at Z1
 change Hid (∀ w,Calls Tryz.prog 123 #[.string (bs [Rn.fT d]),.bool T.isEmpty] w _) at Z2
 change Hid (∀ b,_→ ∀ w,Calls Tryz.prog 123 #[.string (bs [Rn.fN d]),.bool b] w _) at Z3
 change Hid (∀ b,_→ ∀ w,Calls Tryz.prog 123 #[.string (bs [Rn.fS d]),.bool b] w _) at Z5
 change Hid (∀ b,_→ ∀ w,Calls Tryz.prog 123 #[.string (bs [Rn.fO d]),.bool b] w _) at Z6
 have HI:=hide (fun w (h:Tb w)=>itoa_any nE w (by omega) (by omega) h)
 have HTb:=hide hT
 have eA:(bs A).toList=A:=bsl A
 have eB:(bs B).toList=B:=bsl B
 have eT:(bs T).toList=T:=bsl T
 have HFE:Hid (if d=10 then Rn.fE d=42 else Rn.fE d=UInt8.ofNat (48+Rn.fewE d)∧Rn.fewE d<10):=by
  unfold Hid
  rcases Rn.kinds h1 h2 with rfl|rfl|rfl|rfl|rfl|rfl|rfl|rfl|rfl|rfl|rfl|rfl|rfl|rfl
  all_goals decide
 have hfs:(bs (Rn.fld d)).toList=Rn.fld d:=bsl _
 have hfn:((bs (Rn.fld d)).size:Int)=7:=rfl
 have hfe:(Rn.fld d).isEmpty=false:=rfl
 have x0:(bs (Rn.fld d)).extract 0 1=bs [Rn.fA d]:=rfl
 have x1:(bs (Rn.fld d)).extract 1 2=bs [Rn.fB d]:=rfl
 have x2:(bs (Rn.fld d)).extract 2 3=bs [Rn.fT d]:=rfl
 have x3:(bs (Rn.fld d)).extract 3 4=bs [Rn.fN d]:=rfl
 have x4:(bs (Rn.fld d)).extract 4 5=bs [Rn.fE d]:=rfl
 have x5:(bs (Rn.fld d)).extract 5 6=bs [Rn.fS d]:=rfl
 have x6:(bs (Rn.fld d)).extract 6 7=bs [Rn.fO d]:=rfl
 clear h0 h1' h2' h3 h5 h6 hT
 generalize hFL:bs (Rn.fld d)=FL at *
 generalize hfl:Rn.fld d=fl at *
 clear hFL hfl
 generalize Rn.fA d=yA at *
 generalize Rn.fB d=yB at *
 generalize Rn.fT d=yT at *
 generalize Rn.fN d=yN at *
 generalize Rn.fE d=yE at *
 generalize Rn.fS d=yS at *
 generalize Rn.fO d=yO at *
 go_enter Tryz.func92,Tryz.ntmps92
 go_wp2_with fail
 refine (HF.out _).mono ?_
 rintro e w1 ⟨rfl,hk⟩
 have HCS:Hid (∀ (j:Nat) v,(#[.int .i64 d,.int .i64 at',.string (bs A),.string (bs B),.string (bs T),.int .i64 k,.slice aE nE cE,.slice aB nB cB,.slice aL nL cL]:Array Value)[j]? =some v→w1.cell? ⟨w.heap.size,j,none⟩=some v):=fun j v hv=>hk.some (by simpa [go_sem] using hv) (by simp)
 have K1:Hid (Kp [] w w1):=((Kp.refl [] _).alloc _).trans hk
 have c2:=HCS.out 2 _ rfl
 have c3:=HCS.out 3 _ rfl
 have c4:=HCS.out 4 _ rfl
 have c5:=HCS.out 5 _ rfl
 have c6:=HCS.out 6 _ rfl
 have c7:=HCS.out 7 _ rfl
 have c8:=HCS.out 8 _ rfl
 clear hk
 go_wp2_with fail
 generalize (Value.agg #[.int .i64 d,.int .i64 at',.string (bs A),.string (bs B),.string (bs T),.int .i64 k,.slice aE nE cE,.slice aB nB cB,.slice aL nL cL])=v0
 go_quiet (first|(go_at_call 123;with_reducible refine Calls.quiet_of_same (Z0.out _))|(go_at_call 123;with_reducible refine Calls.quiet_of_same (Z1.out _))|(go_at_call 123;with_reducible refine Calls.quiet_of_same (Z2.out _))|(go_at_call 123;with_reducible refine Calls.quiet_of_same (Z3.out _ (by first|rfl|(simp;done)) _))|(go_at_call 123;with_reducible refine Calls.quiet_of_same (Z5.out _ (by first|(simp;done)|(simp;omega)) _))|(go_at_call 123;with_reducible refine Calls.quiet_of_same (Z6.out _ (by first|(simp;done)|(simp;omega)) _)))
 by_cases h10:d=10
 ·have q:=HFE.out
  rw [if_pos h10] at q
  have e10:(d == 10)=true:=by simpa using h10
  have qe:(bs [yE]).toList=[yE]:=bsl _
  have qt:([yE] == [42])=true:=by rw [q];rfl
  clear q
  go_wp2_with fail
  go_quiet (fail)
  go_wp2
  go_ret
  refine ⟨?_,by first|exact K1.out.drewN _|exact (K1.out.drewN _).drewN _⟩
  rw [e10]
  rfl
 ·have q:=HFE.out
  rw [if_neg h10] at q
  have e10:(d == 10)=false:=by simpa using h10
  have qe:(bs [yE]).toList=[yE]:=bsl _
  have qn:([yE] == [42])=false:=by
   apply beq_eq_false_iff_ne.2
   intro hh
   have hq:yE=42:=by simpa using hh
   rw [q.1] at hq
   have:=congrArg UInt8.toNat hq
   simp [UInt8.toNat_ofNat'] at this
   have:=q.2
   omega
  have ei:(bs (Lib.itoa nE)).toList=Lib.itoa nE:=bsl _
  have HQ:=hide (itoa_digit nE (Rn.fewE d) q.2)
  rw [←q.1] at HQ
  have hb:([yE] == Lib.itoa nE)=(nE == Rn.fewE d):=by
   rw [←HQ.out]
   exact Bool.eq_iff_iff.2 (by simp;exact eq_comm)
  clear q
  go_wp2_with fail
  generalize hww:w1.drewN _=ww
  have cw6:ww.cell? ⟨w.heap.size,6,none⟩=some (.slice aE nE cE):=by rw [←hww];exact c6
  have KW:Hid (Kp [] w ww):=by rw [←hww];exact K1.out.drewN _
  clear hww
  go_region_held_law (fun w'=>w'.cell? ⟨w.heap.size,6,none⟩=some (.slice aE nE cE)) ((first|assumption|go_keep))
   ((go_at_call 96;refine (HI.out _ (HTb.out.kp KW.out.drew)).mono ?_;rintro e w3 ⟨rfl,hk⟩;have g6:w3.cell? ⟨w.heap.size,6,none⟩=some (.slice aE nE cE):=hk.some (by simpa [go_sem] using cw6) (by simp);have K3:Hid (Kp [] w w3):=KW.out.drew.trans hk;clear hk))
  go_wp2
  go_ret
  refine ⟨?_,K3.out⟩
  rw [e10]
  first|rfl|simp
end Go.Proofs.YthcapfojofahkaaGreatDoor
namespace Go.Proofs.YthcapfojofahkaaGreatDoor
open Go.RowKit
set_option maxRecDepth 100000 in
set_option maxHeartbeats 40000000 in
theorem stmtForm_z (w:World) (hT:Tb w) (d at' k:Int) (A B T:List UInt8) (aE aB aL:Option Addr) (nE nB nL cE cB cL:Nat) (h1:1≤d) (h2:d≤14) (hE:nE≤1000000000)
  (z0 z1 z2 z3 z5 z6:Bool) (h0:(Rn.hasA d || A.isEmpty)=z0) (h1':(Rn.hasB d || B.isEmpty)=z1) (h2':(Rn.hasT d || T.isEmpty)=z2) (h3:(Rn.hasT d || k == 0)=z3) (h5:(Rn.hasS d || nB == 0)=z5) (h6:(Rn.hasO d || nL == 0)=z6):
  Calls Tryz.prog 92 #[.agg #[.int .i64 d,.int .i64 at',.string (bs A),.string (bs B),.string (bs T),.int .i64 k,.slice aE nE cE,.slice aB nB cB,.slice aL nL cL]] w
   fun e w'=>e= .returned (.bool (z0 && z1 && z2 && z3 && z5 && z6 && (d == 10 || nE == Rn.fewE d)))∧Kp [] w w':=by
 cases z0 with
 |false=>exact stmtForm_0 w hT d at' k A B T aE aB aL nE nB nL cE cB cL h1 h2 hE z1 z2 z3 z5 z6 h0 h1' h2' h3 h5 h6
 |true=>
  cases z1 with
  |false=>exact stmtForm_1 w hT d at' k A B T aE aB aL nE nB nL cE cB cL h1 h2 hE z2 z3 z5 z6 h0 h1' h2' h3 h5 h6
  |true=>
   cases z2 with
   |false=>exact stmtForm_2 w hT d at' k A B T aE aB aL nE nB nL cE cB cL h1 h2 hE z3 z5 z6 h0 h1' h2' h3 h5 h6
   |true=>
    cases z3 with
    |false=>exact stmtForm_3 w hT d at' k A B T aE aB aL nE nB nL cE cB cL h1 h2 hE z5 z6 h0 h1' h2' h3 h5 h6
    |true=>
     cases z5 with
     |false=>exact stmtForm_4 w hT d at' k A B T aE aB aL nE nB nL cE cB cL h1 h2 hE z6 h0 h1' h2' h3 h5 h6
     |true=>
      cases z6 with
      |false=>exact stmtForm_5 w hT d at' k A B T aE aB aL nE nB nL cE cB cL h1 h2 hE h0 h1' h2' h3 h5 h6
      |true=>
       exact stmtForm_6 w hT d at' k A B T aE aB aL nE nB nL cE cB cL h1 h2 hE h0 h1' h2' h3 h5 h6
theorem stmtForm_any (w:World) (hT:Tb w) (d at' k:Int) (A B T:List UInt8) (aE aB aL:Option Addr) (nE nB nL cE cB cL:Nat) (hE:nE≤1000000000):
  Calls Tryz.prog 92 #[.agg #[.int .i64 d,.int .i64 at',.string (bs A),.string (bs B),.string (bs T),.int .i64 k,.slice aE nE cE,.slice aB nB cB,.slice aL nL cL]] w
   fun e w'=>e= .returned (.bool (Rn.fm d A B T k nE nB nL))∧Kp [] w w':=by
 by_cases hd:1≤d∧d≤14
 ·have e:Rn.fm d A B T k nE nB nL=((Rn.hasA d || A.isEmpty) && (Rn.hasB d || B.isEmpty) && (Rn.hasT d || T.isEmpty) && (Rn.hasT d || k == 0) && (Rn.hasS d || nB == 0) && (Rn.hasO d || nL == 0) && (d == 10 || nE == Rn.fewE d)):=by
   rw [Rn.fm,show decide (1≤d)=true from by simpa using hd.1,show decide (d≤14)=true from by simpa using hd.2]
   have be: ∀ l:List UInt8,(l == [])=l.isEmpty:=fun l=>by cases l<;> rfl
   rw [be,be,be]
   rfl
  rw [e]
  exact stmtForm_z w hT d at' k A B T aE aB aL nE nB nL cE cB cL hd.1 hd.2 hE _ _ _ _ _ _ rfl rfl rfl rfl rfl rfl
 ·have e:Rn.fm d A B T k nE nB nL=false:=by
   have:(decide (1≤d) && decide (d≤14))=false:=by
    rw [←Bool.decide_and];exact decide_eq_false hd
   rw [Rn.fm,this]
   rfl
  rw [e]
  have HF:=hide (fun w=>fields_no d w (by omega))
  have h0:(bs []).toList=[]:=bs0
  go_enter Tryz.func92,Tryz.ntmps92
  go_wp2_with fail
  refine (HF.out _).mono ?_
  rintro e w1 ⟨rfl,hk⟩
  have K1:Hid (Kp [] w w1):=((Kp.refl [] _).alloc _).trans hk
  clear hk
  go_wp2
  go_ret
  exact ⟨rfl,K1.out⟩
end Go.Proofs.YthcapfojofahkaaGreatDoor
