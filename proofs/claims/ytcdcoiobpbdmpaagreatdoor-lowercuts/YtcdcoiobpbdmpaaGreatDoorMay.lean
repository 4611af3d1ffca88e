import Derived.Test.YtcdcoiobpbdmpaaGreatDoorMax
import Derived.Test.YtcdcoiobpbdmpaaGreatDoorMag
import Derived.Deep.RegionHeldLaw
namespace Go.Proofs.YtcdcoiobpbdmpaaGreatDoor
open Go.RowKit
def Rn.xb (n:Nat) (op:Int) (nm:List UInt8) (z:Int) (L:List Sx.Tr):List UInt8:=
 if op=1 then Rn.digs z else if op=2 then nm else if op=3 then [45]++Rn.xt n 3 (L.headD Sx.d0)
  else Rn.xt n (Rn.lft op) (L.headD Sx.d0)++Rn.sign op++Rn.xt n (Rn.holds op+1) (L.tail.headD Sx.d0)
theorem Rn.xt_xb (n must:Nat) (op:Int) (nm:List UInt8) (z:Int) (L:List Sx.Tr):Rn.xt (n+1) must (Sx.tE op nm z L)=Rn.brk (decide (Rn.holds op<must)) (Rn.xb n op nm z L):=rfl
def Rn.sg (op:Int):List UInt8:=if op=1∨op=2 then [] else if op=3 then [45] else Rn.sign op
def Rn.lf (op:Int):Nat:=if op≤3 then 0 else Rn.lft op
def Rn.rt (op:Int):Nat:=if op≤2 then 0 else if op=3 then 3 else Rn.holds op+1
theorem Rn.oper_all {w:World} (hT:Tb w) {op:Int} (h1:1≤op) (h2:op≤8):w.cell? ⟨5,op.toNat * 5,none⟩=some (.int .i64 (Rn.want op))∧w.cell? ⟨5,op.toNat * 5+1,none⟩=some (.string (bs (Rn.sg op)))∧w.cell? ⟨5,op.toNat * 5+2,none⟩=some (.int .i64 (Rn.holds op))∧w.cell? ⟨5,op.toNat * 5+3,none⟩=some (.int .i64 (Rn.lf op))∧w.cell? ⟨5,op.toNat * 5+4,none⟩=some (.int .i64 (Rn.rt op)):=by
 have h:op=1∨op=2∨op=3∨op=4∨op=5∨op=6∨op=7∨op=8:=by omega
 rcases h with rfl|rfl|rfl|rfl|rfl|rfl|rfl|rfl
 ·exact hT.opers 1 _ rfl
 ·exact hT.opers 2 _ rfl
 ·exact hT.opers 3 _ rfl
 ·exact hT.opers 4 _ rfl
 ·exact hT.opers 5 _ rfl
 ·exact hT.opers 6 _ rfl
 ·exact hT.opers 7 _ rfl
 ·exact hT.opers 8 _ rfl
def XPt (n:Nat):Prop:= ∀ (w0:World) (pb k:Nat) (x:List UInt8) (w:World) (P:Nat→Prop) (op z:Int) (nm:List UInt8) (L:List Sx.Tr) (a:Option Addr) (c must:Nat),PG w0 pb x k w→Tb w0→EL w0 P n L (.slice a L.length c)→Rn.xf (n+1) (Sx.tE op nm z L)=0→must≤5→x.length+(Rn.xt (n+1) must (Sx.tE op nm z L)).length≤140737488355328→
 Calls Tryz.prog 175 #[.pointer (some ⟨pb,0,none⟩),.agg #[.int .i64 op,.string (bs nm),.int .i64 z,.slice a L.length c],.int .i64 must] w fun e w'=>e= .returned (.tuple #[])∧PG w0 pb (x++Rn.xt (n+1) must (Sx.tE op nm z L)) k w'∧Fr pb w w'
def BAt (n:Nat):Prop:= ∀ (w0:World) (pb k:Nat) (x:List UInt8) (w:World) (P:Nat→Prop) (op z:Int) (nm:List UInt8) (L:List Sx.Tr) (a:Option Addr) (c:Nat),PG w0 pb x k w→Tb w0→EL w0 P n L (.slice a L.length c)→Rn.xf (n+1) (Sx.tE op nm z L)=0→x.length+(Rn.xb n op nm z L).length≤140737488355328→
 Calls Tryz.prog 186 #[.pointer (some ⟨pb,0,none⟩),.agg #[.int .i64 op,.string (bs nm),.int .i64 z,.slice a L.length c]] w fun e w'=>e= .returned (.tuple #[])∧PG w0 pb (x++Rn.xb n op nm z L) k w'∧Fr pb w w'
theorem Rn.xf_all {n:Nat} {op z:Int} {nm:List UInt8} {L:List Sx.Tr} (h:Rn.xf (n+1) (Sx.tE op nm z L)=0):1≤op∧op≤8∧L.length=Rn.want op∧(z=0∨op=1)∧(nm=[]∨op=2)∧(op=2→Tk.isN nm=true)∧0≤z∧z<1000000000000000000∧Rn.firstOf (Rn.xf n) L=0:=by
 have h':(if op<1∨8<op∨L.length ≠ Rn.want op∨(z ≠ 0∧op ≠ 1)∨(nm ≠ []∧op ≠ 2) then (5:Int)
  else if op=2∧Tk.isN nm=false then 4
  else if z<0∨1000000000000000000≤z then 3
  else Rn.firstOf (Rn.xf n) L)=0:=h
 split at h'
 ·cases h'
 ·rename_i hb
  split at h'
  ·cases h'
  ·rename_i hn
   split at h'
   ·cases h'
   ·refine ⟨by omega,by omega,?_,by omega,?_,?_,by omega,by omega,h'⟩
    ·exact Decidable.byContradiction fun hc=>hb (.inr (.inr (.inl hc)))
    ·exact Decidable.byContradiction fun hc=>hb (.inr (.inr (.inr (.inr ⟨fun e=>hc (.inl e),fun e=>hc (.inr e)⟩))))
    ·intro e
     cases hx:Tk.isN nm with
     |true=>rfl
     |false=>exact absurd ⟨e,hx⟩ hn
theorem Rn.firstOf_zero {α:Type} {g:α→Int} {l:List α} (h:Rn.firstOf g l=0): ∀ d ∈ l,g d=0:=by
 induction l with
 |nil=>intro d hd;cases hd
 |cons a r ih=>
  simp only [Rn.firstOf] at h
  split at h
  ·rename_i h1;exact absurd h h1
  ·rename_i h1
   intro d hd
   rcases List.mem_cons.1 hd with rfl|hd
   ·exact Decidable.byContradiction h1
   ·exact ih h d hd
theorem Rn.holds_le (op:Int):Rn.holds op+1≤5:=by
 unfold Rn.holds
 split
 ·omega
 ·split
  ·omega
  ·split<;> omega
theorem Rn.lft_le (op:Int):Rn.lft op≤5:=by
 have:=Rn.holds_le op
 unfold Rn.lft
 split<;> omega
theorem Rn.want_op {op:Int} (h:4≤op):Rn.want op=2:=by unfold Rn.want;rw [if_neg (by omega),if_neg (by omega)]
set_option maxRecDepth 100000 in
set_option maxHeartbeats 400000 in
theorem pBare_op (n:Nat) (ih:XPt n) (w0:World) (pb k:Nat) (x:List UInt8) (w:World) (P:Nat→Prop) (op:Int) (d1 d2:Sx.Tr) (a:Option Addr) (c:Nat) (h:PG w0 pb x k w) (hT:Tb w0) (hE:EL w0 P (n+1) [d1,d2] (.slice a 2 c)) (o4:4≤op) (o8:op≤8) (f1:Rn.xf (n+1) d1=0) (f2:Rn.xf (n+1) d2=0)
  (hlen:x.length+(Rn.xt (n+1) (Rn.lft op) d1++Rn.sign op++Rn.xt (n+1) (Rn.holds op+1) d2).length≤140737488355328):
  Calls Tryz.prog 186 #[.pointer (some ⟨pb,0,none⟩),.agg #[.int .i64 op,.string (bs []),.int .i64 0,.slice a 2 c]] w fun e w'=>e= .returned (.tuple #[])∧PG w0 pb (x++(Rn.xt (n+1) (Rn.lft op) d1++Rn.sign op++Rn.xt (n+1) (Rn.holds op+1) d2)) k w'∧Fr pb w w':=by
 obtain ⟨t0,t1,t2,t3,t4⟩:=Rn.oper_all (hT.kp (h.kp [])) (show 1≤op by omega) o8
 rw [Rn.want_op o4] at t0
 rw [show Rn.sg op=Rn.sign op from by unfold Rn.sg;rw [if_neg (by omega),if_neg (by omega)]] at t1
 rw [show Rn.lf op=Rn.lft op from by unfold Rn.lf;rw [if_neg (by omega)]] at t3
 rw [show Rn.rt op=Rn.holds op+1 from by unfold Rn.rt;rw [if_neg (by omega),if_neg (by omega)]] at t4
 obtain ⟨b,off,op1,nm1,z1,L1,aL1,cL1,rfl,-,hd1,m0,m1,m2,m3,hL1⟩:=hE.nth 0 (by simp)
 obtain ⟨b',off',op2,nm2,z2,L2,aL2,cL2,hbb,-,hd2,n0,n1,n2,n3,hL2⟩:=hE.nth 1 (by simp)
 obtain ⟨rfl,rfl⟩:b=b'∧off=off':=by cases hbb;exact ⟨rfl,rfl⟩
 obtain rfl:d1=Sx.tE op1 nm1 z1 L1:=by simpa using hd1
 obtain rfl:d2=Sx.tE op2 nm2 z2 L2:=by simpa using hd2
 clear hd1 hd2 hbb hE
 have H:=hide h
 have IH1:=hide (fun W (hp:PG w0 pb x k W)=>ih w0 pb k x W P op1 z1 nm1 L1 aL1 cL1 (Rn.lft op) hp hT hL1 f1)
 have IH2:=hide (fun W y (hp:PG w0 pb y k W)=>ih w0 pb k y W P op2 z2 nm2 L2 aL2 cL2 (Rn.holds op+1) hp hT hL2 f2)
 generalize Rn.xt (n+1) (Rn.lft op) (Sx.tE op1 nm1 z1 L1)=X1 at *
 generalize Rn.xt (n+1) (Rn.holds op+1) (Sx.tE op2 nm2 z2 L2)=X2 at *
 have hb1:=Rn.lft_le op
 have hb2:=Rn.holds_le op
 generalize Rn.lft op=lf at *
 generalize Rn.holds op+1=ri at *
 generalize Rn.holds op=ho at *
 generalize Rn.sign op=sg at *
 have hb0:(0:Int)≤op:=by omega
 have hb9:op<9:=by omega
 have hgl:5<w.heap.size:=by have:=hT.size;have:=h.size;omega
 clear h ih hL1 hL2 hT f1 f2
 go_enter Tryz.func186,Tryz.ntmps186
 go_wp2
 generalize hW:(w.alloc _).alloc _=W
 have G0:W.heap[w.heap.size]? =some (.cells #[.int .i64 op,.string (bs []),.int .i64 0,.slice (some ⟨b,off,none⟩) 2 c] 112 (0,0)):=by
  rw [←hW,Below.heap_alloc _ _ _ (by simp)];exact heap_alloc_new w _
 have G1:W.heap[w.heap.size+1]? =some (.cells #[.int .i64 2,.string (bs sg),.int .i64 ho,.int .i64 lf,.int .i64 ri] 233 (0,0)):=by
  rw [←hW];have:=heap_alloc_new (w.alloc (.cells #[.int .i64 op,.string (bs []),.int .i64 0,.slice (some ⟨b,off,none⟩) 2 c] 112)) (.cells #[.int .i64 2,.string (bs sg),.int .i64 ho,.int .i64 lf,.int .i64 ri] 233);simpa using this
 have HW:Hid (PG w0 pb x k W):=by rw [←hW];exact (H.out.alloc _).alloc _
 have FW:Hid (Fr pb w W):=by rw [←hW];exact ((Fr.refl _ _).alloc _).alloc _
 have HL:=H.out.lt
 have g00:W.cell? ⟨w.heap.size,3,none⟩=some (.slice (some ⟨b,off,none⟩) 2 c):=by rw [Lib.cell_of_heap G0];rfl
 have g13:W.cell? ⟨w.heap.size+1,3,none⟩=some (.int .i64 lf):=by rw [Lib.cell_of_heap G1];rfl
 have M0:=(HW.out.kp []).some m0 (by simp)
 have M1:=(HW.out.kp []).some m1 (by simp)
 have M2:=(HW.out.kp []).some m2 (by simp)
 have M3:=(HW.out.kp []).some m3 (by simp)
 rw [Nat.zero_mul,Nat.add_zero] at M0 M1 M2 M3 m0 m1 m2 m3
 clear hW t0 t1 t2 t3 t4
 simp only [List.length_append] at hlen
 go_region_held_law (fun w'=>w'.cell? ⟨w.heap.size,3,none⟩=some (.slice (some ⟨b,off,none⟩) 2 c)∧w'.cell? ⟨w.heap.size+1,3,none⟩=some (.int .i64 lf)∧w'.cell? ⟨b,off,none⟩=some (.int .i64 op1)∧w'.cell? ⟨b,off+1,none⟩=some (.string (bs nm1))∧w'.cell? ⟨b,off+2,none⟩=some (.int .i64 z1)∧w'.cell? ⟨b,off+3,none⟩=some (.slice aL1 L1.length cL1)) ((first|exact ⟨by assumption,by assumption,by assumption,by assumption,by assumption,by assumption⟩|go_keep))
  ((go_at_call 175;refine (IH1.out _ (HW.out.kept ((Kp.refl [] _).drew)) hb1 (by omega)).mono ?_;rintro e w2 ⟨rfl,h2,hf2⟩;have H2:=hide h2;have F2:Hid (Fr pb W w2):=(Fr.of_kp ((Kp.refl [] _).drew)).trans hf2;have G20:=F2.out.heap G0 (by omega) (by decide);have G21:=F2.out.heap G1 (by omega) (by decide);have g20:w2.cell? ⟨w.heap.size,3,none⟩=some (.slice (some ⟨b,off,none⟩) 2 c):=(by rw [Lib.cell_of_heap G20];rfl);have g21:w2.cell? ⟨w.heap.size+1,3,none⟩=some (.int .i64 lf):=(by rw [Lib.cell_of_heap G21];rfl);have M0:=(h2.kp []).some m0 (by simp);have M1:=(h2.kp []).some m1 (by simp);have M2:=(h2.kp []).some m2 (by simp);have M3:=(h2.kp []).some m3 (by simp);clear h2 hf2))
 clear M0 M1 M2 M3
 clear HW g00 g13 g20 g21
 have g1:w2.cell? ⟨w.heap.size+1,1,none⟩=some (.string (bs sg)):=by rw [Lib.cell_of_heap G21];rfl
 have HC:=hide (pAdd [sg] (some ⟨w2.heap.size,0,none⟩) 1 (H2.out.alloc _) (TX.new [sg] w2 H2.out.lt) (by simp;omega) (by simp))
 go_wp2_with fail
 refine HC.out.mono ?_
 rintro e w3 ⟨rfl,h3,hf3⟩
 have F3:=hide (F2.out.trans (((Fr.refl _ _).alloc _).trans hf3))
 have H3:Hid (PG w0 pb (x++X1++sg) k w3):=hide (by simpa using h3)
 clear h3 hf3 HC g1
 have G30:=F3.out.heap G0 (by omega) (by decide)
 have G31:=F3.out.heap G1 (by omega) (by decide)
 clear G0 G1 G20 G21 H2
 have g00:w3.cell? ⟨w.heap.size,3,none⟩=some (.slice (some ⟨b,off,none⟩) 2 c):=by rw [Lib.cell_of_heap G30];rfl
 have g13:w3.cell? ⟨w.heap.size+1,4,none⟩=some (.int .i64 ri):=by rw [Lib.cell_of_heap G31];rfl
 rw [Nat.one_mul] at n0 n1 n2 n3
 have M0:=(H3.out.kp []).some n0 (by simp)
 have M1:=(H3.out.kp []).some n1 (by simp)
 have M2:=(H3.out.kp []).some n2 (by simp)
 have M3:=(H3.out.kp []).some n3 (by simp)
 go_wp2
 go_region_held_law (fun w'=>w'.cell? ⟨w.heap.size,3,none⟩=some (.slice (some ⟨b,off,none⟩) 2 c)∧w'.cell? ⟨w.heap.size+1,4,none⟩=some (.int .i64 ri)∧w'.cell? ⟨b,off+4,none⟩=some (.int .i64 op2)∧w'.cell? ⟨b,off+4+1,none⟩=some (.string (bs nm2))∧w'.cell? ⟨b,off+4+2,none⟩=some (.int .i64 z2)∧w'.cell? ⟨b,off+4+3,none⟩=some (.slice aL2 L2.length cL2)) ((first|exact ⟨by assumption,by assumption,by assumption,by assumption,by assumption,by assumption⟩|go_keep))
  ((go_at_call 175;refine (IH2.out _ _ (H3.out.kept ((Kp.refl [] _).drew)) hb2 (by simp;omega)).mono ?_;rintro e w4 ⟨rfl,h4,hf4⟩;have H4:=hide h4;have F4:Hid (Fr pb w3 w4):=(Fr.of_kp ((Kp.refl [] _).drew)).trans hf4;have G40:=F4.out.heap G30 (by omega) (by decide);have G41:=F4.out.heap G31 (by omega) (by decide);have g20:w4.cell? ⟨w.heap.size,3,none⟩=some (.slice (some ⟨b,off,none⟩) 2 c):=(by rw [Lib.cell_of_heap G40];rfl);have g21:w4.cell? ⟨w.heap.size+1,4,none⟩=some (.int .i64 ri):=(by rw [Lib.cell_of_heap G41];rfl);have M0:=(h4.kp []).some n0 (by simp);have M1:=(h4.kp []).some n1 (by simp);have M2:=(h4.kp []).some n2 (by simp);have M3:=(h4.kp []).some n3 (by simp);clear h4 hf4))
 go_wp2
 go_end0
 exact ⟨rfl,by have:=H4.out;rw [List.append_assoc,List.append_assoc] at this;rw [List.append_assoc];exact this,FW.out.trans (F3.out.trans F4.out)⟩
set_option maxRecDepth 100000 in
set_option maxHeartbeats 400000 in
theorem pBare_neg (n:Nat) (ih:XPt n) (w0:World) (pb k:Nat) (x:List UInt8) (w:World) (P:Nat→Prop) (d1:Sx.Tr) (a:Option Addr) (c:Nat) (h:PG w0 pb x k w) (hT:Tb w0) (hE:EL w0 P (n+1) [d1] (.slice a 1 c)) (f1:Rn.xf (n+1) d1=0)
  (hlen:x.length+([45]++Rn.xt (n+1) 3 d1).length≤140737488355328):
  Calls Tryz.prog 186 #[.pointer (some ⟨pb,0,none⟩),.agg #[.int .i64 3,.string (bs []),.int .i64 0,.slice a 1 c]] w fun e w'=>e= .returned (.tuple #[])∧PG w0 pb (x++([45]++Rn.xt (n+1) 3 d1)) k w'∧Fr pb w w':=by
 obtain ⟨t0,t1,t2,t3,t4⟩:_∧_∧_∧_∧_:=(hT.kp (h.kp [])).opers 3 _ rfl
 obtain ⟨b,off,op1,nm1,z1,L1,aL1,cL1,rfl,-,hd1,m0,m1,m2,m3,hL1⟩:=hE.nth 0 (by simp)
 obtain rfl:d1=Sx.tE op1 nm1 z1 L1:=by simpa using hd1
 clear hd1 hE
 have H:=hide h
 have IH1:=hide (fun W y (hp:PG w0 pb y k W)=>ih w0 pb k y W P op1 z1 nm1 L1 aL1 cL1 3 hp hT hL1 f1)
 generalize Rn.xt (n+1) 3 (Sx.tE op1 nm1 z1 L1)=X1 at *
 have hgl:5<w.heap.size:=by have:=hT.size;have:=h.size;omega
 clear h ih hL1 hT f1
 go_enter Tryz.func186,Tryz.ntmps186
 have HC:=hide (pAdd [[45]] (some ⟨w.heap.size+1+1,0,none⟩) 1 (((H.out.alloc (.cells #[.int .i64 3,.string (bs []),.int .i64 0,.slice (some ⟨b,off,none⟩) 1 c] 112)).alloc (.cells #[.int .i64 1,.string (bs [45]),.int .i64 3,.int .i64 0,.int .i64 3] 233)).alloc _) (TX.new' [[45]] _ _ (by simp) ((H.out.alloc _).alloc _).lt) (by simp at hlen ⊢;omega) (by simp))
 go_wp2_with fail
 refine HC.out.mono ?_
 rintro e w3 ⟨rfl,h3,hf3⟩
 have HL:=H.out.lt
 have G30:w3.heap[w.heap.size]? =some (.cells #[.int .i64 3,.string (bs []),.int .i64 0,.slice (some ⟨b,off,none⟩) 1 c] 112 (0,0)):=hf3.heap (by rw [Below.heap_alloc _ _ _ (by simp;omega),Below.heap_alloc _ _ _ (by simp)];exact heap_alloc_new w _) (by omega) (by decide)
 have G31:w3.heap[w.heap.size+1]? =some (.cells #[.int .i64 1,.string (bs [45]),.int .i64 3,.int .i64 0,.int .i64 3] 233 (0,0)):=hf3.heap (by rw [Below.heap_alloc _ _ _ (by simp)];have:=heap_alloc_new (w.alloc (.cells #[.int .i64 3,.string (bs []),.int .i64 0,.slice (some ⟨b,off,none⟩) 1 c] 112)) (.cells #[.int .i64 1,.string (bs [45]),.int .i64 3,.int .i64 0,.int .i64 3] 233);simpa using this) (by omega) (by decide)
 have F3:=hide (((((Fr.refl pb w).alloc _).alloc _).alloc _).trans hf3)
 have H3:Hid (PG w0 pb (x++[45]) k w3):=hide (by simpa using h3)
 clear h3 hf3 HC t0 t1 t2 t3 t4
 have g00:w3.cell? ⟨w.heap.size,3,none⟩=some (.slice (some ⟨b,off,none⟩) 1 c):=by rw [Lib.cell_of_heap G30];rfl
 have g13:w3.cell? ⟨w.heap.size+1,4,none⟩=some (.int .i64 3):=by rw [Lib.cell_of_heap G31];rfl
 rw [Nat.zero_mul,Nat.add_zero] at m0 m1 m2 m3
 have M0:=(H3.out.kp []).some m0 (by simp)
 have M1:=(H3.out.kp []).some m1 (by simp)
 have M2:=(H3.out.kp []).some m2 (by simp)
 have M3:=(H3.out.kp []).some m3 (by simp)
 go_wp2
 go_region_held_law (fun w'=>w'.cell? ⟨w.heap.size,3,none⟩=some (.slice (some ⟨b,off,none⟩) 1 c)∧w'.cell? ⟨w.heap.size+1,4,none⟩=some (.int .i64 3)∧w'.cell? ⟨b,off,none⟩=some (.int .i64 op1)∧w'.cell? ⟨b,off+1,none⟩=some (.string (bs nm1))∧w'.cell? ⟨b,off+2,none⟩=some (.int .i64 z1)∧w'.cell? ⟨b,off+3,none⟩=some (.slice aL1 L1.length cL1)) ((first|exact ⟨by assumption,by assumption,by assumption,by assumption,by assumption,by assumption⟩|go_keep))
  ((go_at_call 175;refine (IH1.out _ _ (H3.out.kept ((Kp.refl [] _).drew)) (by omega) (by simp at hlen ⊢;omega)).mono ?_;rintro e w4 ⟨rfl,h4,hf4⟩;have H4:=hide h4;have F4:Hid (Fr pb w3 w4):=(Fr.of_kp ((Kp.refl [] _).drew)).trans hf4;have G40:=F4.out.heap G30 (by omega) (by decide);have G41:=F4.out.heap G31 (by omega) (by decide);have g20:w4.cell? ⟨w.heap.size,3,none⟩=some (.slice (some ⟨b,off,none⟩) 1 c):=(by rw [Lib.cell_of_heap G40];rfl);have g21:w4.cell? ⟨w.heap.size+1,4,none⟩=some (.int .i64 3):=(by rw [Lib.cell_of_heap G41];rfl);have M0:=(h4.kp []).some m0 (by simp);have M1:=(h4.kp []).some m1 (by simp);have M2:=(h4.kp []).some m2 (by simp);have M3:=(h4.kp []).some m3 (by simp);clear h4 hf4))
 go_wp2
 go_end0
 exact ⟨rfl,by have:=H4.out;rw [List.append_assoc] at this;exact this,F3.out.trans F4.out⟩
set_option maxRecDepth 100000 in
set_option maxHeartbeats 400000 in
theorem pBare_leaf (w0:World) (pb k:Nat) (x:List UInt8) (w:World) (op z:Int) (nm:List UInt8) (a:Option Addr) (c:Nat) (h:PG w0 pb x k w) (hT:Tb w0) (ho:op=1∨op=2) (z0:0≤z) (z1:z<1000000000000000000)
  (hlen:x.length+(if op=1 then Rn.digs z else nm).length≤140737488355328):
  Calls Tryz.prog 186 #[.pointer (some ⟨pb,0,none⟩),.agg #[.int .i64 op,.string (bs nm),.int .i64 z,.slice a 0 c]] w fun e w'=>e= .returned (.tuple #[])∧PG w0 pb (x++if op=1 then Rn.digs z else nm) k w'∧Fr pb w w':=by
 obtain ⟨t0,t1,t2,t3,t4⟩:=Rn.oper_all (hT.kp (h.kp [])) (show 1≤op by omega) (by omega)
 have t0':w.cell? ⟨5,op.toNat * 5,none⟩=some (.int .i64 0):=by rw [t0];unfold Rn.want;rw [if_pos ho];rfl
 clear t0
 have hb0:(0:Int)≤op:=by omega
 have hb9:op<9:=by omega
 have hgl:5<w.heap.size:=by have:=hT.size;have:=h.size;omega
 have HC:=hide (pLeaf op z nm (.slice a 0 c) ((h.alloc (.cells #[.int .i64 op,.string (bs nm),.int .i64 z,.slice a 0 c] 112)).alloc (.cells #[.int .i64 0,.string (bs (Rn.sg op)),.int .i64 (Rn.holds op),.int .i64 (Rn.lf op),.int .i64 (Rn.rt op)] 233)) (hT.kp (((h.alloc _).alloc _).kp [])) z0 (by omega) hlen)
 clear h hT ho hlen z0 z1
 generalize (if op=1 then Rn.digs z else nm)=Y at *
 generalize Rn.holds op=e1 at *
 generalize Rn.sg op=e2 at *
 generalize Rn.lf op=e3 at *
 generalize Rn.rt op=e4 at *
 go_enter Tryz.func186,Tryz.ntmps186
 go_wp2_with fail
 refine HC.out.mono ?_
 rintro e w3 ⟨rfl,h3,hf3⟩
 go_wp2
 go_end0
 exact ⟨rfl,h3,(((Fr.refl _ _).alloc _).alloc _).trans hf3⟩
theorem pBare_step (n:Nat) (ih:XPt n):BAt (n+1):=by
 intro w0 pb k x w P op z nm L a c h hT hE hf hlen
 obtain ⟨o1,o8,hl,hz,hn,hN,z0,z1,hs⟩:=Rn.xf_all hf
 have hs':=Rn.firstOf_zero hs
 unfold Rn.xb at hlen ⊢
 by_cases h1:op=1∨op=2
 ·obtain rfl:L=[]:=by
   unfold Rn.want at hl
   rw [if_pos h1] at hl
   exact List.length_eq_zero_iff.1 hl
  have e:(if op=1 then Rn.digs z else if op=2 then nm else if op=3 then [45]++Rn.xt (n+1) 3 (([]:List Sx.Tr).headD Sx.d0) else Rn.xt (n+1) (Rn.lft op) (([]:List Sx.Tr).headD Sx.d0)++Rn.sign op++Rn.xt (n+1) (Rn.holds op+1) (([]:List Sx.Tr).tail.headD Sx.d0))=if op=1 then Rn.digs z else nm:=by
   rcases h1 with rfl|rfl
   ·rfl
   ·rfl
  rw [e] at hlen ⊢
  exact pBare_leaf w0 pb k x w op z nm a c h hT h1 z0 z1 hlen
 ·rw [if_neg (by omega),if_neg (by omega)] at hlen ⊢
  obtain rfl:z=0:=by omega
  obtain rfl:nm=[]:=by rcases hn with h|h;exact h;omega
  by_cases h3:op=3
  ·subst h3
   have hl1:L.length=1:=hl
   obtain ⟨d1,rfl⟩:=List.length_eq_one_iff.1 hl1
   exact pBare_neg n ih w0 pb k x w P d1 a c h hT hE (hs' d1 (by simp)) hlen
  ·rw [if_neg h3] at hlen ⊢
   have hl2:L.length=2:=by rw [hl,Rn.want_op (by omega)]
   match L,hl2 with
   |[d1,d2],_=>exact pBare_op n ih w0 pb k x w P op d1 d2 a c h hT hE (by omega) o8 (hs' d1 (by simp)) (hs' d2 (by simp)) hlen
set_option maxRecDepth 100000 in
set_option maxHeartbeats 400000 in
theorem pExpr_step (n:Nat) (ih:BAt n):XPt n:=by
 intro w0 pb k x w P op z nm L a c must h hT hE hf hm hlen
 obtain ⟨o1,o8,-⟩:=Rn.xf_all hf
 rw [Rn.xt_xb] at hlen ⊢
 obtain ⟨t0,t1,t2,t3,t4⟩:=Rn.oper_all (hT.kp (h.kp [])) o1 o8
 have hb0:(0:Int)≤op:=by omega
 have hb9:op<9:=by omega
 have hgl:5<w.heap.size:=by have:=hT.size;have:=h.size;omega
 have IH:=hide (fun W y (hp:PG w0 pb y k W)=>ih w0 pb k y W P op z nm L a c hp hT hE hf)
 have H:=hide h
 have HL:=h.lt
 clear h hT ih hE hf
 generalize Rn.xb n op nm z L=X at *
 clear t0 t1 t3 t4
 by_cases hh:Rn.holds op<must
 ·have q1:decide ((Rn.holds op:Int)<(must:Int))=true:=by simp;omega
  rw [decide_eq_true hh] at hlen ⊢
  simp only [Rn.brk,if_true] at hlen ⊢
  generalize Rn.holds op=e1 at *
  have HC:=hide (pAdd [[40]] (some ⟨w.heap.size+1,0,none⟩) 1 ((H.out.alloc (.cells #[.int .i64 op,.string (bs nm),.int .i64 z,.slice a L.length c] 112)).alloc _) (TX.new' [[40]] _ _ (by simp) (H.out.alloc _).lt) (by simp at hlen ⊢;omega) (by simp))
  go_enter Tryz.func175,Tryz.ntmps175
  go_wp2_with fail
  refine HC.out.mono ?_
  rintro e w3 ⟨rfl,h3,hf3⟩
  have G30:w3.heap[w.heap.size]? =some (.cells #[.int .i64 op,.string (bs nm),.int .i64 z,.slice a L.length c] 112 (0,0)):=hf3.heap (by rw [Below.heap_alloc _ _ _ (by simp)];exact heap_alloc_new w _) (by omega) (by decide)
  have F3:=hide ((((Fr.refl pb w).alloc _).alloc _).trans hf3)
  have H3:Hid (PG w0 pb (x++[40]) k w3):=hide (by simpa using h3)
  clear h3 hf3 HC
  have g0:w3.cell? ⟨w.heap.size,0,none⟩=some (.int .i64 op):=by rw [Lib.cell_of_heap G30];rfl
  have g1:w3.cell? ⟨w.heap.size,1,none⟩=some (.string (bs nm)):=by rw [Lib.cell_of_heap G30];rfl
  have g2:w3.cell? ⟨w.heap.size,2,none⟩=some (.int .i64 z):=by rw [Lib.cell_of_heap G30];rfl
  have g3:w3.cell? ⟨w.heap.size,3,none⟩=some (.slice a L.length c):=by rw [Lib.cell_of_heap G30];rfl
  go_wp2_with fail
  refine (IH.out _ _ H3.out (by simp at hlen ⊢;omega)).mono ?_
  rintro e w4 ⟨rfl,h4,hf4⟩
  have F4:=hide (F3.out.trans hf4)
  have H4:=hide h4
  clear h4 hf4
  have HC:=hide (pAdd [[41]] (some ⟨w4.heap.size,0,none⟩) 1 (H4.out.alloc _) (TX.new [[41]] w4 H4.out.lt) (by simp at hlen ⊢;omega) (by simp))
  go_wp2_with fail
  refine HC.out.mono ?_
  rintro e w5 ⟨rfl,h5,hf5⟩
  go_wp2
  refine bodyPost_ret (v:= .tuple #[]) (by simp [results,Tryz.results175,go_sem]) rfl ?_
  exact ⟨rfl,by simpa using h5,F4.out.trans (((Fr.refl _ _).alloc _).trans hf5)⟩
 ·have q1:decide ((Rn.holds op:Int)<(must:Int))=false:=by simp;omega
  rw [decide_eq_false hh] at hlen ⊢
  simp only [Rn.brk,if_false,Bool.false_eq_true] at hlen ⊢
  generalize Rn.holds op=e1 at *
  go_enter Tryz.func175,Tryz.ntmps175
  go_wp2_with fail
  refine (IH.out _ _ (H.out.alloc _) hlen).mono ?_
  rintro e w4 ⟨rfl,h4,hf4⟩
  go_wp2
  go_end0
  exact ⟨rfl,h4,((Fr.refl _ _).alloc _).trans hf4⟩
theorem pExpr_any (n:Nat):XPt n:=by
 induction n with
 |zero=>intro w0 pb k x w P op z nm L a c must _ _ hE;cases hE
 |succ n ih=>exact pExpr_step (n+1) (pBare_step n ih)
end Go.Proofs.YtcdcoiobpbdmpaaGreatDoor
namespace Go.Proofs.YtcdcoiobpbdmpaaGreatDoor
open Go.RowKit
theorem Rn.com_snoc (l:List (List UInt8)) (s:List UInt8):Rn.com (l++[s])=Rn.com l++((if l.length=0 then [] else [44,32])++s):=by
 induction l with
 |nil=>rfl
 |cons a r ih=>
  cases r with
  |nil=>show a++[44,32]++s=a++([44,32]++s);rw [List.append_assoc]
  |cons b t=>
   have e1:Rn.com (a::b::t++[s])=a++[44,32]++Rn.com (b::t++[s]):=rfl
   have e2:Rn.com (a::b::t)=a++[44,32]++Rn.com (b::t):=rfl
   rw [e1,ih,e2]
   simp
theorem Rn.com_take {l:List (List UInt8)} {i:Nat} {s:List UInt8} (h:l[i]? =some s):Rn.com (l.take (i+1))=Rn.com (l.take i)++((if i=0 then [] else [44,32])++s):=by
 have hi:i<l.length:=(List.getElem?_eq_some_iff.1 h).1
 rw [List.take_add_one,h]
 show Rn.com (l.take i++[s])=_
 rw [Rn.com_snoc,List.length_take,Nat.min_eq_left (by omega)]
theorem Rn.com_le (l m:List (List UInt8)):(Rn.com l).length≤(Rn.com (l++m)).length:=by
 induction m generalizing l with
 |nil=>simp
 |cons a r ih=>
  have:=ih (l++[a])
  rw [Rn.com_snoc,List.length_append] at this
  rw [show l++a::r=l++[a]++r by simp]
  omega
theorem Rn.com_take_le (l:List (List UInt8)) (i:Nat):(Rn.com (l.take i)).length≤(Rn.com l).length:=by
 have:=Rn.com_le (l.take i) (l.drop i)
 rwa [List.take_append_drop] at this
set_option maxRecDepth 100000 in
set_option maxHeartbeats 400000 in
theorem pExprs (n:Nat) (w0:World) (pb k:Nat) (x:List UInt8) (w:World) (P:Nat→Prop) (l:List Sx.Tr) (a:Option Addr) (c:Nat) (h:PG w0 pb x k w) (hT:Tb w0) (hE:EL w0 P n l (.slice a l.length c)) (hf: ∀ (i:Nat) d,l[i]? =some d→Rn.xf n d=0) (hl:l.length≤1000000000)
  (hlen:x.length+(Rn.com (l.map (Rn.xt n 0))).length≤140737488355328):
  Calls Tryz.prog 153 #[.pointer (some ⟨pb,0,none⟩),.slice a l.length c] w fun e w'=>e= .returned (.tuple #[])∧PG w0 pb (x++Rn.com (l.map (Rn.xt n 0))) k w'∧Fr pb w w':=by
 have H:=hide h
 have HE:=hide hE
 have HF:=hide hf
 have HT:=hide hT
 clear h hE hf hT
 go_enter Tryz.func153,Tryz.ntmps153
 go_wp2_with fail
 go_loopw [8] (fun iv wr=> ∃ (i:Nat),i≤l.length∧iv= .int .i64 i∧Hid (PG w0 pb (x++Rn.com ((l.map (Rn.xt n 0)).take i)) k wr)∧Hid (Fr pb w wr)) (fun iv _=>l.length - (intOf iv).toNat)
 case atStart=>exact ⟨0,Nat.zero_le _,rfl,hide (by simpa [Rn.com] using H.out),Fr.refl _ _⟩
 case round=>
  obtain ⟨i,hi,rfl,HP,HFr⟩:=hrel
  by_cases hlt:i<l.length
  ·have d1:decide ((i:Int)<(l.length:Int))=true:=by simp;omega
   cases n with
   |zero=>cases HE.out
   |succ n=>
    obtain ⟨b,off,op1,nm1,z1,L1,aL1,cL1,rfl,-,hd1,m0,m1,m2,m3,hL1⟩:=HE.out.nth i hlt
    have f1:=HF.out i _ hd1
    have hk0:(0:Int)≤(i:Int):=by omega
    have hk1:(i:Int)<(l.length:Int):=by omega
    have M0:=(HP.out.kp []).some m0 (by simp)
    have M1:=(HP.out.kp []).some m1 (by simp)
    have M2:=(HP.out.kp []).some m2 (by simp)
    have M3:=(HP.out.kp []).some m3 (by simp)
    have hm:(l.map (Rn.xt (n+1) 0))[i]? =some (Rn.xt (n+1) 0 (Sx.tE op1 nm1 z1 L1)):=by rw [List.getElem?_map,hd1];rfl
    have e1:=Rn.com_take hm
    have e2:=Rn.com_take_le (l.map (Rn.xt (n+1) 0)) (i+1)
    rw [e1,List.length_append,List.length_append] at e2
    have HC:=hide (pComma i (HP.out.alloc (.cells #[.int .i64 op1,.string (bs nm1),.int .i64 z1,.slice aL1 L1.length cL1] 112)) (by rw [List.length_append];omega))
    have HX:=hide (fun W y (hp:PG w0 pb y k W)=>pExpr_any n w0 pb k y W P op1 z1 nm1 L1 aL1 cL1 0 hp HT.out hL1 f1 (by omega))
    generalize Rn.xt (n+1) 0 (Sx.tE op1 nm1 z1 L1)=X at *
    generalize Rn.com ((l.map (Rn.xt (n+1) 0)).take i)=Y at *
    generalize hV:(Rn.com (l.map (Rn.xt (n+1) 0))).length=V at hlen e2
    clear hV
    generalize (if i=0 then [] else [44,32]:List UInt8)=q at *
    have E1:=hide e1
    clear e1
    have HL:=HP.out.lt
    clear hL1 f1 hm hd1 m0 m1 m2 m3
    go_wp2_with fail
    refine HC.out.mono ?_
    rintro e w3 ⟨rfl,h3,hf3⟩
    have G30:w3.heap[wr.heap.size]? =some (.cells #[.int .i64 op1,.string (bs nm1),.int .i64 z1,.slice aL1 L1.length cL1] 112 (0,0)):=hf3.heap (heap_alloc_new wr _) (by omega) (by decide)
    have F3:=hide (HFr.out.trans (((Fr.refl pb wr).alloc _).trans hf3))
    have H3:=hide h3
    clear h3 hf3 HC
    have g0:w3.cell? ⟨wr.heap.size,0,none⟩=some (.int .i64 op1):=by rw [Lib.cell_of_heap G30];rfl
    have g1:w3.cell? ⟨wr.heap.size,1,none⟩=some (.string (bs nm1)):=by rw [Lib.cell_of_heap G30];rfl
    have g2:w3.cell? ⟨wr.heap.size,2,none⟩=some (.int .i64 z1):=by rw [Lib.cell_of_heap G30];rfl
    have g3:w3.cell? ⟨wr.heap.size,3,none⟩=some (.slice aL1 L1.length cL1):=by rw [Lib.cell_of_heap G30];rfl
    go_wp2_with fail
    refine (HX.out _ _ H3.out (by rw [List.length_append,List.length_append];omega)).mono ?_
    rintro e w4 ⟨rfl,h4,hf4⟩
    have H4:=hide h4
    have F4:=hide (F3.out.trans hf4)
    clear h4 hf4
    go_wp2
    go_roundw
    case rel=>exact ⟨i+1,by omega,by go_num,by rw [E1.out,←List.append_assoc,←List.append_assoc];exact H4,F4⟩
    case measure=>simp [intOf];omega
  ·obtain rfl:i=l.length:=by omega
   have d1:decide ((l.length:Int)<(l.length:Int))=false:=by simp
   rw [List.take_of_length_le (by simp)] at HP
   go_wp2
   go_end0
   exact ⟨rfl,HP.out,HFr.out⟩
end Go.Proofs.YtcdcoiobpbdmpaaGreatDoor
