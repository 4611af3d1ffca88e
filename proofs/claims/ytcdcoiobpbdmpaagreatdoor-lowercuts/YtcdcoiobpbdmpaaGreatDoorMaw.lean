import Derived.Test.YtcdcoiobpbdmpaaGreatDoorMag
import Derived.BigQuiet
namespace Go.Proofs.YtcdcoiobpbdmpaaGreatDoor
open Go.RowKit
theorem sum_congr (f g:Sx.Tr→Nat) {l:List Sx.Tr} (h: ∀ (i:Nat) d,l[i]? =some d→f d=g d):Sx.sum f l=Sx.sum g l:=by
 induction l with
 |nil=>rfl
 |cons d r ih=>
  simp only [Sx.sum]
  rw [h 0 d rfl,ih (fun i e he=>h (i+1) e (by simpa using he))]
theorem EL.wE {w:World} {P:Nat→Prop} {n:Nat} {L:List Sx.Tr} {a:Option Addr} {c:Nat} (h:EL w P n L (.slice a L.length c)):Sx.wE (n+1) L=Sx.wE n L:=by
 induction n generalizing L a c with
 |zero=>cases h
 |succ n ih=>
  show L.length+Sx.sum (fun d=>Sx.wE (n+1) (Sx.eL d)) L=L.length+Sx.sum (fun d=>Sx.wE n (Sx.eL d)) L
  rw [sum_congr (fun d=>Sx.wE (n+1) (Sx.eL d)) (fun d=>Sx.wE n (Sx.eL d)) (l:=L)]
  intro i d hd
  have hi:i<L.length:=(List.getElem?_eq_some_iff.1 hd).1
  obtain ⟨b,off,op1,nm1,z1,L1,aL,cL,rfl,-,hd',m0,m1,m2,m3,hL⟩:=h.nth i hi
  rw [hd] at hd'
  obtain rfl:=Option.some.inj hd'
  exact ih hL
theorem exprCode_any (n:Nat) (w:World) (hT:Tb w) (P:Nat→Prop) (op z:Int) (nm:List UInt8) (L:List Sx.Tr) (a:Option Addr) (c:Nat) (h:EL w P n L (.slice a L.length c)) (hw:Sx.wE n L≤1000000000) (hn:Rn.nmE (n+1) (Sx.tE op nm z L)):
  Calls Tryz.prog 150 #[.agg #[.int .i64 op,.string (bs nm),.int .i64 z,.slice a L.length c]] w fun e w'=>e= .returned (.int .i64 (Rn.ef (n+1) (Sx.tE op nm z L)))∧Kp [] w w':=by
 have hwe:=h.wE
 have HC:Hid (∀ w1,Kp [] w w1→Calls Tryz.prog 171 #[.agg #[.int .i64 op,.string (bs nm),.int .i64 z,.slice a L.length c],.int .i64 20] w1 fun e w'=>e= .returned (.int .i64 ((Rn.cpt (n+1) 20 (Sx.tE op nm z L):Nat):Int))∧Kp [] w1 w'):=fun w1 hk=>
  countParts_any (n+1) w1 P op z nm L a c 20 ((h.more 1).keep hk (by simp)) (by omega) (by omega)
 have HP:Hid (∀ w1,Kp [] w w1→Calls Tryz.prog 172 #[.agg #[.int .i64 op,.string (bs nm),.int .i64 z,.slice a L.length c]] w1 fun e w'=>e= .returned (.int .i64 (Rn.xf (n+1) (Sx.tE op nm z L)))∧Kp [] w1 w'):=fun w1 hk=>
  partCode_any n w1 P op z nm L a c (hT.kp hk) (h.keep hk (by simp)) hn
 have hlt:=Rn.cpt_lt (n+1) 20 (Sx.tE op nm z L)
 have HE:Hid (Rn.ef (n+1) (Sx.tE op nm z L)=if 20<Rn.prt (n+1) (Sx.tE op nm z L) then 8 else Rn.xf (n+1) (Sx.tE op nm z L)):=rfl
 rw [HE.out]
 generalize Rn.cpt (n+1) 20 (Sx.tE op nm z L)=C at *
 generalize Rn.prt (n+1) (Sx.tE op nm z L)=Q at *
 generalize Rn.xf (n+1) (Sx.tE op nm z L)=X at *
 clear h hw hn hwe hT HE
 by_cases hq:20<Q
 ·rw [if_pos hq]
  have d1:decide ((20:Int)<(C:Int))=true:=by have:=hlt.2 hq;simp;omega
  clear hlt
  go_enter Tryz.func150,Tryz.ntmps150
  go_wp2_with fail
  refine (HC.out _ ((Kp.refl _ _).alloc _)).mono ?_
  rintro e w1 ⟨rfl,hk⟩
  have K1:Hid (Kp [] w w1):=((Kp.refl _ _).alloc _).trans hk
  clear hk
  go_wp2
  go_ret
  exact ⟨rfl,K1.out⟩
 ·rw [if_neg hq]
  have d1:decide ((20:Int)<(C:Int))=false:=by have: ¬ 20<C:=fun hc=>hq (hlt.1 hc);simp;omega
  clear hlt
  go_enter Tryz.func150,Tryz.ntmps150
  go_wp2_with fail
  refine (HC.out _ ((Kp.refl _ _).alloc _)).mono ?_
  rintro e w1 ⟨rfl,hk⟩
  have K1:Hid (Kp [] w w1):=((Kp.refl _ _).alloc _).trans hk
  have c0:w1.cell? ⟨w.heap.size,0,none⟩=some (.int .i64 op):=hk.some (by simp [go_sem]) (by simp)
  have c1:w1.cell? ⟨w.heap.size,1,none⟩=some (.string (bs nm)):=hk.some (by simp [go_sem]) (by simp)
  have c2:w1.cell? ⟨w.heap.size,2,none⟩=some (.int .i64 z):=hk.some (by simp [go_sem]) (by simp)
  have c3:w1.cell? ⟨w.heap.size,3,none⟩=some (.slice a L.length c):=hk.some (by simp [go_sem]) (by simp)
  clear hk
  go_wp2_with fail
  refine (HP.out _ K1.out).mono ?_
  rintro e w2 ⟨rfl,hk⟩
  have K2:Hid (Kp [] w w2):=K1.out.trans hk
  clear hk
  go_wp2
  go_ret
  exact ⟨rfl,K2.out⟩
def Rn.nmP (l:List Sx.Tr):Prop:= ∀ (i:Nat) p,l[i]? =some p→(Sx.pH p).1.length≤1099511627776∧(Sx.pH p).2.length≤1099511627776
theorem RP_lw (d:Sx.Tr) (c:List Value) (h:RP d c):c.length=2:=by
 obtain ⟨nm,T,_,rfl⟩:=h
 rfl
theorem Sl.nth' {w:World} {P:Nat→Prop} {l:List Sx.Tr} {a:Option Addr} {cap:Nat} (h:Sl RP w P l (.slice a l.length cap)) (i:Nat) (hi:i<l.length):
  ∃ b off nm T,a=some ⟨b,off,none⟩∧l[i]? =some (Sx.tP nm T)∧w.cell? ⟨b,off+i * 2,none⟩=some (.string (bs nm))∧w.cell? ⟨b,off+i * 2+1,none⟩=some (.string (bs T)):=by
 obtain ⟨a',cap',hv,h⟩:=h
 cases hv
 rcases h with h|⟨b,off,cs,ha,hb,hr,hc⟩
 ·subst h;simp at hi
 ·obtain ⟨c,hR,hcu⟩:=hr.at RP_lw i _ (List.getElem?_eq_getElem hi)
  obtain ⟨nm,T,hd,rfl⟩:=hR
  have hx:=fun j u hu=>hc _ u (hcu j u hu)
  simp only [←Nat.add_assoc] at hx
  exact ⟨b,off,nm,T,ha,by rw [List.getElem?_eq_getElem hi,hd],hx 0 _ rfl,hx 1 _ rfl⟩
def Rn.pf1 (p:Sx.Tr):Int:=if Tk.isN (Sx.pH p).1=false then 4 else if Rn.isT (Sx.pH p).2 3=false then 11 else 0
theorem nameW_any (nm:List UInt8) (w:World) (h:Tb w) (hn:nm.length≤1099511627776):Calls Tryz.prog 128 #[.string (bs nm)] w fun e w'=>e= .returned (.bool (Tk.isN nm))∧w'=w:=by
 have:=name_any (bs nm) w h.words (by rw [bsz];exact hn)
 rw [bs_list] at this
 exact this
set_option maxRecDepth 100000 in
set_option maxHeartbeats 1000000 in
theorem headCode_any (w:World) (hT:Tb w) (P:Nat→Prop) (nm:List UInt8) (at':Int) (ps:List Sx.Tr) (body:List Sx.Tr) (a:Option Addr) (c:Nat) (uB:Value) (h:Sl RP w P ps (.slice a ps.length c)) (hn:nm.length≤1099511627776) (hp:Rn.nmP ps) (hl:ps.length≤1000000000):
  Calls Tryz.prog 98 #[.agg #[.string (bs nm),.int .i64 at',.slice a ps.length c,uB]] w fun e w'=>e= .returned (.int .i64 (Rn.hf (Sx.tG nm at' ps body)))∧Kp [] w w':=by
 have HE:Hid (Rn.hf (Sx.tG nm at' ps body)=if Tk.isN nm=false then 4 else if 6<ps.length then 8 else Rn.firstOf Rn.pf1 ps):=rfl
 have HI:=hide (fun w h=>nameW_any nm w h hn)
 have HS:=hide h
 have HT:=hide hT
 have HP:=hide hp
 rw [HE.out]
 clear h hn hp hT HE
 cases hX:Tk.isN nm with
 |false=>
  rw [hX] at HI
  rw [if_pos rfl]
  go_enter Tryz.func98,Tryz.ntmps98
  go_wp2_with fail
  refine (HI.out _ (HT.out.kp ((Kp.refl _ _).alloc _))).mono ?_
  rintro e w1 ⟨rfl,rfl⟩
  go_wp2
  go_ret
  exact ⟨rfl,(Kp.refl _ _).alloc _⟩
 |true=>
  rw [hX] at HI
  rw [if_neg (by simp)]
  by_cases h6:6<ps.length
  ·rw [if_pos h6]
   have d6:decide ((6:Int)<(ps.length:Int))=true:=by simp;omega
   go_enter Tryz.func98,Tryz.ntmps98
   go_wp2_with fail
   refine (HI.out _ (HT.out.kp ((Kp.refl _ _).alloc _))).mono ?_
   rintro e w1 ⟨rfl,rfl⟩
   go_wp2
   go_ret
   exact ⟨rfl,(Kp.refl _ _).alloc _⟩
  ·rw [if_neg h6]
   have d6:decide ((6:Int)<(ps.length:Int))=false:=by simp;omega
   go_enter Tryz.func98,Tryz.ntmps98
   go_wp2_with fail
   refine (HI.out _ (HT.out.kp ((Kp.refl _ _).alloc _))).mono ?_
   rintro e w1 ⟨rfl,rfl⟩
   go_wp2
   go_loopw [16] (fun iv wr=> ∃ (k:Nat),k≤ps.length∧iv= .int .i64 k∧Hid (Rn.firstOf Rn.pf1 ps=Rn.firstOf Rn.pf1 (ps.drop k))∧Hid (Kp [] w wr)) (fun iv _=>ps.length - (intOf iv).toNat)
   case atStart=>exact ⟨0,Nat.zero_le _,rfl,rfl,(Kp.refl _ _).alloc _⟩
   case round=>
    obtain ⟨k,hk,rfl,HF,HK⟩:=hrel
    by_cases hlt:k<ps.length
    ·have d1:decide ((k:Int)<(ps.length:Int))=true:=by simp;omega
     obtain ⟨b,off,nm1,T1,rfl,hd,m0,m1⟩:=(HS.out.keep HK.out (by simp) (fun _ _ h=>h)).nth' k hlt
     have HI1:=hide (fun w h=>nameW_any nm1 w h (HP.out k _ hd).1)
     have HT1:=hide (fun w=>rType_any T1 3 w (HP.out k _ hd).2)
     have HDR:=hide (drop_nth hd)
     have HQ:Hid (Rn.pf1 (Sx.tP nm1 T1)=if Tk.isN nm1=false then 4 else if Rn.isT T1 3=false then 11 else 0):=rfl
     have hk0:(0:Int)≤(k:Int):=by omega
     have hk1:(k:Int)<(ps.length:Int):=by omega
     clear hd
     cases hN:Tk.isN nm1 with
     |false=>
      rw [hN] at HI1 HQ
      go_wp2_with fail
      refine (HI1.out _ (HT.out.kp (HK.out.alloc _))).mono ?_
      rintro e w1 ⟨rfl,rfl⟩
      go_wp2
      go_ret
      refine ⟨?_,HK.out.alloc _⟩
      rw [HF.out,HDR.out,Rn.firstOf,HQ.out]
      rfl
     |true=>
      rw [hN] at HI1 HQ
      cases hB:Rn.isT T1 3 with
      |false=>
       rw [hB] at HT1 HQ
       go_wp2_with fail
       refine (HI1.out _ (HT.out.kp (HK.out.alloc _))).mono ?_
       rintro e w1 ⟨rfl,rfl⟩
       go_wp2_with fail
       refine (HT1.out _).mono ?_
       rintro e w1 ⟨rfl,hk2⟩
       have K1:=hide hk2
       clear hk2
       go_wp2
       go_ret
       refine ⟨?_,(HK.out.alloc _).trans K1.out⟩
       rw [HF.out,HDR.out,Rn.firstOf,HQ.out]
       rfl
      |true=>
       rw [hB] at HT1 HQ
       go_wp2_with fail
       refine (HI1.out _ (HT.out.kp (HK.out.alloc _))).mono ?_
       rintro e w1 ⟨rfl,rfl⟩
       go_wp2_with fail
       refine (HT1.out _).mono ?_
       rintro e w1 ⟨rfl,hk2⟩
       have K1:=hide hk2
       clear hk2
       go_wp2
       go_roundw
       case rel=>exact ⟨k+1,by omega,by go_num,by rw [HF.out,HDR.out,Rn.firstOf,HQ.out];rfl,(HK.out.alloc _).trans K1.out⟩
       case measure=>simp [intOf];omega
    ·obtain rfl:k=ps.length:=by omega
     have d1:decide ((ps.length:Int)<(ps.length:Int))=false:=by simp
     go_wp2
     go_ret
     refine ⟨?_,HK.out⟩
     rw [HF.out,List.drop_length]
     rfl
end Go.Proofs.YtcdcoiobpbdmpaaGreatDoor
namespace Go.Proofs.YtcdcoiobpbdmpaaGreatDoor
open Go.RowKit
theorem beq_cast (a b:Nat):((a:Int) == (b:Int))=(a == b):=by
 apply Bool.eq_iff_iff.2
 simp
 omega
def Rn.zr (l:List Bool) (t:Bool) (k:Nat):Bool:=(l.drop k).foldr (fun a b=>a && b) t
theorem ix_0 (c0 c1 c2 c3 c4 c5 c6 c7 c8 c9 c10 c11:Value) (w:World):(Instr.index 219 (.agg #[c0,c1,c2,c3,c4,c5,c6,c7,c8,c9,c10,c11]) (.int .i64 0)).run Tryz.prog w= .ok (.agg #[c0,c1]) w:=by
 simp [Instr.index,go_sem]
theorem ix_1 (c0 c1 c2 c3 c4 c5 c6 c7 c8 c9 c10 c11:Value) (w:World):(Instr.index 219 (.agg #[c0,c1,c2,c3,c4,c5,c6,c7,c8,c9,c10,c11]) (.int .i64 1)).run Tryz.prog w= .ok (.agg #[c2,c3]) w:=by
 simp [Instr.index,go_sem]
theorem ix_2 (c0 c1 c2 c3 c4 c5 c6 c7 c8 c9 c10 c11:Value) (w:World):(Instr.index 219 (.agg #[c0,c1,c2,c3,c4,c5,c6,c7,c8,c9,c10,c11]) (.int .i64 2)).run Tryz.prog w= .ok (.agg #[c4,c5]) w:=by
 simp [Instr.index,go_sem]
theorem ix_3 (c0 c1 c2 c3 c4 c5 c6 c7 c8 c9 c10 c11:Value) (w:World):(Instr.index 219 (.agg #[c0,c1,c2,c3,c4,c5,c6,c7,c8,c9,c10,c11]) (.int .i64 3)).run Tryz.prog w= .ok (.agg #[c6,c7]) w:=by
 simp [Instr.index,go_sem]
theorem ix_4 (c0 c1 c2 c3 c4 c5 c6 c7 c8 c9 c10 c11:Value) (w:World):(Instr.index 219 (.agg #[c0,c1,c2,c3,c4,c5,c6,c7,c8,c9,c10,c11]) (.int .i64 4)).run Tryz.prog w= .ok (.agg #[c8,c9]) w:=by
 simp [Instr.index,go_sem]
theorem ix_5 (c0 c1 c2 c3 c4 c5 c6 c7 c8 c9 c10 c11:Value) (w:World):(Instr.index 219 (.agg #[c0,c1,c2,c3,c4,c5,c6,c7,c8,c9,c10,c11]) (.int .i64 5)).run Tryz.prog w= .ok (.agg #[c10,c11]) w:=by
 simp [Instr.index,go_sem]
set_option maxRecDepth 100000 in
set_option maxHeartbeats 4000000 in
theorem isFormed_z (w:World) (hT:Tb w) (d at' kk:Int) (A B T:List UInt8) (aE aB aL:Option Addr) (nE nB nL cE cB cL:Nat) (h1:1≤d) (h2:d≤14)
  (f0 f1 f2 f3 f4 f5 a0 a1 a2 a3 a4 a5:Bool) (k0:Rn.hasA d=a0) (k1:Rn.hasB d=a1) (k2:Rn.hasT d=a2) (k3:Rn.hasT d=a3) (k4:Rn.hasS d=a4) (k5:Rn.hasO d=a5) (g0:(!A.isEmpty)=f0) (g1:(!B.isEmpty)=f1) (g2:(!T.isEmpty)=f2) (g3:(kk !=0)=f3) (g4:decide (0<nB)=f4) (g5:decide (0<nL)=f5):
  Calls Tryz.prog 148 #[.agg #[.int .i64 d,.int .i64 at',.string (bs A),.string (bs B),.string (bs T),.int .i64 kk,.slice aE nE cE,.slice aB nB cB,.slice aL nL cL]] w
   fun e w'=>e= .returned (.bool (Rn.zr [(a0 || !f0),(a1 || !f1),(a2 || !f2),(a3 || !f3),(a4 || !f4),(a5 || !f5)] (d == 10 || nE == Rn.fewE d) 0))∧Kp [] w w':=by
 have HKI:Hid (∀ w,Calls Tryz.prog 168 #[.int .i64 d] w fun e w'=>e= .returned (.bool true)∧w'=w):=fun w=>by
  have:=isKind_any d w
  rw [show decide (1≤d)=true from by simp;omega,show decide (d≤14)=true from by simp;omega] at this
  exact this
 have eA:(bs A).toList=A:=bsl A
 have eB:(bs B).toList=B:=bsl B
 have eT:(bs T).toList=T:=bsl T
 have F0:=hide (fun w h=>((Rn.hasF_A h1 h2).trans k0) ▸ hasField_any d 65 w h h1 h2)
 have F1:=hide (fun w h=>((Rn.hasF_B h1 h2).trans k1) ▸ hasField_any d 66 w h h1 h2)
 have F2:=hide (fun w h=>((Rn.hasF_T h1 h2).trans k2) ▸ hasField_any d 84 w h h1 h2)
 have F3:=hide (fun w h=>((Rn.hasF_N h1 h2).trans k3) ▸ hasField_any d 78 w h h1 h2)
 have F4:=hide (fun w h=>((Rn.hasF_S h1 h2).trans k4) ▸ hasField_any d 83 w h h1 h2)
 have F5:=hide (fun w h=>((Rn.hasF_O h1 h2).trans k5) ▸ hasField_any d 79 w h h1 h2)
 obtain ⟨f,hf⟩: ∃ f,Rn.forms[d.toNat]? =some f:=⟨_,List.getElem?_eq_getElem (show d.toNat<15 by omega)⟩
 have HFC:=hide (hT.forms _ _ hf)
 have hgl:1<w.heap.size:=by have:=hT.size;omega
 have HCE:=hide (fun w=>Tryz.strings_Count_one (bs f) 69 w)
 have HCN:Hid (d ≠ 10→Lib.countByte (bs f).data.toList 69=Rn.fewE d):=fun h=>by
  have:=Rn.countE h1 h2 h
  rw [hf] at this
  rw [bs_list]
  exact this
 have HT:=hide hT
 have b0:(0:Int)≤d:=by omega
 have b1:d<15:=by omega
 have HZ:Hid (∀ k:Nat,6≤k→Rn.zr [(a0 || !f0),(a1 || !f1),(a2 || !f2),(a3 || !f3),(a4 || !f4),(a5 || !f5)] (d == 10 || nE == Rn.fewE d) k=(d == 10 || nE == Rn.fewE d)):=fun k hk=>by
  unfold Rn.zr
  rw [List.drop_eq_nil_of_le (by simpa using hk)]
  rfl
 clear hT hf k0 k1 k2 k3 k4 k5
 go_enter Tryz.func148,Tryz.ntmps148
 go_wp2_with fail
 refine (HKI.out _).mono ?_
 rintro e w1 ⟨rfl,rfl⟩
 go_wp2_with fail
 clear g0 g1 g2 g3 g4 g5
 go_loopw [36] (fun iv wr=> ∃ (k:Int),(0≤k∧k≤6)∧iv= .int .i64 k∧Hid (Rn.zr [(a0 || !f0),(a1 || !f1),(a2 || !f2),(a3 || !f3),(a4 || !f4),(a5 || !f5)] (d == 10 || nE == Rn.fewE d) 0=Rn.zr [(a0 || !f0),(a1 || !f1),(a2 || !f2),(a3 || !f3),(a4 || !f4),(a5 || !f5)] (d == 10 || nE == Rn.fewE d) k.toNat)∧Hid (Kp [] w wr)∧wr.cell? ⟨w.heap.size,0,none⟩=some (.int .i64 d)∧wr.cell? ⟨w.heap.size,6,none⟩=some (.slice aE nE cE)) (fun iv _=>6 - (intOf iv).toNat)
 case atStart=>exact ⟨0,by omega,rfl,rfl,(Kp.refl _ _).alloc _,by simp [go_sem],by simp [go_sem]⟩
 case round=>
  obtain ⟨k,hk,rfl,HV,HK,p0,p6⟩:=hrel
  have hbl:=World.block_lt_of_cell? _ _ p0
  have hkc:k=0∨k=1∨k=2∨k=3∨k=4∨k=5∨k=6:=by omega
  rcases hkc with rfl|rfl|rfl|rfl|rfl|rfl|rfl
  ·cases f0 with
   |false=>
    go_wp2_with fail
    rw [ix_0]
    simp only [Result.andThen]
    rw [Oper.upon_value]
    go_wp2
    go_roundw
    case rel=>exact ⟨1,by omega,by go_num,HV.out.trans (by simp [Rn.zr]),HK.out.alloc _,((Kp.refl [] _).alloc _).some p0 (by simp),((Kp.refl [] _).alloc _).some p6 (by simp)⟩
    case measure=>simp [intOf]
   |true=>
    cases a0 with
    |true=>
     go_wp2_with fail
     rw [ix_0]
     simp only [Result.andThen]
     rw [Oper.upon_value]
     go_wp2_with fail
     refine (F0.out _ (HT.out.kp (HK.out.alloc _))).mono ?_
     rintro e w2 ⟨rfl,rfl⟩
     go_wp2
     go_roundw
     case rel=>exact ⟨1,by omega,by go_num,HV.out.trans (by simp [Rn.zr]),HK.out.alloc _,((Kp.refl [] _).alloc _).some p0 (by simp),((Kp.refl [] _).alloc _).some p6 (by simp)⟩
     case measure=>simp [intOf]
    |false=>
     go_wp2_with fail
     rw [ix_0]
     simp only [Result.andThen]
     rw [Oper.upon_value]
     go_wp2_with fail
     refine (F0.out _ (HT.out.kp (HK.out.alloc _))).mono ?_
     rintro e w2 ⟨rfl,rfl⟩
     go_wp2
     go_ret
     refine ⟨?_,HK.out.alloc _⟩
     rw [HV.out]
     simp [Rn.zr]
  ·cases f1 with
   |false=>
    go_wp2_with fail
    rw [ix_1]
    simp only [Result.andThen]
    rw [Oper.upon_value]
    go_wp2
    go_roundw
    case rel=>exact ⟨2,by omega,by go_num,HV.out.trans (by simp [Rn.zr]),HK.out.alloc _,((Kp.refl [] _).alloc _).some p0 (by simp),((Kp.refl [] _).alloc _).some p6 (by simp)⟩
    case measure=>simp [intOf]
   |true=>
    cases a1 with
    |true=>
     go_wp2_with fail
     rw [ix_1]
     simp only [Result.andThen]
     rw [Oper.upon_value]
     go_wp2_with fail
     refine (F1.out _ (HT.out.kp (HK.out.alloc _))).mono ?_
     rintro e w2 ⟨rfl,rfl⟩
     go_wp2
     go_roundw
     case rel=>exact ⟨2,by omega,by go_num,HV.out.trans (by simp [Rn.zr]),HK.out.alloc _,((Kp.refl [] _).alloc _).some p0 (by simp),((Kp.refl [] _).alloc _).some p6 (by simp)⟩
     case measure=>simp [intOf]
    |false=>
     go_wp2_with fail
     rw [ix_1]
     simp only [Result.andThen]
     rw [Oper.upon_value]
     go_wp2_with fail
     refine (F1.out _ (HT.out.kp (HK.out.alloc _))).mono ?_
     rintro e w2 ⟨rfl,rfl⟩
     go_wp2
     go_ret
     refine ⟨?_,HK.out.alloc _⟩
     rw [HV.out]
     simp [Rn.zr]
  ·cases f2 with
   |false=>
    go_wp2_with fail
    rw [ix_2]
    simp only [Result.andThen]
    rw [Oper.upon_value]
    go_wp2
    go_roundw
    case rel=>exact ⟨3,by omega,by go_num,HV.out.trans (by simp [Rn.zr]),HK.out.alloc _,((Kp.refl [] _).alloc _).some p0 (by simp),((Kp.refl [] _).alloc _).some p6 (by simp)⟩
    case measure=>simp [intOf]
   |true=>
    cases a2 with
    |true=>
     go_wp2_with fail
     rw [ix_2]
     simp only [Result.andThen]
     rw [Oper.upon_value]
     go_wp2_with fail
     refine (F2.out _ (HT.out.kp (HK.out.alloc _))).mono ?_
     rintro e w2 ⟨rfl,rfl⟩
     go_wp2
     go_roundw
     case rel=>exact ⟨3,by omega,by go_num,HV.out.trans (by simp [Rn.zr]),HK.out.alloc _,((Kp.refl [] _).alloc _).some p0 (by simp),((Kp.refl [] _).alloc _).some p6 (by simp)⟩
     case measure=>simp [intOf]
    |false=>
     go_wp2_with fail
     rw [ix_2]
     simp only [Result.andThen]
     rw [Oper.upon_value]
     go_wp2_with fail
     refine (F2.out _ (HT.out.kp (HK.out.alloc _))).mono ?_
     rintro e w2 ⟨rfl,rfl⟩
     go_wp2
     go_ret
     refine ⟨?_,HK.out.alloc _⟩
     rw [HV.out]
     simp [Rn.zr]
  ·cases f3 with
   |false=>
    go_wp2_with fail
    rw [ix_3]
    simp only [Result.andThen]
    rw [Oper.upon_value]
    go_wp2
    go_roundw
    case rel=>exact ⟨4,by omega,by go_num,HV.out.trans (by simp [Rn.zr]),HK.out.alloc _,((Kp.refl [] _).alloc _).some p0 (by simp),((Kp.refl [] _).alloc _).some p6 (by simp)⟩
    case measure=>simp [intOf]
   |true=>
    cases a3 with
    |true=>
     go_wp2_with fail
     rw [ix_3]
     simp only [Result.andThen]
     rw [Oper.upon_value]
     go_wp2_with fail
     refine (F3.out _ (HT.out.kp (HK.out.alloc _))).mono ?_
     rintro e w2 ⟨rfl,rfl⟩
     go_wp2
     go_roundw
     case rel=>exact ⟨4,by omega,by go_num,HV.out.trans (by simp [Rn.zr]),HK.out.alloc _,((Kp.refl [] _).alloc _).some p0 (by simp),((Kp.refl [] _).alloc _).some p6 (by simp)⟩
     case measure=>simp [intOf]
    |false=>
     go_wp2_with fail
     rw [ix_3]
     simp only [Result.andThen]
     rw [Oper.upon_value]
     go_wp2_with fail
     refine (F3.out _ (HT.out.kp (HK.out.alloc _))).mono ?_
     rintro e w2 ⟨rfl,rfl⟩
     go_wp2
     go_ret
     refine ⟨?_,HK.out.alloc _⟩
     rw [HV.out]
     simp [Rn.zr]
  ·cases f4 with
   |false=>
    go_wp2_with fail
    rw [ix_4]
    simp only [Result.andThen]
    rw [Oper.upon_value]
    go_wp2
    go_roundw
    case rel=>exact ⟨5,by omega,by go_num,HV.out.trans (by simp [Rn.zr]),HK.out.alloc _,((Kp.refl [] _).alloc _).some p0 (by simp),((Kp.refl [] _).alloc _).some p6 (by simp)⟩
    case measure=>simp [intOf]
   |true=>
    cases a4 with
    |true=>
     go_wp2_with fail
     rw [ix_4]
     simp only [Result.andThen]
     rw [Oper.upon_value]
     go_wp2_with fail
     refine (F4.out _ (HT.out.kp (HK.out.alloc _))).mono ?_
     rintro e w2 ⟨rfl,rfl⟩
     go_wp2
     go_roundw
     case rel=>exact ⟨5,by omega,by go_num,HV.out.trans (by simp [Rn.zr]),HK.out.alloc _,((Kp.refl [] _).alloc _).some p0 (by simp),((Kp.refl [] _).alloc _).some p6 (by simp)⟩
     case measure=>simp [intOf]
    |false=>
     go_wp2_with fail
     rw [ix_4]
     simp only [Result.andThen]
     rw [Oper.upon_value]
     go_wp2_with fail
     refine (F4.out _ (HT.out.kp (HK.out.alloc _))).mono ?_
     rintro e w2 ⟨rfl,rfl⟩
     go_wp2
     go_ret
     refine ⟨?_,HK.out.alloc _⟩
     rw [HV.out]
     simp [Rn.zr]
  ·cases f5 with
   |false=>
    go_wp2_with fail
    rw [ix_5]
    simp only [Result.andThen]
    rw [Oper.upon_value]
    go_wp2
    go_roundw
    case rel=>exact ⟨6,by omega,by go_num,HV.out.trans (by simp [Rn.zr]),HK.out.alloc _,((Kp.refl [] _).alloc _).some p0 (by simp),((Kp.refl [] _).alloc _).some p6 (by simp)⟩
    case measure=>simp [intOf]
   |true=>
    cases a5 with
    |true=>
     go_wp2_with fail
     rw [ix_5]
     simp only [Result.andThen]
     rw [Oper.upon_value]
     go_wp2_with fail
     refine (F5.out _ (HT.out.kp (HK.out.alloc _))).mono ?_
     rintro e w2 ⟨rfl,rfl⟩
     go_wp2
     go_roundw
     case rel=>exact ⟨6,by omega,by go_num,HV.out.trans (by simp [Rn.zr]),HK.out.alloc _,((Kp.refl [] _).alloc _).some p0 (by simp),((Kp.refl [] _).alloc _).some p6 (by simp)⟩
     case measure=>simp [intOf]
    |false=>
     go_wp2_with fail
     rw [ix_5]
     simp only [Result.andThen]
     rw [Oper.upon_value]
     go_wp2_with fail
     refine (F5.out _ (HT.out.kp (HK.out.alloc _))).mono ?_
     rintro e w2 ⟨rfl,rfl⟩
     go_wp2
     go_ret
     refine ⟨?_,HK.out.alloc _⟩
     rw [HV.out]
     simp [Rn.zr]
  ·rw [HZ.out (6:Int).toNat (by decide)] at HV
   have hfc:wr.cell? ⟨1,d.toNat,none⟩=some (.string (bs f)):=HK.out.some HFC.out (by simp)
   by_cases h10:d=10
   ·have f10:(d == 10)=true:=by simpa using h10
    clear h10
    go_wp2_with fail
    go_quiet (fail)
    go_wp2
    go_ret
    refine ⟨?_,HK.out.drewN _⟩
    rw [HV.out,f10]
    rfl
   ·have f10:(d == 10)=false:=by simpa using h10
    have HCM:=hide (HCN.out h10)
    clear h10
    go_wp2_with fail
    go_quiet (first|(go_at_call 169;refine Calls.quiet_of_same (HCE.out _)))
    go_wp2
    go_ret
    refine ⟨?_,HK.out.drewN _⟩
    rw [HV.out,f10,HCM.out]
    show Ending.returned (Value.bool ((nE:Int) == ((Rn.fewE d:Nat):Int)))=_
    rw [beq_cast]
    rfl
theorem isFormed_any (w:World) (hT:Tb w) (d at' k:Int) (A B T:List UInt8) (aE aB aL:Option Addr) (nE nB nL cE cB cL:Nat):
  Calls Tryz.prog 148 #[.agg #[.int .i64 d,.int .i64 at',.string (bs A),.string (bs B),.string (bs T),.int .i64 k,.slice aE nE cE,.slice aB nB cB,.slice aL nL cL]] w
   fun e w'=>e= .returned (.bool (Rn.fm d A B T k nE nB nL))∧Kp [] w w':=by
 by_cases hd:1≤d∧d≤14
 ·have e:Rn.fm d A B T k nE nB nL=Rn.zr [(Rn.hasA d || !(!A.isEmpty)),(Rn.hasB d || !(!B.isEmpty)),(Rn.hasT d || !(!T.isEmpty)),(Rn.hasT d || !(k !=0)),(Rn.hasS d || !decide (0<nB)),(Rn.hasO d || !decide (0<nL))] (d == 10 || nE == Rn.fewE d) 0:=by
   rw [Rn.fm,show decide (1≤d)=true from by simpa using hd.1,show decide (d≤14)=true from by simpa using hd.2]
   have be: ∀ l:List UInt8,(l == [])=l.isEmpty:=fun l=>by cases l<;> rfl
   have bd: ∀ n:Nat,(n == 0)= !decide (0<n):=fun n=>by cases n<;> simp
   have bk:(k == 0)= !(k !=0):=by simp [bne]
   rw [be,be,be,bd,bd,bk]
   simp only [Rn.zr,List.drop_zero,List.foldr_cons,List.foldr_nil,Bool.not_not,Bool.true_and,Bool.and_assoc]
  rw [e]
  exact isFormed_z w hT d at' k A B T aE aB aL nE nB nL cE cB cL hd.1 hd.2 _ _ _ _ _ _ _ _ _ _ _ _ rfl rfl rfl rfl rfl rfl rfl rfl rfl rfl rfl rfl
 ·have hdf:(decide (1≤d) && decide (d≤14))=false:=by
   rw [←Bool.decide_and];exact decide_eq_false hd
  have e:Rn.fm d A B T k nE nB nL=false:=by
   rw [Rn.fm,hdf]
   rfl
  rw [e]
  have HK:Hid (∀ w,Calls Tryz.prog 168 #[.int .i64 d] w fun e w'=>e= .returned (.bool false)∧w'=w):=fun w=>by
   have:=isKind_any d w
   rw [hdf] at this
   exact this
  go_enter Tryz.func148,Tryz.ntmps148
  go_wp2_with fail
  refine (HK.out _).mono ?_
  rintro e w1 ⟨rfl,rfl⟩
  go_wp2
  go_ret
  exact ⟨rfl,(Kp.refl _ _).alloc _⟩
end Go.Proofs.YtcdcoiobpbdmpaaGreatDoor
