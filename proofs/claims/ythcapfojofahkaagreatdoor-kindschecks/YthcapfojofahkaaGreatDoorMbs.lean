import Derived.Test.YthcapfojofahkaaGreatDoorMae
import Derived.Lib.SliceRun
namespace Go.Proofs.YthcapfojofahkaaGreatDoor
open Go.RowKit
theorem quiet_j {P:Program} {f:FuncId} {args:Array Value} {w:World} {j n:Nat} {v:Value}
  (h:Calls P f args (w.drewN (j+n)) fun e w'=>e= .returned v∧ ∃ m,w'=(w.drewN (j+n)).drewN m):Calls P f args (w.drewN (j+n)) fun e w''=>e= .returned v∧ ∃ m,w''=w.drewN (j+m):=
 h.mono fun _ _ ⟨he,m,hm⟩=>⟨he,n+m,by rw [hm,World.drewN_drewN,Nat.add_assoc]⟩
def QER (n:Nat):Prop:= ∀ (w:World) (P P2:Nat→Prop) (l m:List Sx.Tr) (u v:Value),EL w P n l u→EL w P2 n m v→Sx.wE n l≤1000000000→
 Calls Tryz.prog 43 #[u,v] w fun e w'=>e= .returned (.bool (Sx.sameE n l m))∧ ∃ j,w'=w.drewN j
set_option maxRecDepth 100000 in
set_option maxHeartbeats 1000000 in
theorem sameExprs_step (n:Nat) (ih:QER n):QER (n+1):=by
 intro w P P2 l m u v h h2 hw
 obtain ⟨a,cap,rfl⟩:=h.slice
 obtain ⟨a2,cap2,rfl⟩:=h2.slice
 have HS:=hide h
 have HS2:=hide h2
 have IH:=hide ih
 have hl:l.length≤1000000000:=by have:l.length+_=Sx.wE (n+1) l:=rfl;omega
 have HWT:Hid (∀ (i:Nat) d,l[i]? =some d→Sx.wE n (Sx.eL d)≤1000000000):=fun i d hd=>by
  have h1:Sx.sum (fun d=>Sx.wE n (Sx.eL d)) (l.take (i+1))=Sx.sum (fun d=>Sx.wE n (Sx.eL d)) (l.take i)+Sx.wE n (Sx.eL d):=Sx.sum_take (fun d=>Sx.wE n (Sx.eL d)) l i d hd
  have h2:=Sx.sum_take_le (fun d=>Sx.wE n (Sx.eL d)) l (i+1)
  have:l.length+Sx.sum (fun d=>Sx.wE n (Sx.eL d)) l=Sx.wE (n+1) l:=rfl
  omega
 clear h h2 ih hw
 by_cases hlen:l.length=m.length
 ·have r1:((l.length:Int) !=(m.length:Int))=false:=by simp;omega
  have HLEN:=hide hlen
  clear hlen
  go_enter Tryz.func43,Tryz.ntmps43
  go_wp2
  go_loopw [5] (fun iv wr=> ∃ k:Nat,k≤l.length∧iv= .int .i64 k∧Hid (Sx.sameE (n+1) l m=Sx.all2 (fun a b=>Sx.eH a == Sx.eH b && Sx.sameE n (Sx.eL a) (Sx.eL b)) (l.drop k) (m.drop k))∧ ∃ j,wr=w.drewN j) (fun iv _=>l.length - (intOf iv).toNat)
  case atStart=>exact ⟨0,Nat.zero_le _,rfl,rfl,0,rfl⟩
  case round=>
   obtain ⟨k,hk,rfl,HE,j,rfl⟩:=hrel
   by_cases hlt:k<l.length
   ·obtain ⟨b,off,op,nm,x,L,aL,cL,rfl,-,hd,m0,m1,m2,m3,hL⟩:=HS.out.nth k hlt
    have hlt2:k<m.length:=by have:=HLEN.out;omega
    obtain ⟨b2,off2,op2,nm2,x2,L2,aL2,cL2,rfl,-,hd2,n0,n1,n2,n3,hL2⟩:=HS2.out.nth k hlt2
    have hwt:Sx.wE n L≤1000000000:=HWT.out k _ hd
    have hst:=Sx.all2_drop (p:=fun a b=>Sx.eH a == Sx.eH b && Sx.sameE n (Sx.eL a) (Sx.eL b)) hd hd2
    have HST1:Hid (Sx.sameE (n+1) l m=(((op,nm,x) == (op2,nm2,x2) && Sx.sameE n L L2) && Sx.all2 (fun a b=>Sx.eH a == Sx.eH b && Sx.sameE n (Sx.eL a) (Sx.eL b)) (l.drop (k+1)) (m.drop (k+1)))):=HE.out.trans hst
    have HL:=hide hL
    have HL2:=hide hL2
    have hk0:(0:Int)≤(k:Int):=by omega
    have hk1:(k:Int)<(l.length:Int):=by omega
    have hk2:(k:Int)<(m.length:Int):=by omega
    clear hst hL hL2 hd hd2
    by_cases q1:op=op2
    ·by_cases q2:nm=nm2
     ·by_cases q3:x=x2
      ·subst q1 q2 q3
       go_wp2
       go_quiet ((go_at_call 43;refine quiet_j (IH.out _ P P2 L L2 _ _ ?_ ?_ hwt);exact HL.out.keep ((Kp.refl [] _).drewN _) (by simp);exact HL2.out.keep ((Kp.refl [] _).drewN _) (by simp)))
       have HST2:Hid (Sx.sameE (n+1) l m=(Sx.sameE n L L2 && Sx.all2 (fun a b=>Sx.eH a == Sx.eH b && Sx.sameE n (Sx.eL a) (Sx.eL b)) (l.drop (k+1)) (m.drop (k+1)))):=by
        show _=_
        rw [HST1.out]
        simp
       clear HST1
       generalize Sx.sameE n L L2=B at *
       cases B with
       |true=>
        go_wp2
        go_roundw
        case rel=>exact ⟨k+1,by omega,by go_num,by show _=_;rw [HST2.out,Bool.true_and],_,rfl⟩
        case measure=>simp [intOf];omega
       |false=>
        go_wp2
        go_ret
        exact ⟨by rw [HST2.out];rfl,_,World.drewN_drewN _ _ _⟩
      ·have t3:(x !=x2)=true:=by simpa using q3
       subst q1 q2
       go_wp2
       go_quiet (fail)
       go_wp2
       go_ret
       refine ⟨?_,_,World.drewN_drewN _ _ _⟩
       rw [HST1.out]
       simp [q3]
     ·have r2:=bs_ne q2
      subst q1
      go_wp2
      go_quiet (fail)
      go_wp2
      go_ret
      refine ⟨?_,_,World.drewN_drewN _ _ _⟩
      rw [HST1.out]
      simp [q2]
    ·have t1:(op !=op2)=true:=by simpa using q1
     go_wp2
     go_quiet (fail)
     go_wp2
     go_ret
     refine ⟨?_,_,World.drewN_drewN _ _ _⟩
     rw [HST1.out]
     simp [q1]
   ·obtain rfl:k=l.length:=by omega
    go_wp2
    go_ret
    refine ⟨?_,_,rfl⟩
    rw [HE.out,List.drop_length,HLEN.out,List.drop_length]
    rfl
 ·have r1:((l.length:Int) !=(m.length:Int))=true:=by simp;omega
  go_enter Tryz.func43,Tryz.ntmps43
  go_wp2
  go_ret
  exact ⟨by rw [show Sx.sameE (n+1) l m=false from Sx.all2_len hlen];rfl,0,rfl⟩
theorem sameExprs_any (n:Nat):QER n:=by
 induction n with
 |zero=>intro w P P2 l m u v h;cases h
 |succ n ih=>exact sameExprs_step n ih
end Go.Proofs.YthcapfojofahkaaGreatDoor
namespace Go.Proofs.YthcapfojofahkaaGreatDoor
open Go.RowKit
theorem wS_nth (n:Nat) (l:List Sx.Tr) (hw:Sx.wS (n+1) l≤1000000000): ∀ (i:Nat) d,l[i]? =some d→Sx.wE n (Sx.sE d)+Sx.wS n (Sx.sB d)+Sx.wS n (Sx.sO d)≤1000000000:=fun i d hd=>by
 have h1:Sx.sum (fun d=>Sx.wE n (Sx.sE d)+Sx.wS n (Sx.sB d)+Sx.wS n (Sx.sO d)) (l.take (i+1))=Sx.sum (fun d=>Sx.wE n (Sx.sE d)+Sx.wS n (Sx.sB d)+Sx.wS n (Sx.sO d)) (l.take i)+(Sx.wE n (Sx.sE d)+Sx.wS n (Sx.sB d)+Sx.wS n (Sx.sO d)):=Sx.sum_take _ l i d hd
 have h2:=Sx.sum_take_le (fun d=>Sx.wE n (Sx.sE d)+Sx.wS n (Sx.sB d)+Sx.wS n (Sx.sO d)) l (i+1)
 have:l.length+Sx.sum (fun d=>Sx.wE n (Sx.sE d)+Sx.wS n (Sx.sB d)+Sx.wS n (Sx.sO d)) l=Sx.wS (n+1) l:=rfl
 omega
end Go.Proofs.YthcapfojofahkaaGreatDoor
namespace Go.Proofs.YthcapfojofahkaaGreatDoor
open Go.RowKit
theorem RP_len (d:Sx.Tr) (c:List Value) (h:RP d c):c.length=2:=by
 obtain ⟨nm,T,_,rfl⟩:=h
 rfl
theorem PL.nth {w:World} {P:Nat→Prop} {l:List Sx.Tr} {a:Option Addr} {cap:Nat} (h:Sl RP w P l (.slice a l.length cap)) (i:Nat) (hi:i<l.length):
  ∃ b off nm T,a=some ⟨b,off,none⟩∧P b∧l[i]? =some (Sx.tP nm T)∧w.cell? ⟨b,off+i * 2,none⟩=some (.string (bs nm))∧w.cell? ⟨b,off+i * 2+1,none⟩=some (.string (bs T)):=by
 obtain ⟨a',cap',hv,h⟩:=h
 cases hv
 rcases h with h|⟨b,off,cs,ha,hb,hr,hc⟩
 ·subst h;simp at hi
 ·obtain ⟨c,hR,hcu⟩:=hr.at RP_len i _ (List.getElem?_eq_getElem hi)
  obtain ⟨nm,T,hd,rfl⟩:=hR
  have hx:=fun j u hu=>hc _ u (hcu j u hu)
  simp only [←Nat.add_assoc] at hx
  exact ⟨b,off,nm,T,ha,hb,by rw [List.getElem?_eq_getElem hi,hd],hx 0 _ rfl,hx 1 _ rfl⟩
theorem uPar:Tryz.prog.underlying 44=some (.struct (Tryz.prog.fieldsOf 44)):=by kernel_rfl
theorem heldPar:Tryz.prog.stoodInHeld 44=false:=by kernel_rfl
theorem bs_same (a b:List UInt8):((bs a).toList == (bs b).toList)=(a == b):=by
 by_cases h:a=b
 ·subst h;simp
 ·rw [bs_ne h];symm;simpa using h
theorem neqP (a b c d:List UInt8) (w:World):Sem.run Tryz.prog (binOp .neq 44 (.agg #[.string (bs a),.string (bs b)]) (.agg #[.string (bs c),.string (bs d)])) w= .ok (.bool (!((a,b) == (c,d)))) w:=by
 have u9:=Tryz.underlying9
 have a9:=Tryz.isAgg9
 have z9:=Tryz.sizeOf9
 rw [run_neq_struct,show (10000:Nat)=9999+1 from rfl,run_equalIn_agg w 9999 44 _ _ uPar heldPar]
 simp only [Program.fieldsOf,Tryz.underlying44]
 have h1:=bs_same a c
 have h2:=bs_same b d
 by_cases q1:a=c
 ·by_cases q2:b=d
  ·subst q1 q2
   go_simp
  ·have r2:=bs_ne q2
   subst q1
   go_simp
 ·have r1:=bs_ne q1
  go_simp
theorem wG_nth (n:Nat) (l:List Sx.Tr) (hw:Sx.wG n l≤1000000000): ∀ (i:Nat) d,l[i]? =some d→Sx.wS n (Sx.gB d)≤1000000000:=fun i d hd=>by
 have h1:Sx.sum (fun d=>Sx.wS n (Sx.gB d)) (l.take (i+1))=Sx.sum (fun d=>Sx.wS n (Sx.gB d)) (l.take i)+Sx.wS n (Sx.gB d):=Sx.sum_take _ l i d hd
 have h2:=Sx.sum_take_le (fun d=>Sx.wS n (Sx.gB d)) l (i+1)
 have:Sx.sum (fun d=>Sx.wS n (Sx.gB d)) l=Sx.wG n l:=rfl
 omega
structure Sm (n:Nat) (l:List Sx.Tr):Prop where
 len:l.length≤1000000
 ps: ∀ (i:Nat) d,l[i]? =some d→(Sx.gP d).length≤1000000
 w:Sx.wG n l≤1000000
end Go.Proofs.YthcapfojofahkaaGreatDoor
namespace Go.Proofs.YthcapfojofahkaaGreatDoor
open Go.RowKit
def LbE:Nat→List Sx.Tr→Prop
 |0,_=>True
 |n+1,l=>l.length≤9223372036854775807∧ ∀ (i:Nat) d,l[i]? =some d→LbE n (Sx.eL d)
def LbS:Nat→List Sx.Tr→Prop
 |0,_=>True
 |n+1,l=>l.length≤9223372036854775807∧ ∀ (i:Nat) d,l[i]? =some d→LbE n (Sx.sE d)∧LbS n (Sx.sB d)∧LbS n (Sx.sO d)
end Go.Proofs.YthcapfojofahkaaGreatDoor
namespace Go.Proofs.YthcapfojofahkaaGreatDoor
open Go.RowKit
structure LbG (n:Nat) (l:List Sx.Tr):Prop where
 len:l.length≤9223372036854775807
 each: ∀ (i:Nat) d,l[i]? =some d→LbS n (Sx.gB d)∧(Sx.gP d).length≤9223372036854775807
end Go.Proofs.YthcapfojofahkaaGreatDoor
namespace Go.Proofs.YthcapfojofahkaaGreatDoor
open Go.RowKit
theorem Sx.tS_inj {D D2 at' at2 N N2:Int} {A A2 B B2 T T2:List UInt8} {E E2 b b2 o o2:List Sx.Tr} (h:Sx.tS D at' A B T N E b o=Sx.tS D2 at2 A2 B2 T2 N2 E2 b2 o2):D2=D∧at2=at'∧A2=A∧B2=B∧T2=T∧N2=N∧E2=E∧b2=b∧o2=o:=by
 unfold Sx.tS at h
 cases h
 exact ⟨rfl,rfl,rfl,rfl,rfl,rfl,rfl,rfl,rfl⟩
theorem Sx.tG_inj {nm nm2:List UInt8} {at' at2:Int} {ps ps2 b b2:List Sx.Tr} (h:Sx.tG nm at' ps b=Sx.tG nm2 at2 ps2 b2):nm2=nm∧at2=at'∧ps2=ps∧b2=b:=by
 unfold Sx.tG at h
 cases h
 exact ⟨rfl,rfl,rfl,rfl⟩
theorem Sx.tP_inj {nm nm2 T T2:List UInt8} (h:Sx.tP nm T=Sx.tP nm2 T2):nm2=nm∧T2=T:=by
 unfold Sx.tP at h
 cases h
 exact ⟨rfl,rfl⟩
def QST (n:Nat):Prop:= ∀ (w:World) (P P2:Nat→Prop) (l:List Sx.Tr) (u v:Value),SL w P n l u→SL w P2 n l v→Sx.wS n l≤1000000000→
 Calls Tryz.prog 28 #[u,v,.bool true] w fun e w'=>e= .returned (.bool true)∧Kp [] w w'
set_option maxRecDepth 100000 in
set_option maxHeartbeats 2000000 in
theorem sameStmtsT_step (n:Nat) (ih:QST n):QST (n+1):=by
 intro w P P2 l u v h h2 hw
 obtain ⟨a,cap,rfl⟩:=h.slice
 obtain ⟨a2,cap2,rfl⟩:=h2.slice
 have HS:=hide h
 have HS2:=hide h2
 have IH:=hide ih
 have HEQ:=hide (sameExprs_any n)
 have hl:l.length≤1000000000:=by have:l.length+_=Sx.wS (n+1) l:=rfl;omega
 have HWT:=hide (wS_nth n l hw)
 clear h h2 ih hw
 go_enter Tryz.func28,Tryz.ntmps28
 go_wp2
 go_loopw [7] (fun iv wr=> ∃ k:Nat,k≤l.length∧iv= .int .i64 k∧Hid (Kp [] w wr)) (fun iv _=>l.length - (intOf iv).toNat)
 case atStart=>exact ⟨0,Nat.zero_le _,rfl,Kp.refl _ _⟩
 case round=>
  obtain ⟨k,hk,rfl,HK⟩:=hrel
  by_cases hlt:k<l.length
  ·obtain ⟨b,off,D,at',A,B,T,N,E,body,els,uE,uB,uL,rfl,-,hd,m0,m1,m2,m3,m4,m5,m6,m7,m8,hE,hB,hL⟩:=(HS.out.keep HK.out (by simp)).nth k hlt
   obtain ⟨b2,off2,D2,at2,A2,B2,T2,N2,E2,body2,els2,uE2,uB2,uL2,rfl,-,hd2,n0,n1,n2,n3,n4,n5,n6,n7,n8,hE2,hB2,hL2⟩:=(HS2.out.keep HK.out (by simp)).nth k hlt
   obtain ⟨rfl,rfl,rfl,rfl,rfl,rfl,rfl,rfl,rfl⟩:=Sx.tS_inj (Option.some.inj (hd.symm.trans hd2))
   obtain ⟨aE,cE,rfl⟩:=hE.slice
   obtain ⟨aB,cB,rfl⟩:=hB.slice
   obtain ⟨aL,cL,rfl⟩:=hL.slice
   obtain ⟨aE2,cE2,rfl⟩:=hE2.slice
   obtain ⟨aB2,cB2,rfl⟩:=hB2.slice
   obtain ⟨aL2,cL2,rfl⟩:=hL2.slice
   have hwt:=HWT.out k _ hd
   change Sx.wE n E2+Sx.wS n body2+Sx.wS n els2≤1000000000 at hwt
   have HCE:=hide hE
   have HCB:=hide hB
   have HCL:=hide hL
   have HCE2:=hide hE2
   have HCB2:=hide hB2
   have HCL2:=hide hL2
   have hblt:=World.block_lt_of_cell? _ _ m0
   have hblt2:=World.block_lt_of_cell? _ _ n0
   have hk0:(0:Int)≤(k:Int):=by omega
   have hk1:(k:Int)<(l.length:Int):=by omega
   clear hE hB hL hE2 hB2 hL2 hd hd2
   have hn1:=World.new_ne wr _ m0
   have hn2:=World.new_ne wr _ n0
   go_wp2_with fail
   go_region_held_law (fun w'=>w'.cell? ⟨b,off+k * 9,none⟩=some (.int .i64 D2)∧w'.cell? ⟨b,off+k * 9+1,none⟩=some (.int .i64 at2)∧w'.cell? ⟨b,off+k * 9+2,none⟩=some (.string (bs A2))∧w'.cell? ⟨b,off+k * 9+3,none⟩=some (.string (bs B2))∧w'.cell? ⟨b,off+k * 9+4,none⟩=some (.string (bs T2))∧w'.cell? ⟨b,off+k * 9+5,none⟩=some (.int .i64 N2)∧w'.cell? ⟨b,off+k * 9+6,none⟩=some (.slice aE E2.length cE)∧w'.cell? ⟨b,off+k * 9+7,none⟩=some (.slice aB body2.length cB)∧w'.cell? ⟨b,off+k * 9+8,none⟩=some (.slice aL els2.length cL)∧w'.cell? ⟨b2,off2+k * 9,none⟩=some (.int .i64 D2)∧w'.cell? ⟨b2,off2+k * 9+1,none⟩=some (.int .i64 at2)∧w'.cell? ⟨b2,off2+k * 9+2,none⟩=some (.string (bs A2))∧w'.cell? ⟨b2,off2+k * 9+3,none⟩=some (.string (bs B2))∧w'.cell? ⟨b2,off2+k * 9+4,none⟩=some (.string (bs T2))∧w'.cell? ⟨b2,off2+k * 9+5,none⟩=some (.int .i64 N2)∧w'.cell? ⟨b2,off2+k * 9+6,none⟩=some (.slice aE2 E2.length cE2)∧w'.cell? ⟨b2,off2+k * 9+7,none⟩=some (.slice aB2 body2.length cB2)∧w'.cell? ⟨b2,off2+k * 9+8,none⟩=some (.slice aL2 els2.length cL2)) (go_keep) (fail)
   ·go_wp2_with fail
    refine (HEQ.out _ P P2 E2 E2 _ _ (HCE.out.keep (((Kp.refl [] _).alloc _).alloc _).drew (by simp)) (HCE2.out.keep (((Kp.refl [] _).alloc _).alloc _).drew (by simp)) (by omega)).mono ?_
    rintro e w1 ⟨rfl,jj,rfl⟩
    rw [Sx.sameE_refl]
    go_wp2_with fail
    refine (IH.out _ P P2 body2 _ _ (HCB.out.keep ((((Kp.refl [] _).alloc _).alloc _).drewN _) (by simp)) (HCB2.out.keep ((((Kp.refl [] _).alloc _).alloc _).drewN _) (by simp)) (by omega)).mono ?_
    rintro e w2 ⟨rfl,hk⟩
    have K2:Hid (Kp [] wr w2):=((((Kp.refl [] _).alloc _).alloc _).drewN _).trans hk
    have e8:w2.cell? ⟨wr.heap.size,8,none⟩=some (.slice aL els2.length cL):=hk.some (by simp [go_sem]) (by simp)
    have f8:w2.cell? ⟨wr.heap.size+1,8,none⟩=some (.slice aL2 els2.length cL2):=hk.some (by simp [go_sem]) (by simp)
    clear hk
    go_wp2_with fail
    refine (IH.out _ P P2 els2 _ _ (HCL.out.keep K2.out (by simp)) (HCL2.out.keep K2.out (by simp)) (by omega)).mono ?_
    rintro e w3 ⟨rfl,hk⟩
    have K3:=hide (HK.out.trans (K2.out.trans hk))
    clear hk
    go_wp2
    go_roundw
    case rel=>exact ⟨k+1,by omega,by go_num,K3.out⟩
    case measure=>simp [intOf];omega
   ·go_wp2_with fail
    refine (HEQ.out _ P P2 E2 E2 _ _ (HCE.out.keep (((Kp.refl [] _).alloc _).alloc _).drew (by simp)) (HCE2.out.keep (((Kp.refl [] _).alloc _).alloc _).drew (by simp)) (by omega)).mono ?_
    rintro e w1 ⟨rfl,jj,rfl⟩
    rw [Sx.sameE_refl]
    go_wp2_with fail
    refine (IH.out _ P P2 body2 _ _ (HCB.out.keep ((((Kp.refl [] _).alloc _).alloc _).drewN _) (by simp)) (HCB2.out.keep ((((Kp.refl [] _).alloc _).alloc _).drewN _) (by simp)) (by omega)).mono ?_
    rintro e w2 ⟨rfl,hk⟩
    have K2:Hid (Kp [] wr w2):=((((Kp.refl [] _).alloc _).alloc _).drewN _).trans hk
    have e8:w2.cell? ⟨wr.heap.size+1,8,none⟩=some (.slice aL els2.length cL):=hk.some (by simp [go_sem]) (by simp)
    have f8:w2.cell? ⟨wr.heap.size,8,none⟩=some (.slice aL2 els2.length cL2):=hk.some (by simp [go_sem]) (by simp)
    clear hk
    go_wp2_with fail
    refine (IH.out _ P P2 els2 _ _ (HCL.out.keep K2.out (by simp)) (HCL2.out.keep K2.out (by simp)) (by omega)).mono ?_
    rintro e w3 ⟨rfl,hk⟩
    have K3:=hide (HK.out.trans (K2.out.trans hk))
    clear hk
    go_wp2
    go_roundw
    case rel=>exact ⟨k+1,by omega,by go_num,K3.out⟩
    case measure=>simp [intOf];omega
  ·obtain rfl:k=l.length:=by omega
   have d1:decide ((l.length:Int)<(l.length:Int))=false:=by simp
   go_wp2
   go_ret
   exact ⟨rfl,HK.out⟩
theorem sameStmtsT_any (n:Nat):QST n:=by
 induction n with
 |zero=>intro w P P2 l u v h;cases h
 |succ n ih=>exact sameStmtsT_step n ih
set_option maxRecDepth 100000 in
set_option maxHeartbeats 2000000 in
theorem rsameT_any (n:Nat) (w:World) (P P2:Nat→Prop) (l:List Sx.Tr) (a a2:Option Addr) (cap cap2:Nat) (h:Sl (RG w P n) w P l (.slice a l.length cap)) (h2:Sl (RG w P2 n) w P2 l (.slice a2 l.length cap2)) (hs:Sm n l):
  Calls Tryz.prog 12 #[.agg #[.slice a l.length cap],.agg #[.slice a2 l.length cap2],.bool true] w fun e w'=>e= .returned (.bool true)∧Kp [] w w':=by
 have HS:=hide h
 have HS2:=hide h2
 have IH:=hide (sameStmtsT_any n)
 have hl:l.length≤1000000000:=by have:=hs.len;omega
 have HWT:=hide (wG_nth n l (by have:=hs.w;omega))
 have HPS:=hide hs.ps
 clear h h2 hs
 go_enter Tryz.func12,Tryz.ntmps12
 go_wp2
 go_loopw [7] (fun iv wr=> ∃ k:Nat,k≤l.length∧iv= .int .i64 k∧Hid (Kp [] w wr)∧wr.cell? ⟨w.heap.size,0,none⟩=some (.slice a l.length cap)∧wr.cell? ⟨w.heap.size+1,0,none⟩=some (.slice a2 l.length cap2)) (fun iv _=>l.length - (intOf iv).toNat)
 case atStart=>exact ⟨0,Nat.zero_le _,rfl,((Kp.refl _ _).alloc _).alloc _,by simp [go_sem],by simp [go_sem]⟩
 case round=>
  obtain ⟨wo,hwo⟩: ∃ wo,wo=wr:=⟨_,rfl⟩
  subst hwo
  obtain ⟨k,hk,rfl,HK,p0,p1⟩:=hrel
  by_cases hlt:k<l.length
  ·obtain ⟨b,off,nm,at',ps,body,uP,uB,rfl,-,hd,m0,m1,m2,m3,hP,hB⟩:=GL.nth (HS.out.keep HK.out (by simp) (fun d c h=>h.keep HK.out (by simp))) k hlt
   obtain ⟨b2,off2,nm2,at2,ps2,body2,uP2,uB2,rfl,-,hd2,n0,n1,n2,n3,hP2,hB2⟩:=GL.nth (HS2.out.keep HK.out (by simp) (fun d c h=>h.keep HK.out (by simp))) k hlt
   obtain ⟨rfl,rfl,rfl,rfl⟩:=Sx.tG_inj (Option.some.inj (hd.symm.trans hd2))
   obtain ⟨aP,cP,rfl,-⟩:=id hP
   obtain ⟨aB,cB,rfl⟩:=hB.slice
   obtain ⟨aP2,cP2,rfl,-⟩:=id hP2
   obtain ⟨aB2,cB2,rfl⟩:=hB2.slice
   have hwt:Sx.wS n body2≤1000000000:=HWT.out k _ hd
   have hps:ps2.length≤1000000:=HPS.out k _ hd
   have HCP:=hide hP
   have HCB:=hide hB
   have HCP2:=hide hP2
   have HCB2:=hide hB2
   have hn1:=World.new_ne wo _ m0
   have hn2:=World.new_ne wo _ n0
   have hn3:=World.new_ne wo _ p0
   have hn4:=World.new_ne wo _ p1
   have hblt:=World.block_lt_of_cell? _ _ m0
   have hblt2:=World.block_lt_of_cell? _ _ n0
   have hblt3:=World.block_lt_of_cell? _ _ p0
   have hblt4:=World.block_lt_of_cell? _ _ p1
   have hk0:(0:Int)≤(k:Int):=by omega
   have hk1:(k:Int)<(l.length:Int):=by omega
   have HEq:=hide (fun w' (h:Kp [] wo w')=>HK.out.trans h)
   have HN:=hide (fun w' (h:Kp [] wo w')=>(⟨h.some p0 (by simp),h.some p1 (by simp)⟩:w'.cell? ⟨w.heap.size,0,none⟩=some (.slice (some ⟨b,off,none⟩) l.length cap)∧w'.cell? ⟨w.heap.size+1,0,none⟩=some (.slice (some ⟨b2,off2,none⟩) l.length cap2)))
   clear hP hB hP2 hB2 hd hd2
   go_wp2_with fail
   go_region_held_law (fun w'=>w'.cell? ⟨w.heap.size,0,none⟩=some (.slice (some ⟨b,off,none⟩) l.length cap)∧w'.cell? ⟨w.heap.size+1,0,none⟩=some (.slice (some ⟨b2,off2,none⟩) l.length cap2)∧w'.cell? ⟨b,off+k * 4,none⟩=some (.string (bs nm2))∧w'.cell? ⟨b,off+k * 4+1,none⟩=some (.int .i64 at2)∧w'.cell? ⟨b,off+k * 4+2,none⟩=some (.slice aP ps2.length cP)∧w'.cell? ⟨b,off+k * 4+3,none⟩=some (.slice aB body2.length cB)∧w'.cell? ⟨b2,off2+k * 4,none⟩=some (.string (bs nm2))∧w'.cell? ⟨b2,off2+k * 4+1,none⟩=some (.int .i64 at2)∧w'.cell? ⟨b2,off2+k * 4+2,none⟩=some (.slice aP2 ps2.length cP2)∧w'.cell? ⟨b2,off2+k * 4+3,none⟩=some (.slice aB2 body2.length cB2)) (go_keep) (fail)
   ·go_wp2_with fail
    refine (IH.out _ P P2 body2 _ _ (HCB.out.keep (((Kp.refl [] _).alloc _).alloc _).drew (by simp)) (HCB2.out.keep (((Kp.refl [] _).alloc _).alloc _).drew (by simp)) hwt).mono ?_
    rintro e w1 ⟨rfl,hk1⟩
    have K1:Hid (Kp [] wo w1):=(((Kp.refl [] _).alloc _).alloc _).drew.trans hk1
    have e2:w1.cell? ⟨wo.heap.size,2,none⟩=some (.slice aP ps2.length cP):=hk1.some (by simp [go_sem]) (by simp)
    have f2:w1.cell? ⟨wo.heap.size+1,2,none⟩=some (.slice aP2 ps2.length cP2):=hk1.some (by simp [go_sem]) (by simp)
    clear hk1
    have HQ1:=hide (HCP.out.keep K1.out (by simp) (fun _ _ h=>h))
    have HQ2:=hide (HCP2.out.keep K1.out (by simp) (fun _ _ h=>h))
    go_wp2
    go_loopw [10] (fun iv wr=> ∃ q:Nat,q≤ps2.length∧iv= .int .i64 q∧ ∃ j,wr=w1.drewN j) (fun iv _=>ps2.length - (intOf iv).toNat)
    case atStart=>exact ⟨0,Nat.zero_le _,rfl,0,rfl⟩
    case round=>
     obtain ⟨q,hq,rfl,j,rfl⟩:=hrel
     by_cases hlq:q<ps2.length
     ·obtain ⟨g,og,nm,T,rfl,-,hd,s0,s1⟩:=PL.nth HQ1.out q hlq
      obtain ⟨g2,og2,nm2,T2,rfl,-,hd2,t0,t1⟩:=PL.nth HQ2.out q hlq
      obtain ⟨rfl,rfl⟩:=Sx.tP_inj (Option.some.inj (hd.symm.trans hd2))
      have hne:=neqP nm2 T2 nm2 T2
      have hk0:(0:Int)≤(q:Int):=by omega
      have hk1:(q:Int)<(ps2.length:Int):=by omega
      rw [show ((nm2,T2) == (nm2,T2))=true from by simp] at hne
      clear hd hd2
      go_wp2
      go_quiet (fail)
      go_wp2
      go_roundw
      case rel=>exact ⟨q+1,by omega,by go_num,_,rfl⟩
      case measure=>simp [intOf];omega
     ·obtain rfl:q=ps2.length:=by omega
      obtain ⟨x0,x1⟩:=HN.out _ (K1.out.drewN j)
      go_wp2
      go_roundw
      case rel=>exact ⟨k+1,by omega,by go_num,HEq.out _ (K1.out.drewN _),x0,x1⟩
      case measure=>simp [intOf];omega
   ·go_wp2_with fail
    refine (IH.out _ P P2 body2 _ _ (HCB.out.keep (((Kp.refl [] _).alloc _).alloc _).drew (by simp)) (HCB2.out.keep (((Kp.refl [] _).alloc _).alloc _).drew (by simp)) hwt).mono ?_
    rintro e w1 ⟨rfl,hk1⟩
    have K1:Hid (Kp [] wo w1):=(((Kp.refl [] _).alloc _).alloc _).drew.trans hk1
    have e2:w1.cell? ⟨wo.heap.size+1,2,none⟩=some (.slice aP ps2.length cP):=hk1.some (by simp [go_sem]) (by simp)
    have f2:w1.cell? ⟨wo.heap.size,2,none⟩=some (.slice aP2 ps2.length cP2):=hk1.some (by simp [go_sem]) (by simp)
    clear hk1
    have HQ1:=hide (HCP.out.keep K1.out (by simp) (fun _ _ h=>h))
    have HQ2:=hide (HCP2.out.keep K1.out (by simp) (fun _ _ h=>h))
    go_wp2
    go_loopw [10] (fun iv wr=> ∃ q:Nat,q≤ps2.length∧iv= .int .i64 q∧ ∃ j,wr=w1.drewN j) (fun iv _=>ps2.length - (intOf iv).toNat)
    case atStart=>exact ⟨0,Nat.zero_le _,rfl,0,rfl⟩
    case round=>
     obtain ⟨q,hq,rfl,j,rfl⟩:=hrel
     by_cases hlq:q<ps2.length
     ·obtain ⟨g,og,nm,T,rfl,-,hd,s0,s1⟩:=PL.nth HQ1.out q hlq
      obtain ⟨g2,og2,nm2,T2,rfl,-,hd2,t0,t1⟩:=PL.nth HQ2.out q hlq
      obtain ⟨rfl,rfl⟩:=Sx.tP_inj (Option.some.inj (hd.symm.trans hd2))
      have hne:=neqP nm2 T2 nm2 T2
      have hk0:(0:Int)≤(q:Int):=by omega
      have hk1:(q:Int)<(ps2.length:Int):=by omega
      rw [show ((nm2,T2) == (nm2,T2))=true from by simp] at hne
      clear hd hd2
      go_wp2
      go_quiet (fail)
      go_wp2
      go_roundw
      case rel=>exact ⟨q+1,by omega,by go_num,_,rfl⟩
      case measure=>simp [intOf];omega
     ·obtain rfl:q=ps2.length:=by omega
      obtain ⟨x0,x1⟩:=HN.out _ (K1.out.drewN j)
      go_wp2
      go_roundw
      case rel=>exact ⟨k+1,by omega,by go_num,HEq.out _ (K1.out.drewN _),x0,x1⟩
      case measure=>simp [intOf];omega
  ·obtain rfl:k=l.length:=by omega
   have d1:decide ((l.length:Int)<(l.length:Int))=false:=by simp
   go_wp2
   go_ret
   exact ⟨rfl,HK.out⟩
end Go.Proofs.YthcapfojofahkaaGreatDoor
