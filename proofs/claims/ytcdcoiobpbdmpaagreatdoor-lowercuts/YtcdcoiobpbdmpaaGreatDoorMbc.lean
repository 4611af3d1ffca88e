import Derived.Test.YtcdcoiobpbdmpaaGreatDoorMbb
namespace Go.Proofs.YtcdcoiobpbdmpaaGreatDoor
open Go.RowKit
def BKt (n:Nat):Prop:= ∀ (w:World) (P:Nat→Prop) (l:List Sx.Tr) (a:Option Addr) (c cb num deep:Nat),Tb w→SL w P n l (.slice a l.length c)→Sx.wS n l≤1000000000→Rn.nmS n l→num≤300→deep+n≤1000000000→
 9≤cb→ ¬ P cb→w.cell? ⟨cb,0,none⟩=some (.int .i64 num)→w.frozen? ⟨cb,0,none⟩=false→
 Calls Tryz.prog 99 #[.pointer (some ⟨cb,0,none⟩),.slice a l.length c,.int .i64 deep] w fun e w'=>
  e= .returned (.agg #[.int .i64 (Rn.cv (Rn.bf n deep num l)).1,.int .i64 (Rn.cv (Rn.bf n deep num l)).2])∧(∀ b:Nat,Rn.bf n deep num l= .inl b→w'.cell? ⟨cb,0,none⟩=some (.int .i64 b)∧w'.frozen? ⟨cb,0,none⟩=false)∧Kp [cb] w w'
def Rn.left (n deep:Nat) (body els:List Sx.Tr) (rest:Nat→Rn.Bf):Nat→Nat→Rn.Bf
 |0,m=>Rn.thn (Rn.bf n deep m body) fun b=>Rn.thn (Rn.bf n deep b els) rest
 |1,m=>Rn.thn (Rn.bf n deep m els) rest
 |_,m=>rest m
theorem tw_0 (c0 c1:Value) (w:World):(Instr.index 193 (.agg #[c0,c1]) (.int .i64 0)).run Tryz.prog w= .ok c0 w:=by
 simp [Instr.index,go_sem]
theorem tw_1 (c0 c1:Value) (w:World):(Instr.index 193 (.agg #[c0,c1]) (.int .i64 1)).run Tryz.prog w= .ok c1 w:=by
 simp [Instr.index,go_sem]
theorem Rn.thn_assoc (a:Rn.Bf) (f g:Nat→Rn.Bf):Rn.thn (Rn.thn a f) g=Rn.thn a fun b=>Rn.thn (f b) g:=by
 cases a<;> rfl
theorem Kp.of_nil {S:List Nat} {a b:World} (h:Kp [] a b):Kp S a b:=h.mono (by simp)
set_option maxRecDepth 100000 in
set_option maxHeartbeats 2000000 in
theorem rblock_step (n:Nat) (ih:BKt n):BKt (n+1):=by
 intro w P l a c cb num deep hT h hw hn hnum hdeep hcb hP hc hz
 rw [Rn.bf_goS]
 have HS:=hide h
 have IH:=hide ih
 have HT:=hide hT
 have HN:=hide hn
 have HW:=hide hw
 have HPc:Hid (∀ k,k ∈ [cb]→ ¬ P k):=hide (by simpa using hP)
 have HC16:Hid (∀ k,k ∈ [cb]→9≤k):=hide (by simpa using hcb)
 have hl:l.length≤1000000000:=by have:l.length+_=Sx.wS (n+1) l:=rfl;omega
 have hcl:=World.block_lt_of_cell? _ _ hc
 clear h ih hT hn hw hP
 go_enter Tryz.func99,Tryz.ntmps99
 go_wp2_with fail
 go_loopw [16] (fun iv wr=> ∃ (k m:Nat),k≤l.length∧m≤300∧iv= .int .i64 k∧Hid (Rn.goS (Rn.b1 n deep) num l=Rn.goS (Rn.b1 n deep) m (l.drop k))∧Hid (Kp [cb] w wr)∧wr.cell? ⟨cb,0,none⟩=some (.int .i64 m)∧wr.frozen? ⟨cb,0,none⟩=false∧wr.cell? ⟨w.heap.size,0,none⟩=some (.int .i64 0)∧wr.cell? ⟨w.heap.size,1,none⟩=some (.int .i64 0)∧wr.frozen? ⟨w.heap.size,0,none⟩=false∧wr.frozen? ⟨w.heap.size,1,none⟩=false) (fun iv _=>l.length - (intOf iv).toNat)
 case atStart=>exact ⟨0,num,Nat.zero_le _,hnum,rfl,rfl,(Kp.refl _ _).alloc _,((Kp.refl [] _).alloc _).some hc (by simp),(((Kp.refl [] w).alloc _).frozen (p:=⟨cb,0,none⟩) hcl (by simp)).trans hz,by simp [go_sem],by simp [go_sem],by simp [go_sem],by simp [go_sem]⟩
 case round=>
  obtain ⟨k,m,hk,hm,rfl,HV,HK,c0,z0,p0,p1,f0,f1⟩:=hrel
  have hbl:=World.block_lt_of_cell? _ _ p0
  have hcr:=World.block_lt_of_cell? _ _ c0
  have hwc: ¬ w.heap.size=cb:=by omega
  by_cases hlt:k<l.length
  ·have d1:decide ((k:Int)<(l.length:Int))=true:=by simp;omega
   obtain ⟨b,off,D,at',A,B,T,N,E,body,els,uE,uB,uL,rfl,_,hd,m0,m1,m2,m3,m4,m5,m6,m7,m8,hE,hB,hL⟩:=(HS.out.keep HK.out HPc.out).nth k hlt
   obtain ⟨aE,cE,rfl⟩:=hE.slice
   obtain ⟨aB,cB,rfl⟩:=hB.slice
   obtain ⟨aL,cL,rfl⟩:=hL.slice
   have hwt:=Nat.le_trans (Rn.wS_nth hd) HW.out
   have hwt':Sx.wE n E+Sx.wS n body+Sx.wS n els≤1000000000:=hwt
   obtain ⟨n1,n2,n3,n4,n5,n6⟩:=HN.out k _ hd
   have HG:=hide (Rn.goS_drop (g:=Rn.b1 n deep) (a:=m) hd)
   have hk0:(0:Int)≤(k:Int):=by omega
   have hk1:(k:Int)<(l.length:Int):=by omega
   by_cases h3:m=300
   ·subst h3
    have HB1:=hide (Rn.b1_bad (n:=n) (deep:=deep) (a:=300) (t:=Sx.tS D at' A B T N E body els) (by unfold Rn.c1;rw [if_pos (by omega)];decide))
    have HR:=hide (HV.out.trans HG.out)
    rw [HB1.out,show Rn.c1 n deep 300 (Sx.tS D at' A B T N E body els)=8 from by unfold Rn.c1;rw [if_pos (by omega)]] at HR
    clear hd hE hB hL hwt hwt' n1 n2 n3 n4 n5 n6
    go_wp2
    refine bodyPost_ret (v:= .agg #[.int .i64 8,.int .i64 300]) (by simp [results,Tryz.results99,go_sem,hbl,p0,p1]) rfl ⟨?_,?_,?_⟩
    ·rw [HR.out];rfl
    ·intro x hx;rw [HR.out] at hx;cases hx
    ·exact (((HK.out.rb _ _).nb (Nat.le_refl _) _ _).nb (Nat.le_refl _) _ _).alloc _
   ·have hm3:m<300:=by omega
    have q3:((m:Int) == 300)=false:=by simp;omega
    have KW:Hid (Kp [cb] wr ((wr.setCell ⟨cb,0,none⟩ (.int .i64 ((m:Int)+1))).alloc (.cells #[.int .i64 D,.int .i64 at',.string (bs A),.string (bs B),.string (bs T),.int .i64 N,.slice aE E.length cE,.slice aB body.length cB,.slice aL els.length cL] 75))):=hide (((Kp.refl _ _).rb _ _).alloc _)
    have HC:=hide (stmtCode_lv n deep _ (HT.out.keep (HK.out.trans KW.out) HC16.out) P D at' N A B T E body els aE aB aL cE cB cL (hE.keep KW.out HPc.out) (by omega) n4 n1 n2 n3)
    have HB1:=hide (fun hc=>Rn.b1_bad (n:=n) (deep:=deep) (a:=m) (t:=Sx.tS D at' A B T N E body els) hc)
    have HB2:=hide (fun hc=>Rn.b1_ok (n:=n) (deep:=deep) (a:=m) (t:=Sx.tS D at' A B T N E body els) hc)
    rw [show Rn.c1 n deep m (Sx.tS D at' A B T N E body els)=Rn.sf n deep (Sx.tS D at' A B T N E body els) from by unfold Rn.c1;rw [if_neg (by omega)]] at HB1 HB2
    change Hid (_→_<_∧_=Rn.thn (Rn.bf n (deep+1) (m+1) body) fun b=>Rn.bf n (deep+1) b els) at HB2
    have HI1:=hide (fun w1 (hk:Kp [cb] wr w1) (x:Nat) (hx:x≤300)=>IH.out w1 P body aB cB cb x (deep+1) (HT.out.keep (HK.out.trans hk) HC16.out) (hB.keep hk HPc.out) (by omega) n5 hx (by omega) hcb (HPc.out cb (by simp)))
    have HI2:=hide (fun w1 (hk:Kp [cb] wr w1) (x:Nat) (hx:x≤300)=>IH.out w1 P els aL cL cb x (deep+1) (HT.out.keep (HK.out.trans hk) HC16.out) (hL.keep hk HPc.out) (by omega) n6 hx (by omega) hcb (HPc.out cb (by simp)))
    have e2:((deep+1:Nat):Int)=(deep:Int)+1:=by omega
    rw [e2] at HI1 HI2
    clear hd hE hB hL hwt hwt' n1 n2 n3 n4 n5 n6 e2
    generalize Rn.sf n deep (Sx.tS D at' A B T N E body els)=C at *
    by_cases hC:C=0
    ·obtain ⟨-,hb1⟩:=HB2.out hC
     subst hC
     have HR:=hide (HV.out.trans HG.out)
     rw [hb1,Rn.thn_assoc] at HR
     clear HB1 HB2 hb1
     go_wp2_with fail
     refine HC.out.mono ?_
     rintro e w3 ⟨rfl,hk3⟩
     have K3:=hide (HK.out.trans (KW.out.trans (Kp.of_nil hk3)))
     have K3':=hide (KW.out.trans (Kp.of_nil hk3))
     have q0:=hk3.some (p:=⟨w.heap.size,0,none⟩) (v:= .int .i64 0) (by simp [go_sem,hbl,p0]) (by simp)
     have q1:=hk3.some (p:=⟨w.heap.size,1,none⟩) (v:= .int .i64 0) (by simp [go_sem,hbl,p1]) (by simp)
     have g0:=(hk3.frozen (p:=⟨w.heap.size,0,none⟩) (by simp;omega) (by simp)).trans (show _=false from by simp [go_sem,hbl,f0])
     have g1:=(hk3.frozen (p:=⟨w.heap.size,1,none⟩) (by simp;omega) (by simp)).trans (show _=false from by simp [go_sem,hbl,f1])
     have o7:=hk3.some (p:=⟨wr.heap.size,7,none⟩) (v:= .slice aB body.length cB) (by simp [go_sem]) (by simp)
     have o8:=hk3.some (p:=⟨wr.heap.size,8,none⟩) (v:= .slice aL els.length cL) (by simp [go_sem]) (by simp)
     have c3:=hk3.some (p:=⟨cb,0,none⟩) (v:= .int .i64 ((m:Int)+1)) (by simp [go_sem,hcr,c0]) (by simp)
     have z3:=(hk3.frozen (p:=⟨cb,0,none⟩) (by simp;omega) (by simp)).trans (show _=false from by simp [go_sem,hcr,z0])
     clear hk3 HC p0 p1 f0 f1 c0 z0
     go_wp2_with fail
     go_loopw [48] (fun jv wq=> ∃ (j m':Nat),j≤2∧m'≤300∧jv= .int .i64 j∧Hid (Rn.goS (Rn.b1 n deep) num l=Rn.left n (deep+1) body els (fun b=>Rn.goS (Rn.b1 n deep) b (l.drop (k+1))) j m')∧Hid (Kp [cb] w wq)∧Hid (Kp [cb] wr wq)∧wq.cell? ⟨cb,0,none⟩=some (.int .i64 m')∧wq.frozen? ⟨cb,0,none⟩=false∧wq.cell? ⟨w.heap.size,0,none⟩=some (.int .i64 0)∧wq.cell? ⟨w.heap.size,1,none⟩=some (.int .i64 0)∧wq.frozen? ⟨w.heap.size,0,none⟩=false∧wq.frozen? ⟨w.heap.size,1,none⟩=false) (fun jv _=>2 - (intOf jv).toNat)
     case atStart=>exact ⟨0,m+1,by omega,by omega,rfl,HR.out,K3.out,K3'.out,c3,z3,q0,q1,g0,g1⟩
     case round=>
      obtain ⟨j,m',hj,hm',rfl,HL,KQ,KQ',cq,zq,r0,r1',y0,y1⟩:=hrel
      have hbq:=World.block_lt_of_cell? _ _ r0
      clear c3 z3 q0 q1 g0 g1 o7 o8 HR K3 K3'
      obtain rfl|rfl|rfl:j=0∨j=1∨j=2:=by omega
      ·generalize hr1:Rn.bf n (deep+1) m' body=r1 at *
       have HX:=hide (HI1.out _ KQ'.out m' hm' cq zq)
       rw [hr1] at HX
       cases r1 with
       |inr f=>
        change Hid (Calls _ _ _ _ fun e w'=>e= .returned (.agg #[.int .i64 f.1,.int .i64 f.2])∧_) at HX
        have hf:=Rn.bf_ne n _ _ _ f hr1
        have ff:(f.1 !=0)=true:=by simpa using hf
        have HR:Hid (Rn.goS (Rn.b1 n deep) num l= .inr f):=hide (HL.out.trans (by simp only [Rn.left];rw [hr1];rfl))
        go_wp2_with fail
        rw [tw_0]
        simp only [Result.andThen]
        rw [Oper.upon_value]
        go_wp2_with fail
        refine HX.out.mono ?_
        rintro e w4 ⟨rfl,-,hk4⟩
        have K4:=hide (KQ.out.trans hk4)
        have s0:=hk4.some r0 (by simpa using hwc)
        have s1:=hk4.some r1' (by simpa using hwc)
        have t0:=(hk4.frozen (p:=⟨w.heap.size,0,none⟩) hbq (by simpa using hwc)).trans y0
        have t1:=(hk4.frozen (p:=⟨w.heap.size,1,none⟩) hbq (by simpa using hwc)).trans y1
        have hb4:=World.block_lt_of_cell? _ _ s0
        clear hk4
        go_wp2
        refine bodyPost_ret (v:= .agg #[.int .i64 f.1,.int .i64 f.2]) (by simp [results,Tryz.results99,go_sem,s0,s1,hb4]) rfl ⟨?_,?_,?_⟩
        ·rw [HR.out];rfl
        ·intro x hx;rw [HR.out] at hx;cases hx
        ·exact ((K4.out.nb (Nat.le_refl _) _ _).nb (Nat.le_refl _) _ _).alloc _
       |inl b2=>
        change Hid (Calls _ _ _ _ fun e w'=>e= .returned (.agg #[.int .i64 0,.int .i64 0])∧_) at HX
        have hb3:=Rn.bf_le n _ _ _ _ hm' hr1
        have HR:Hid (Rn.goS (Rn.b1 n deep) num l=Rn.left n (deep+1) body els (fun b=>Rn.goS (Rn.b1 n deep) b (l.drop (k+1))) 1 b2):=hide (HL.out.trans (by simp only [Rn.left];rw [hr1];rfl))
        go_wp2_with fail
        rw [tw_0]
        simp only [Result.andThen]
        rw [Oper.upon_value]
        go_wp2_with fail
        refine HX.out.mono ?_
        rintro e w4 ⟨rfl,hcz,hk4⟩
        obtain ⟨c4,z4⟩:=hcz b2 rfl
        have K4:=hide (KQ.out.trans hk4)
        have K4':=hide (KQ'.out.trans hk4)
        have s0:=hk4.some r0 (by simpa using hwc)
        have s1:=hk4.some r1' (by simpa using hwc)
        have t0:=(hk4.frozen (p:=⟨w.heap.size,0,none⟩) hbq (by simpa using hwc)).trans y0
        have t1:=(hk4.frozen (p:=⟨w.heap.size,1,none⟩) hbq (by simpa using hwc)).trans y1
        have hb4:=World.block_lt_of_cell? _ _ s0
        have hc4:=World.block_lt_of_cell? _ _ c4
        clear hk4 hcz
        go_wp2
        go_roundw
        case rel=>exact ⟨1,b2,by omega,hb3,by go_num,HR.out,K4.out.alloc _,K4'.out.alloc _,by simp [go_sem,c4,hc4],by simp [go_sem,z4,hc4],by simp [go_sem,s0,hb4],by simp [go_sem,s1,hb4],by simp [go_sem,t0,hb4],by simp [go_sem,t1,hb4]⟩
        case measure=>simp [intOf]
      ·generalize hr1:Rn.bf n (deep+1) m' els=r1 at *
       have HX:=hide (HI2.out _ KQ'.out m' hm' cq zq)
       rw [hr1] at HX
       cases r1 with
       |inr f=>
        change Hid (Calls _ _ _ _ fun e w'=>e= .returned (.agg #[.int .i64 f.1,.int .i64 f.2])∧_) at HX
        have hf:=Rn.bf_ne n _ _ _ f hr1
        have ff:(f.1 !=0)=true:=by simpa using hf
        have HR:Hid (Rn.goS (Rn.b1 n deep) num l= .inr f):=hide (HL.out.trans (by simp only [Rn.left];rw [hr1];rfl))
        go_wp2_with fail
        rw [tw_1]
        simp only [Result.andThen]
        rw [Oper.upon_value]
        go_wp2_with fail
        refine HX.out.mono ?_
        rintro e w4 ⟨rfl,-,hk4⟩
        have K4:=hide (KQ.out.trans hk4)
        have s0:=hk4.some r0 (by simpa using hwc)
        have s1:=hk4.some r1' (by simpa using hwc)
        have t0:=(hk4.frozen (p:=⟨w.heap.size,0,none⟩) hbq (by simpa using hwc)).trans y0
        have t1:=(hk4.frozen (p:=⟨w.heap.size,1,none⟩) hbq (by simpa using hwc)).trans y1
        have hb4:=World.block_lt_of_cell? _ _ s0
        clear hk4
        go_wp2
        refine bodyPost_ret (v:= .agg #[.int .i64 f.1,.int .i64 f.2]) (by simp [results,Tryz.results99,go_sem,s0,s1,hb4]) rfl ⟨?_,?_,?_⟩
        ·rw [HR.out];rfl
        ·intro x hx;rw [HR.out] at hx;cases hx
        ·exact ((K4.out.nb (Nat.le_refl _) _ _).nb (Nat.le_refl _) _ _).alloc _
       |inl b2=>
        change Hid (Calls _ _ _ _ fun e w'=>e= .returned (.agg #[.int .i64 0,.int .i64 0])∧_) at HX
        have hb3:=Rn.bf_le n _ _ _ _ hm' hr1
        have HR:Hid (Rn.goS (Rn.b1 n deep) num l=Rn.left n (deep+1) body els (fun b=>Rn.goS (Rn.b1 n deep) b (l.drop (k+1))) 2 b2):=hide (HL.out.trans (by simp only [Rn.left];rw [hr1];rfl))
        go_wp2_with fail
        rw [tw_1]
        simp only [Result.andThen]
        rw [Oper.upon_value]
        go_wp2_with fail
        refine HX.out.mono ?_
        rintro e w4 ⟨rfl,hcz,hk4⟩
        obtain ⟨c4,z4⟩:=hcz b2 rfl
        have K4:=hide (KQ.out.trans hk4)
        have K4':=hide (KQ'.out.trans hk4)
        have s0:=hk4.some r0 (by simpa using hwc)
        have s1:=hk4.some r1' (by simpa using hwc)
        have t0:=(hk4.frozen (p:=⟨w.heap.size,0,none⟩) hbq (by simpa using hwc)).trans y0
        have t1:=(hk4.frozen (p:=⟨w.heap.size,1,none⟩) hbq (by simpa using hwc)).trans y1
        have hb4:=World.block_lt_of_cell? _ _ s0
        have hc4:=World.block_lt_of_cell? _ _ c4
        clear hk4 hcz
        go_wp2
        go_roundw
        case rel=>exact ⟨2,b2,by omega,hb3,by go_num,HR.out,K4.out.alloc _,K4'.out.alloc _,by simp [go_sem,c4,hc4],by simp [go_sem,z4,hc4],by simp [go_sem,s0,hb4],by simp [go_sem,s1,hb4],by simp [go_sem,t0,hb4],by simp [go_sem,t1,hb4]⟩
        case measure=>simp [intOf]
      ·go_wp2
       go_roundw
       case rel=>exact ⟨k+1,m',by omega,hm',by go_num,HL.out,KQ.out,cq,zq,r0,r1',y0,y1⟩
       case measure=>simp [intOf];omega
    ·have hb1:=HB1.out hC
     have HR:=hide (HV.out.trans HG.out)
     rw [hb1] at HR
     have q4:(C !=0)=true:=by simpa using hC
     clear HB1 HB2 HI1 HI2
     go_wp2_with fail
     refine HC.out.mono ?_
     rintro e w3 ⟨rfl,hk3⟩
     have K3:=hide (HK.out.trans (KW.out.trans (Kp.of_nil hk3)))
     have q0:=hk3.some (p:=⟨w.heap.size,0,none⟩) (v:= .int .i64 0) (by simp [go_sem,hbl,p0]) (by simp)
     have q1:=hk3.some (p:=⟨w.heap.size,1,none⟩) (v:= .int .i64 0) (by simp [go_sem,hbl,p1]) (by simp)
     have g0:=(hk3.frozen (p:=⟨w.heap.size,0,none⟩) (by simp;omega) (by simp)).trans (show _=false from by simp [go_sem,hbl,f0])
     have g1:=(hk3.frozen (p:=⟨w.heap.size,1,none⟩) (by simp;omega) (by simp)).trans (show _=false from by simp [go_sem,hbl,f1])
     clear hk3
     go_wp2
     refine bodyPost_ret (v:= .agg #[.int .i64 C,.int .i64 m]) (by simp [results,Tryz.results99,go_sem,q0,q1]) rfl ⟨?_,?_,?_⟩
     ·rw [HR.out];rfl
     ·intro x hx;rw [HR.out] at hx;cases hx
     ·exact (K3.out.nb (Nat.le_refl _) _ _).nb (Nat.le_refl _) _ _
  ·obtain rfl:k=l.length:=by omega
   have d1:decide ((l.length:Int)<(l.length:Int))=false:=by simp
   rw [List.drop_length] at HV
   go_wp2
   refine bodyPost_ret (v:= .agg #[.int .i64 0,.int .i64 0]) (by simp [results,Tryz.results99,go_sem,p0,p1]) rfl ⟨?_,?_,?_⟩
   ·rw [HV.out];rfl
   ·intro x hx;rw [HV.out] at hx;cases hx;exact ⟨by simp [go_sem,c0],by simp [go_sem,z0]⟩
   ·exact (HK.out.nb (Nat.le_refl _) _ _).nb (Nat.le_refl _) _ _
theorem block_any (n:Nat):BKt n:=by
 induction n with
 |zero=>intro w P l a c cb num deep _ h;cases h
 |succ n ih=>exact rblock_step n ih
end Go.Proofs.YtcdcoiobpbdmpaaGreatDoor
namespace Go.Proofs.YtcdcoiobpbdmpaaGreatDoor
open Go.RowKit
structure Nm (n:Nat) (l:List Sx.Tr):Prop where
 lv:n≤1000002
 len:l.length≤1000000
 ps: ∀ (i:Nat) d,l[i]? =some d→(Sx.gP d).length≤1000000
 ws: ∀ (i:Nat) d,l[i]? =some d→Sx.wS n (Sx.gB d)≤1000000
 nm: ∀ (i:Nat) d,l[i]? =some d→(Sx.gN d).length≤1099511627776∧Rn.nmP (Sx.gP d)∧Rn.nmS n (Sx.gB d)
theorem Rn.gf_drop {n i a:Nat} {l:List Sx.Tr} {g:Sx.Tr} (h:l[i]? =some g):Rn.gf n i a (l.drop i)=if Rn.hf g ≠ 0 then .inr (Rn.hf g,-2 - (i:Int)) else Rn.thn (Rn.bf n 1 a (Sx.gB g)) fun b=>Rn.gf n (i+1) b (l.drop (i+1)):=by
 rw [drop_nth h]
 rfl
theorem Rn.pf_mid {n:Nat} {l:List Sx.Tr} (h0:l.length ≠ 0) (h1: ¬ 10<l.length):Rn.pf n l=Rn.cv (Rn.gf n 0 0 l):=by
 unfold Rn.pf
 rw [if_neg h0,if_neg h1]
 cases Rn.gf n 0 0 l<;> rfl
set_option maxRecDepth 100000 in
set_option maxHeartbeats 1000000 in
theorem rprogram_any (n:Nat) (w:World) (P:Nat→Prop) (l:List Sx.Tr) (a:Option Addr) (c cb:Nat) (hT:Tb w) (h:Sl (RG w P n) w P l (.slice a l.length c)) (hN:Nm n l) (hcb:9≤cb) (hP: ¬ P cb) (hc:w.cell? ⟨cb,0,none⟩=some (.int .i64 0)) (hz:w.frozen? ⟨cb,0,none⟩=false):
  Calls Tryz.prog 67 #[.pointer (some ⟨cb,0,none⟩),.agg #[.slice a l.length c]] w fun e w'=>e= .returned (.agg #[.int .i64 (Rn.pf n l).1,.int .i64 (Rn.pf n l).2])∧Kp [cb] w w':=by
 have hl:=hN.len
 by_cases h0:l.length=0
 ·have e1:Rn.pf n l=(10,-1):=by unfold Rn.pf;rw [if_pos h0]
  rw [e1]
  have hli:(l.length:Int)=0:=by omega
  clear h hT hN hc hz hP hl
  go_enter Tryz.func67,Tryz.ntmps67
  go_wp2
  refine bodyPost_ret (v:= .agg #[.int .i64 10,.int .i64 (-1)]) (by simp [results,Tryz.results67,go_sem]) rfl ⟨rfl,?_⟩
  exact ((Kp.refl _ _).alloc _).alloc _
 ·by_cases h1:10<l.length
  ·have e1:Rn.pf n l=(8,-1):=by unfold Rn.pf;rw [if_neg h0,if_pos h1]
   rw [e1]
   have q0:((l.length:Int) == 0)=false:=by simp only [beq_eq_false_iff_ne];omega
   have d1:decide ((10:Int)<(l.length:Int))=true:=by simp;omega
   clear h hT hN hc hz hP hl
   go_enter Tryz.func67,Tryz.ntmps67
   go_wp2
   refine bodyPost_ret (v:= .agg #[.int .i64 8,.int .i64 (-1)]) (by simp [results,Tryz.results67,go_sem]) rfl ⟨rfl,?_⟩
   exact ((Kp.refl _ _).alloc _).alloc _
  ·rw [Rn.pf_mid h0 h1]
   have q0:((l.length:Int) == 0)=false:=by simp only [beq_eq_false_iff_ne];omega
   have d1:decide ((10:Int)<(l.length:Int))=false:=by simp;omega
   have HS:=hide h
   have HT:=hide hT
   have HN:=hide hN
   have HPc:Hid (∀ k,k ∈ [cb]→ ¬ P k):=hide (by simpa using hP)
   have HC16:Hid (∀ k,k ∈ [cb]→9≤k):=hide (by simpa using hcb)
   have hcl:=World.block_lt_of_cell? _ _ hc
   clear h hT hN hP
   go_enter Tryz.func67,Tryz.ntmps67
   go_wp2_with fail
   go_loopw [24] (fun iv wr=> ∃ (i m:Nat),i≤l.length∧m≤300∧iv= .int .i64 i∧Hid (Rn.gf n 0 0 l=Rn.gf n i m (l.drop i))∧Hid (Kp [cb] w wr)∧wr.cell? ⟨cb,0,none⟩=some (.int .i64 m)∧wr.frozen? ⟨cb,0,none⟩=false∧wr.cell? ⟨w.heap.size+1,0,none⟩=some (.int .i64 0)∧wr.cell? ⟨w.heap.size+1,1,none⟩=some (.int .i64 0)∧wr.frozen? ⟨w.heap.size+1,0,none⟩=false∧wr.frozen? ⟨w.heap.size+1,1,none⟩=false) (fun iv _=>l.length - (intOf iv).toNat)
   case atStart=>exact ⟨0,0,Nat.zero_le _,by omega,rfl,rfl,((Kp.refl _ _).alloc _).alloc _,(((Kp.refl [] _).alloc _).alloc _).some hc (by simp),((((Kp.refl [] w).alloc _).alloc _).frozen (p:=⟨cb,0,none⟩) hcl (by simp)).trans hz,by simp [go_sem],by simp [go_sem],by simp [go_sem],by simp [go_sem]⟩
   case round=>
    obtain ⟨i,m,hi,hm,rfl,HV,HK,c0,z0,p0,p1,f0,f1⟩:=hrel
    have hbl:=World.block_lt_of_cell? _ _ p0
    have hcr:=World.block_lt_of_cell? _ _ c0
    have hwc: ¬ w.heap.size+1=cb:=by omega
    by_cases hlt:i<l.length
    ·have d2:decide ((i:Int)<(l.length:Int))=true:=by simp;omega
     obtain ⟨b,off,nm,at',ps,body,uP,uB,rfl,-,hd,m0,m1,m2,m3,hP,hB⟩:=GL.nth (HS.out.keep HK.out HPc.out (fun d c h=>h.keep HK.out HPc.out)) i hlt
     obtain ⟨aP,cP,rfl,-⟩:=id hP
     obtain ⟨aB,cB,rfl⟩:=hB.slice
     obtain ⟨n1,n2,n3⟩:=HN.out.nm i _ hd
     have n4:Sx.wS n body≤1000000:=HN.out.ws i _ hd
     have n5:ps.length≤1000000:=HN.out.ps i _ hd
     have n6:=HN.out.lv
     have KW:Hid (Kp [] wr (wr.alloc (.cells #[.string (bs nm),.int .i64 at',.slice aP ps.length cP,.slice aB body.length cB] 53))):=hide ((Kp.refl _ _).alloc _)
     have HC:=hide (headCode_any _ (HT.out.keep (HK.out.trans (Kp.of_nil KW.out)) HC16.out) P nm at' ps body aP cP (.slice aB body.length cB) (hP.keep KW.out (by simp) (fun _ _ h=>h)) n1 n2 (by omega))
     have HI1:=hide (fun w1 (hk:Kp [cb] wr w1)=>block_any n w1 P body aB cB cb m 1 (HT.out.keep (HK.out.trans hk) HC16.out) (hB.keep hk HPc.out) (by omega) n3 hm (by omega) hcb (HPc.out cb (by simp)))
     have HG:=hide (Rn.gf_drop (n:=n) (a:=m) hd)
     have HR:=hide (HV.out.trans HG.out)
     change Hid (_=if Rn.hf (Sx.tG nm at' ps body) ≠ 0 then .inr (Rn.hf (Sx.tG nm at' ps body),-2 - (i:Int)) else Rn.thn (Rn.bf n 1 m body) fun b=>Rn.gf n (i+1) b (l.drop (i+1))) at HR
     have hk0:(0:Int)≤(i:Int):=by omega
     have hk1:(i:Int)<(l.length:Int):=by omega
     clear hd hP hB n1 n2 n3 n4 n5 n6 HG
     generalize Rn.hf (Sx.tG nm at' ps body)=C at *
     by_cases hC:C=0
     ·subst hC
      rw [if_neg (by simp)] at HR
      generalize hr1:Rn.bf n 1 m body=r1 at *
      cases r1 with
      |inr f=>
       have hf:=Rn.bf_ne n _ _ _ f hr1
       have ff:(f.1 !=0)=true:=by simpa using hf
       change Hid (∀ w1,_→_→_→Calls _ _ _ _ fun e w'=>e= .returned (.agg #[.int .i64 f.1,.int .i64 f.2])∧_) at HI1
       have HR':Hid (Rn.gf n 0 0 l= .inr f):=HR.out
       go_wp2_with fail
       refine HC.out.mono ?_
       rintro e w3 ⟨rfl,hk3⟩
       have K3:=hide (HK.out.trans (Kp.of_nil (KW.out.trans hk3)))
       have K3':Hid (Kp [cb] wr w3):=hide (Kp.of_nil (KW.out.trans hk3))
       have q0':=(KW.out.trans hk3).some p0 (by simp)
       have q1':=(KW.out.trans hk3).some p1 (by simp)
       have g0:=((KW.out.trans hk3).frozen (p:=⟨w.heap.size+1,0,none⟩) hbl (by simp)).trans f0
       have g1:=((KW.out.trans hk3).frozen (p:=⟨w.heap.size+1,1,none⟩) hbl (by simp)).trans f1
       have c3:=(KW.out.trans hk3).some c0 (by simp)
       have z3:=((KW.out.trans hk3).frozen (p:=⟨cb,0,none⟩) hcr (by simp)).trans z0
       have o3:=hk3.some (p:=⟨wr.heap.size,3,none⟩) (v:= .slice aB body.length cB) (by simp [go_sem]) (by simp)
       have hbl3:=World.block_lt_of_cell? _ _ q0'
       clear hk3 HC
       go_wp2_with fail
       refine (HI1.out _ K3'.out c3 z3).mono ?_
       rintro e w4 ⟨rfl,-,hk4⟩
       have K4:=hide (K3.out.trans hk4)
       have s0:=hk4.some q0' (by simpa using hwc)
       have s1:=hk4.some q1' (by simpa using hwc)
       have t0:=(hk4.frozen (p:=⟨w.heap.size+1,0,none⟩) hbl3 (by simpa using hwc)).trans g0
       have t1:=(hk4.frozen (p:=⟨w.heap.size+1,1,none⟩) hbl3 (by simpa using hwc)).trans g1
       have hb4:=World.block_lt_of_cell? _ _ s0
       clear hk4
       go_wp2
       refine bodyPost_ret (v:= .agg #[.int .i64 f.1,.int .i64 f.2]) (by simp [results,Tryz.results67,go_sem,s0,s1,hb4]) rfl ⟨?_,?_⟩
       ·rw [HR'.out];rfl
       ·exact ((K4.out.nb (by omega) _ _).nb (by omega) _ _).alloc _
      |inl b2=>
       have hb3:=Rn.bf_le n _ _ _ _ hm hr1
       change Hid (∀ w1,_→_→_→Calls _ _ _ _ fun e w'=>e= .returned (.agg #[.int .i64 0,.int .i64 0])∧_) at HI1
       have HR':Hid (Rn.gf n 0 0 l=Rn.gf n (i+1) b2 (l.drop (i+1))):=HR.out
       go_wp2_with fail
       refine HC.out.mono ?_
       rintro e w3 ⟨rfl,hk3⟩
       have K3:=hide (HK.out.trans (Kp.of_nil (KW.out.trans hk3)))
       have K3':Hid (Kp [cb] wr w3):=hide (Kp.of_nil (KW.out.trans hk3))
       have q0':=(KW.out.trans hk3).some p0 (by simp)
       have q1':=(KW.out.trans hk3).some p1 (by simp)
       have g0:=((KW.out.trans hk3).frozen (p:=⟨w.heap.size+1,0,none⟩) hbl (by simp)).trans f0
       have g1:=((KW.out.trans hk3).frozen (p:=⟨w.heap.size+1,1,none⟩) hbl (by simp)).trans f1
       have c3:=(KW.out.trans hk3).some c0 (by simp)
       have z3:=((KW.out.trans hk3).frozen (p:=⟨cb,0,none⟩) hcr (by simp)).trans z0
       have o3:=hk3.some (p:=⟨wr.heap.size,3,none⟩) (v:= .slice aB body.length cB) (by simp [go_sem]) (by simp)
       have hbl3:=World.block_lt_of_cell? _ _ q0'
       clear hk3 HC
       go_wp2_with fail
       refine (HI1.out _ K3'.out c3 z3).mono ?_
       rintro e w4 ⟨rfl,hcz,hk4⟩
       obtain ⟨c4,z4⟩:=hcz b2 rfl
       have K4:=hide (K3.out.trans hk4)
       have s0:=hk4.some q0' (by simpa using hwc)
       have s1:=hk4.some q1' (by simpa using hwc)
       have t0:=(hk4.frozen (p:=⟨w.heap.size+1,0,none⟩) hbl3 (by simpa using hwc)).trans g0
       have t1:=(hk4.frozen (p:=⟨w.heap.size+1,1,none⟩) hbl3 (by simpa using hwc)).trans g1
       have hb4:=World.block_lt_of_cell? _ _ s0
       have hc4:=World.block_lt_of_cell? _ _ c4
       clear hk4 hcz
       go_wp2
       go_roundw
       case rel=>exact ⟨i+1,b2,by omega,hb3,by go_num,HR'.out,K4.out.alloc _,by simp [go_sem,c4,hc4],by simp [go_sem,z4,hc4],by simp [go_sem,s0,hb4],by simp [go_sem,s1,hb4],by simp [go_sem,t0,hb4],by simp [go_sem,t1,hb4]⟩
       case measure=>simp [intOf];omega
     ·rw [if_pos hC] at HR
      have q4:(C !=0)=true:=by simpa using hC
      clear HI1
      go_wp2_with fail
      refine HC.out.mono ?_
      rintro e w3 ⟨rfl,hk3⟩
      have K3:=hide (HK.out.trans (Kp.of_nil (KW.out.trans hk3)))
      have q0':=(KW.out.trans hk3).some p0 (by simp)
      have q1':=(KW.out.trans hk3).some p1 (by simp)
      have g0:=((KW.out.trans hk3).frozen (p:=⟨w.heap.size+1,0,none⟩) hbl (by simp)).trans f0
      have g1:=((KW.out.trans hk3).frozen (p:=⟨w.heap.size+1,1,none⟩) hbl (by simp)).trans f1
      have ew:IntKind.i64.wrap (-2 - (i:Int))= -2 - (i:Int):=by simp only [IntKind.wrap_i64];omega
      clear hk3 HC
      go_wp2
      refine bodyPost_ret (v:= .agg #[.int .i64 C,.int .i64 (-2 - (i:Int))]) (by simp [results,Tryz.results67,go_sem,q0',q1']) rfl ⟨?_,?_⟩
      ·rw [HR.out];rfl
      ·exact (K3.out.nb (by omega) _ _).nb (by omega) _ _
    ·obtain rfl:i=l.length:=by omega
     have d2:decide ((l.length:Int)<(l.length:Int))=false:=by simp
     rw [List.drop_length] at HV
     go_wp2
     refine bodyPost_ret (v:= .agg #[.int .i64 0,.int .i64 0]) (by simp [results,Tryz.results67,go_sem,p0,p1]) rfl ⟨?_,?_⟩
     ·rw [HV.out];rfl
     ·exact (HK.out.nb (by omega) _ _).nb (by omega) _ _
end Go.Proofs.YtcdcoiobpbdmpaaGreatDoor
