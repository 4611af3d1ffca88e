import Derived.Test.YthcapfojofahkaaGreatDoorMav
namespace Go.Proofs.YthcapfojofahkaaGreatDoor
open Go.RowKit
def Rn.nmS:Nat→List Sx.Tr→Prop
 |0,_=>True
 |n+1,l=> ∀ (i:Nat) t,l[i]? =some t→(Sx.sH t).2.1.length≤1099511627776∧(Sx.sH t).2.2.1.length≤1099511627776∧(Sx.sH t).2.2.2.1.length≤1099511627776∧
   (∀ (j:Nat) x,(Sx.sE t)[j]? =some x→Rn.nmE n x)∧Rn.nmS n (Sx.sB t)∧Rn.nmS n (Sx.sO t)
def Rn.b1 (n deep:Nat) (a:Nat) (t:Sx.Tr):Rn.Bf:=
 if 300≤a then .inr (8,a) else if Rn.sf n deep t ≠ 0 then .inr (Rn.sf n deep t,a)
 else Rn.thn (Rn.bf n (deep+1) (a+1) (Sx.sB t)) fun b=>Rn.bf n (deep+1) b (Sx.sO t)
theorem Rn.bf_goS (n deep a:Nat) (l:List Sx.Tr):Rn.bf (n+1) deep a l=Rn.goS (Rn.b1 n deep) a l:=rfl
theorem Rn.goS_drop {g:Nat→Sx.Tr→Rn.Bf} {l:List Sx.Tr} {k a:Nat} {t:Sx.Tr} (h:l[k]? =some t):Rn.goS g a (l.drop k)=Rn.thn (g a t) fun b=>Rn.goS g b (l.drop (k+1)):=by
 rw [drop_nth h]
 rfl
theorem Rn.thn_le {m:Rn.Bf} {k:Nat→Rn.Bf} {c:Nat} (h:Rn.thn m k= .inl c): ∃ b,m= .inl b∧k b= .inl c:=by
 cases m with
 |inl b=>exact ⟨b,rfl,h⟩
 |inr f=>cases h
theorem Rn.goS_le {g:Nat→Sx.Tr→Rn.Bf} (hg: ∀ a t b,a≤300→g a t= .inl b→b≤300) (l:List Sx.Tr) (a b:Nat) (ha:a≤300) (h:Rn.goS g a l= .inl b):b≤300:=by
 induction l generalizing a with
 |nil=>cases h;exact ha
 |cons t r ih=>
  obtain ⟨c,h1,h2⟩:=Rn.thn_le h
  exact ih c (hg a t c ha h1) h2
theorem Rn.bf_le (n:Nat): ∀ (deep a b:Nat) (l:List Sx.Tr),a≤300→Rn.bf n deep a l= .inl b→b≤300:=by
 induction n with
 |zero=>intro deep a b l ha h;cases h;exact ha
 |succ n ih=>
  intro deep a b l ha h
  rw [Rn.bf_goS] at h
  refine Rn.goS_le ?_ l a b ha h
  intro a t b ha h
  unfold Rn.b1 at h
  split at h
  ·cases h
  ·split at h
   ·cases h
   ·obtain ⟨c,h1,h2⟩:=Rn.thn_le h
    exact ih (deep+1) c b _ (ih (deep+1) (a+1) c _ (by omega) h1) h2
end Go.Proofs.YthcapfojofahkaaGreatDoor
namespace Go.Proofs.YthcapfojofahkaaGreatDoor
open Go.RowKit
theorem Rn.goS_ne {g:Nat→Sx.Tr→Rn.Bf} (hg: ∀ a t f,g a t= .inr f→f.1 ≠ 0) (l:List Sx.Tr) (a:Nat) (f:Int × Int) (h:Rn.goS g a l= .inr f):f.1 ≠ 0:=by
 induction l generalizing a with
 |nil=>cases h
 |cons t r ih=>
  have h':Rn.thn (g a t) (fun b=>Rn.goS g b r)= .inr f:=h
  cases hx:g a t with
  |inl b=>rw [hx] at h';exact ih b h'
  |inr e=>rw [hx] at h';cases h';exact hg a t _ hx
theorem Rn.bf_ne (n:Nat): ∀ (deep a:Nat) (l:List Sx.Tr) (f:Int × Int),Rn.bf n deep a l= .inr f→f.1 ≠ 0:=by
 induction n with
 |zero=>intro deep a l f h;cases h
 |succ n ih=>
  intro deep a l f h
  rw [Rn.bf_goS] at h
  refine Rn.goS_ne ?_ l a f h
  intro a t f h
  unfold Rn.b1 at h
  split at h
  ·cases h
   show (8:Int) ≠ 0
   decide
  ·split at h
   ·rename_i h1;cases h;exact h1
   ·cases hx:Rn.bf n (deep+1) (a+1) (Sx.sB t) with
    |inl b=>rw [hx] at h;exact ih _ _ _ _ h
    |inr e=>rw [hx] at h;cases h;exact ih _ _ _ _ hx
def Rn.cv:Rn.Bf→Int × Int
 | .inl _=>(0,0)
 | .inr f=>f
def SBt (n:Nat):Prop:= ∀ (w:World) (P:Nat→Prop) (l:List Sx.Tr) (a:Option Addr) (c num deep:Nat),Tb w→SL w P n l (.slice a l.length c)→Sx.wS n l≤1000000000→Rn.nmS n l→num≤300→deep+n≤1000000000→
 Calls Tryz.prog 46 #[.slice a l.length c,.int .i64 num,.int .i64 deep] w fun e w'=>
  ∃ x:Int,e= .returned (.tuple #[.agg #[.int .i64 (Rn.cv (Rn.bf n deep num l)).1,.int .i64 (Rn.cv (Rn.bf n deep num l)).2],.int .i64 x])∧(∀ b:Nat,Rn.bf n deep num l= .inl b→x=b)∧Kp [] w w'
theorem Rn.wS_nth {n:Nat} {l:List Sx.Tr} {i:Nat} {d:Sx.Tr} (h:l[i]? =some d):Sx.wE n (Sx.sE d)+Sx.wS n (Sx.sB d)+Sx.wS n (Sx.sO d)≤Sx.wS (n+1) l:=by
 have:=sum_nth (fun d=>Sx.wE n (Sx.sE d)+Sx.wS n (Sx.sB d)+Sx.wS n (Sx.sO d)) h
 show _≤l.length+_
 omega
theorem stmtFault_lv (n deep num:Nat) (w:World) (hT:Tb w) (P:Nat→Prop) (d at' kk:Int) (A B T:List UInt8) (E b o:List Sx.Tr) (aE aB aL:Option Addr) (cE cB cL:Nat) (hn:num≤1000000000) (hS:EL w P n E (.slice aE E.length cE)) (hl:E.length≤1000000000) (hW:Sx.wE n E≤1000000000) (hN: ∀ (i:Nat) x,E[i]? =some x→Rn.nmE n x) (lA:A.length≤1099511627776) (lB:B.length≤1099511627776) (lT:T.length≤1099511627776):
  Calls Tryz.prog 68 #[.agg #[.int .i64 d,.int .i64 at',.string (bs A),.string (bs B),.string (bs T),.int .i64 kk,.slice aE E.length cE,.slice aB b.length cB,.slice aL o.length cL],.int .i64 num,.int .i64 deep] w fun e w'=>e= .returned (.int .i64 (if 300≤num then 8 else Rn.sf n deep (Sx.tS d at' A B T kk E b o)))∧Kp [] w w':=by
 cases n with
 |zero=>cases hS
 |succ n=>exact stmtFault_any n deep num w hT P d at' kk A B T E aE aB aL _ _ cE cB cL b o rfl rfl hn hS hl hW hN lA lB lT
theorem stmtCode_lv (n deep:Nat) (w:World) (hT:Tb w) (P:Nat→Prop) (d at' kk:Int) (A B T:List UInt8) (E b o:List Sx.Tr) (aE aB aL:Option Addr) (cE cB cL:Nat) (hS:EL w P n E (.slice aE E.length cE)) (hW:Sx.wE n E≤1000000000) (hN: ∀ (i:Nat) x,E[i]? =some x→Rn.nmE n x) (lA:A.length≤1099511627776) (lB:B.length≤1099511627776) (lT:T.length≤1099511627776):
  Calls Tryz.prog 114 #[.agg #[.int .i64 d,.int .i64 at',.string (bs A),.string (bs B),.string (bs T),.int .i64 kk,.slice aE E.length cE,.slice aB b.length cB,.slice aL o.length cL],.int .i64 deep] w fun e w'=>e= .returned (.int .i64 (Rn.sf n deep (Sx.tS d at' A B T kk E b o)))∧Kp [] w w':=by
 cases n with
 |zero=>cases hS
 |succ n=>exact stmtCode_any n deep w hT P d at' kk A B T E aE aB aL _ _ cE cB cL b o rfl rfl hS hW hN lA lB lT
end Go.Proofs.YthcapfojofahkaaGreatDoor
namespace Go.Proofs.YthcapfojofahkaaGreatDoor
open Go.RowKit
theorem EL.len_le {w:World} {P:Nat→Prop} {n:Nat} {E:List Sx.Tr} {v:Value} (h:EL w P n E v):E.length≤Sx.wE n E:=by
 cases n with
 |zero=>cases h
 |succ n=>show E.length≤E.length+_;omega
def Rn.c1 (n deep a:Nat) (t:Sx.Tr):Int:=if 300≤a then 8 else Rn.sf n deep t
theorem Rn.b1_bad {n deep a:Nat} {t:Sx.Tr} (h:Rn.c1 n deep a t ≠ 0):Rn.b1 n deep a t= .inr (Rn.c1 n deep a t,a):=by
 unfold Rn.b1 Rn.c1 at *
 by_cases h3:300≤a
 ·rw [if_pos h3,if_pos h3]
 ·rw [if_neg h3] at h ⊢
  rw [if_neg h3,if_pos h]
theorem Rn.b1_ok {n deep a:Nat} {t:Sx.Tr} (h:Rn.c1 n deep a t=0):a<300∧Rn.b1 n deep a t=Rn.thn (Rn.bf n (deep+1) (a+1) (Sx.sB t)) fun b=>Rn.bf n (deep+1) b (Sx.sO t):=by
 unfold Rn.b1 Rn.c1 at *
 by_cases h3:300≤a
 ·rw [if_pos h3] at h;cases h
 ·rw [if_neg h3] at h ⊢
  exact ⟨by omega,by rw [if_neg (by simpa using h)]⟩
set_option maxRecDepth 100000 in
set_option maxHeartbeats 4000000 in
theorem stmtsFault_step (n:Nat) (ih:SBt n):SBt (n+1):=by
 intro w P l a c num deep hT h hw hn hnum hdeep
 rw [Rn.bf_goS]
 have HS:=hide h
 have IH:=hide ih
 have HT:=hide hT
 have HN:=hide hn
 have HW:=hide hw
 have hl:l.length≤1000000000:=by have:l.length+_=Sx.wS (n+1) l:=rfl;omega
 clear h ih hT hn hw
 go_enter Tryz.func46,Tryz.ntmps46
 go_wp2_with fail
 go_loopw [1,8] (fun av iv wr=> ∃ (k m:Nat),k≤l.length∧m≤300∧iv= .int .i64 k∧av= .int .i64 m∧Hid (Rn.goS (Rn.b1 n deep) num l=Rn.goS (Rn.b1 n deep) m (l.drop k))∧Hid (Kp [] w wr)∧wr.cell? ⟨w.heap.size,0,none⟩=some (.int .i64 0)∧wr.cell? ⟨w.heap.size,1,none⟩=some (.int .i64 0)∧wr.frozen? ⟨w.heap.size,0,none⟩=false∧wr.frozen? ⟨w.heap.size,1,none⟩=false) (fun _ iv _=>l.length - (intOf iv).toNat)
 case atStart=>exact ⟨0,num,Nat.zero_le _,hnum,rfl,rfl,rfl,(Kp.refl _ _).alloc _,by simp [go_sem],by simp [go_sem],by simp [go_sem],by simp [go_sem]⟩
 case round=>
  obtain ⟨k,m,hk,hm,rfl,rfl,HV,HK,p0,p1,f0,f1⟩:=hrel
  have hbl:=World.block_lt_of_cell? _ _ p0
  by_cases hlt:k<l.length
  ·have d1:decide ((k:Int)<(l.length:Int))=true:=by simp;omega
   obtain ⟨b,off,D,at',A,B,T,N,E,body,els,uE,uB,uL,rfl,_,hd,m0,m1,m2,m3,m4,m5,m6,m7,m8,hE,hB,hL⟩:=(HS.out.keep HK.out (by simp)).nth k hlt
   obtain ⟨aE,cE,rfl⟩:=hE.slice
   obtain ⟨aB,cB,rfl⟩:=hB.slice
   obtain ⟨aL,cL,rfl⟩:=hL.slice
   have hwt:=Nat.le_trans (Rn.wS_nth hd) HW.out
   have hwt':Sx.wE n E+Sx.wS n body+Sx.wS n els≤1000000000:=hwt
   obtain ⟨n1,n2,n3,n4,n5,n6⟩:=HN.out k _ hd
   have HC:=hide (stmtFault_lv n deep m wr (HT.out.kp HK.out) P D at' N A B T E body els aE aB aL cE cB cL (by omega) hE (by have:=hE.len_le;omega) (by omega) n4 n1 n2 n3)
   have HI1:=hide (fun w1 (hk:Kp [] wr w1) (hm':m+1≤300)=>IH.out w1 P body aB cB (m+1) (deep+1) (HT.out.kp (HK.out.trans hk)) (hB.keep hk (by simp)) (by omega) n5 hm' (by omega))
   have HI2:=hide (fun w1 (hk:Kp [] wr w1) (x:Nat) (hx:x≤300)=>IH.out w1 P els aL cL x (deep+1) (HT.out.kp (HK.out.trans hk)) (hL.keep hk (by simp)) (by omega) n6 hx (by omega))
   have HG:=hide (Rn.goS_drop (g:=Rn.b1 n deep) (a:=m) hd)
   have HB1:=hide (fun hc=>Rn.b1_bad (n:=n) (deep:=deep) (a:=m) (t:=Sx.tS D at' A B T N E body els) hc)
   have HB2:=hide (fun hc=>Rn.b1_ok (n:=n) (deep:=deep) (a:=m) (t:=Sx.tS D at' A B T N E body els) hc)
   change Hid (_→_<_∧_=Rn.thn (Rn.bf n (deep+1) (m+1) body) fun b=>Rn.bf n (deep+1) b els) at HB2
   change Hid (Calls _ _ _ _ fun e w'=>e= .returned (.int .i64 (Rn.c1 n deep m (Sx.tS D at' A B T N E body els)))∧_) at HC
   have hk0:(0:Int)≤(k:Int):=by omega
   have hk1:(k:Int)<(l.length:Int):=by omega
   clear hd hE hB hL hwt hwt' n1 n2 n3 n4 n5 n6
   generalize Rn.c1 n deep m (Sx.tS D at' A B T N E body els)=C at *
   by_cases hC:C=0
   ·obtain ⟨hm3,hb1⟩:=HB2.out hC
    subst hC
    have HR:=hide (HV.out.trans HG.out)
    rw [hb1] at HR
    clear HB1 HB2 hb1
    have e1:((m+1:Nat):Int)=(m:Int)+1:=by omega
    have e2:((deep+1:Nat):Int)=(deep:Int)+1:=by omega
    rw [e2] at HI2
    simp only [e1,e2] at HI1
    clear e1 e2
    generalize hr1:Rn.bf n (deep+1) (m+1) body=r1 at *
    cases r1 with
    |inr f=>
     have hf:=Rn.bf_ne n _ _ _ f hr1
     have ff:(f.1 == 0)=false:=by simpa using hf
     have fg:(f.1 !=0)=true:=by simpa using hf
     change Hid (∀ w1,_→_→Calls _ _ _ _ fun e w'=> ∃ x:Int,e= .returned (.tuple #[.agg #[.int .i64 f.1,.int .i64 f.2],.int .i64 x])∧_) at HI1
     clear hr1 hf
     go_wp2_with fail
     refine HC.out.mono ?_
     rintro e w3 ⟨rfl,hk3⟩
     have K3:=hide (HK.out.trans hk3)
     have L3:=hide hk3
     have q0:=hk3.some p0 (by simp)
     have q1:=hk3.some p1 (by simp)
     have g0:=(hk3.frozen (p:=⟨w.heap.size,0,none⟩) hbl (by simp)).trans f0
     have g1:=(hk3.frozen (p:=⟨w.heap.size,1,none⟩) hbl (by simp)).trans f1
     have o7:=hk3.some m7 (by simp)
     have o8:=hk3.some m8 (by simp)
     have hbl3:=World.block_lt_of_cell? _ _ q0
     clear hk3
     go_wp2_with fail
     refine (HI1.out _ L3.out (by omega)).mono ?_
     rintro e w4 ⟨x1,rfl,hx1,hk4⟩
     have K4:=hide (K3.out.trans hk4)
     have L4:=hide (L3.out.trans hk4)
     have s0:=hk4.some q0 (by simp)
     have s1:=hk4.some q1 (by simp)
     have t0:=(hk4.frozen (p:=⟨w.heap.size,0,none⟩) hbl3 (by simp)).trans g0
     have t1:=(hk4.frozen (p:=⟨w.heap.size,1,none⟩) hbl3 (by simp)).trans g1
     have v7:=hk4.some o7 (by simp)
     have v8:=hk4.some o8 (by simp)
     have hbl4:=World.block_lt_of_cell? _ _ s0
     have hbl7:=World.block_lt_of_cell? _ _ v7
     clear hk4
     go_wp2
     refine bodyPost_ret (v:= .tuple #[.agg #[.int .i64 f.1,.int .i64 f.2],.int .i64 x1]) (by simp [results,Tryz.results46,go_sem,s0,s1,hbl4]) rfl ⟨x1,?_,?_,?_⟩
     ·rw [HR.out];rfl
     ·intro x hx
      rw [HR.out] at hx
      have hx':(Sum.inr f:Rn.Bf)= .inl x:=hx
      cases hx'
     ·exact ((K4.out.nb (Nat.le_refl _) _ _).nb (Nat.le_refl _) _ _).alloc _
    |inl b1=>
     have hb3:=Rn.bf_le n _ _ _ _ (show m+1≤300 by omega) hr1
     change Hid (∀ w1,_→_→Calls _ _ _ _ fun e w'=> ∃ x:Int,e= .returned (.tuple #[.agg #[.int .i64 0,.int .i64 0],.int .i64 x])∧_) at HI1
     clear hr1
     go_wp2_with fail
     refine HC.out.mono ?_
     rintro e w3 ⟨rfl,hk3⟩
     have K3:=hide (HK.out.trans hk3)
     have L3:=hide hk3
     have q0:=hk3.some p0 (by simp)
     have q1:=hk3.some p1 (by simp)
     have g0:=(hk3.frozen (p:=⟨w.heap.size,0,none⟩) hbl (by simp)).trans f0
     have g1:=(hk3.frozen (p:=⟨w.heap.size,1,none⟩) hbl (by simp)).trans f1
     have o7:=hk3.some m7 (by simp)
     have o8:=hk3.some m8 (by simp)
     have hbl3:=World.block_lt_of_cell? _ _ q0
     clear hk3
     go_wp2_with fail
     refine (HI1.out _ L3.out (by omega)).mono ?_
     rintro e w4 ⟨x1,rfl,hx1,hk4⟩
     have K4:=hide (K3.out.trans hk4)
     have L4:=hide (L3.out.trans hk4)
     have s0:=hk4.some q0 (by simp)
     have s1:=hk4.some q1 (by simp)
     have t0:=(hk4.frozen (p:=⟨w.heap.size,0,none⟩) hbl3 (by simp)).trans g0
     have t1:=(hk4.frozen (p:=⟨w.heap.size,1,none⟩) hbl3 (by simp)).trans g1
     have v7:=hk4.some o7 (by simp)
     have v8:=hk4.some o8 (by simp)
     have hbl4:=World.block_lt_of_cell? _ _ s0
     have hbl7:=World.block_lt_of_cell? _ _ v7
     clear hk4
     obtain rfl:x1=(b1:Int):=hx1 b1 rfl
     have HR2:Hid (Rn.goS (Rn.b1 n deep) num l=Rn.thn (Rn.bf n (deep+1) b1 els) fun b=>Rn.goS (Rn.b1 n deep) b (l.drop (k+1))):=HR.out
     have HI3:=hide (fun w1 hk=>HI2.out w1 hk b1 hb3)
     clear HI1 HI2 HR hx1
     generalize hr2:Rn.bf n (deep+1) b1 els=r2 at HI3 HR2
     cases r2 with
     |inr f=>
      have hf:=Rn.bf_ne n _ _ _ f hr2
      have ff:(f.1 !=0)=true:=by simpa using hf
      change Hid (∀ w1,_→Calls _ _ _ _ fun e w'=> ∃ x:Int,e= .returned (.tuple #[.agg #[.int .i64 f.1,.int .i64 f.2],.int .i64 x])∧_) at HI3
      clear hr2 hf
      go_wp2_with fail
      refine (HI3.out _ (L4.out.alloc _)).mono ?_
      rintro e w6 ⟨x2,rfl,hx2,hk6⟩
      have K6:=hide ((K4.out.alloc _).trans hk6)
      have y0:=(((Kp.refl [] w4).alloc _).trans hk6).some s0 (by simp)
      have y1:=(((Kp.refl [] w4).alloc _).trans hk6).some s1 (by simp)
      have z0:=((((Kp.refl [] w4).alloc _).trans hk6).frozen (p:=⟨w.heap.size,0,none⟩) hbl4 (by simp)).trans t0
      have z1:=((((Kp.refl [] w4).alloc _).trans hk6).frozen (p:=⟨w.heap.size,1,none⟩) hbl4 (by simp)).trans t1
      have u0:=hk6.some (p:=⟨w4.heap.size,0,none⟩) (v:= .int .i64 0) (by simp [go_sem]) (by simp)
      have u1:=hk6.some (p:=⟨w4.heap.size,1,none⟩) (v:= .int .i64 0) (by simp [go_sem]) (by simp)
      have a0:w6.frozen? ⟨w4.heap.size,0,none⟩=false:=(hk6.frozen (p:=⟨w4.heap.size,0,none⟩) (by simp) (by simp)).trans (by simp [go_sem])
      have a1:w6.frozen? ⟨w4.heap.size,1,none⟩=false:=(hk6.frozen (p:=⟨w4.heap.size,1,none⟩) (by simp) (by simp)).trans (by simp [go_sem])
      have hne: ¬ w4.heap.size=w.heap.size:=by omega
      clear hk6
      go_wp2
      refine bodyPost_ret (v:= .tuple #[.agg #[.int .i64 f.1,.int .i64 f.2],.int .i64 x2]) (by simp [results,Tryz.results46,go_sem,y0,y1]) rfl ⟨x2,?_,?_,?_⟩
      ·rw [HR2.out];rfl
      ·intro x hx
       rw [HR2.out] at hx
       have hx':(Sum.inr f:Rn.Bf)= .inl x:=hx
       cases hx'
      ·exact (((K6.out.nb (by omega) _ _).nb (by omega) _ _).nb (by omega) _ _).nb (by omega) _ _
     |inl b2=>
      have hb4:=Rn.bf_le n _ _ _ _ hb3 hr2
      change Hid (∀ w1,_→Calls _ _ _ _ fun e w'=> ∃ x:Int,e= .returned (.tuple #[.agg #[.int .i64 0,.int .i64 0],.int .i64 x])∧_) at HI3
      clear hr2
      go_wp2_with fail
      refine (HI3.out _ (L4.out.alloc _)).mono ?_
      rintro e w6 ⟨x2,rfl,hx2,hk6⟩
      have K6:=hide ((K4.out.alloc _).trans hk6)
      have y0:=(((Kp.refl [] w4).alloc _).trans hk6).some s0 (by simp)
      have y1:=(((Kp.refl [] w4).alloc _).trans hk6).some s1 (by simp)
      have z0:=((((Kp.refl [] w4).alloc _).trans hk6).frozen (p:=⟨w.heap.size,0,none⟩) hbl4 (by simp)).trans t0
      have z1:=((((Kp.refl [] w4).alloc _).trans hk6).frozen (p:=⟨w.heap.size,1,none⟩) hbl4 (by simp)).trans t1
      have u0:=hk6.some (p:=⟨w4.heap.size,0,none⟩) (v:= .int .i64 0) (by simp [go_sem]) (by simp)
      have u1:=hk6.some (p:=⟨w4.heap.size,1,none⟩) (v:= .int .i64 0) (by simp [go_sem]) (by simp)
      have a0:w6.frozen? ⟨w4.heap.size,0,none⟩=false:=(hk6.frozen (p:=⟨w4.heap.size,0,none⟩) (by simp) (by simp)).trans (by simp [go_sem])
      have a1:w6.frozen? ⟨w4.heap.size,1,none⟩=false:=(hk6.frozen (p:=⟨w4.heap.size,1,none⟩) (by simp) (by simp)).trans (by simp [go_sem])
      have hne: ¬ w4.heap.size=w.heap.size:=by omega
      clear hk6
      obtain rfl:x2=(b2:Int):=hx2 b2 rfl
      go_wp2
      go_roundw
      case rel=>exact ⟨k+1,b2,by omega,hb4,by go_num,rfl,HR2.out,(K6.out.nb (by omega) _ _).nb (by omega) _ _,by simp [go_sem,y0],by simp [go_sem,y1],by simp [go_sem,z0],by simp [go_sem,z1]⟩
      case measure=>simp [intOf];omega
   ·have hb1:=HB1.out hC
    have HR:=hide (HV.out.trans HG.out)
    rw [hb1] at HR
    go_wp2_with fail
    refine HC.out.mono ?_
    rintro e w3 ⟨rfl,hk3⟩
    have K3:=hide (HK.out.trans hk3)
    have q0:=hk3.some p0 (by simp)
    have q1:=hk3.some p1 (by simp)
    have g0:=(hk3.frozen (p:=⟨w.heap.size,0,none⟩) hbl (by simp)).trans f0
    have g1:=(hk3.frozen (p:=⟨w.heap.size,1,none⟩) hbl (by simp)).trans f1
    have hbl3:=World.block_lt_of_cell? _ _ q0
    clear hk3
    go_wp2_with fail
    refine (rF_any C m _).mono ?_
    rintro e w5 ⟨rfl,hk5⟩
    have K5:Hid (Kp [] w w5):=K3.out.trans (Kp.of_below hk5)
    have s0:=(show Kp [] w3 w5 from Kp.of_below hk5).some q0 (by simp)
    have s1:=(show Kp [] w3 w5 from Kp.of_below hk5).some q1 (by simp)
    have t0:=((show Kp [] w3 w5 from Kp.of_below hk5).frozen (p:=⟨w.heap.size,0,none⟩) hbl3 (by simp)).trans g0
    have t1:=((show Kp [] w3 w5 from Kp.of_below hk5).frozen (p:=⟨w.heap.size,1,none⟩) hbl3 (by simp)).trans g1
    clear hk5
    go_wp2
    refine bodyPost_ret (v:= .tuple #[.agg #[.int .i64 C,.int .i64 m],.int .i64 m]) (by simp [results,Tryz.results46,go_sem,s0,s1]) rfl ⟨m,?_,?_,?_⟩
    ·rw [HR.out];rfl
    ·intro x hx;rw [HR.out] at hx;cases hx
    ·exact (K5.out.nb (Nat.le_refl _) _ _).nb (Nat.le_refl _) _ _
  ·obtain rfl:k=l.length:=by omega
   have d1:decide ((l.length:Int)<(l.length:Int))=false:=by simp
   rw [List.drop_length] at HV
   go_wp2
   refine bodyPost_ret (v:= .tuple #[.agg #[.int .i64 0,.int .i64 0],.int .i64 m]) (by simp [results,Tryz.results46,go_sem,p0,p1]) rfl ⟨m,?_,?_,?_⟩
   ·rw [HV.out];rfl
   ·intro x hx;rw [HV.out] at hx;cases hx;rfl
   ·exact (HK.out.nb (Nat.le_refl _) _ _).nb (Nat.le_refl _) _ _
theorem stmtsFault_all (n:Nat):SBt n:=by
 induction n with
 |zero=>intro w P l a c num deep _ h;cases h
 |succ n ih=>exact stmtsFault_step n ih
end Go.Proofs.YthcapfojofahkaaGreatDoor
