import Derived.Test.YthcapfojofahkaaGreatDoorMak
import Derived.Deep.RegionHeld3
namespace Go.Proofs.YthcapfojofahkaaGreatDoor
open Go.RowKit
theorem Kn.abv_none {l:List Sx.Tr} {nm:List UInt8} (h:Kn.abi l nm= -1):Kn.abv l nm=none:=by
 induction l with
 |nil=>rfl
 |cons g r ih=>
  unfold Kn.abi at h ih
  unfold Kn.abv
  rw [List.findIdx?_cons] at h
  by_cases e:Sx.gN g=nm
  ·rw [if_pos (by simpa using e)] at h
   exact absurd h (by show ¬ ((0:Nat):Int)= -1;decide)
  ·rw [if_neg (by simpa using e)] at h
   rw [if_neg e]
   refine ih ?_
   cases hx:r.findIdx? (fun g=>Sx.gN g == nm) with
   |none=>rfl
   |some k=>rw [hx] at h;simp at h;omega
theorem Kn.abv_some {l:List Sx.Tr} {nm:List UInt8} (h:Kn.abi l nm ≠ -1): ∃ (k:Nat) (g:Sx.Tr),Kn.abi l nm=k∧l[k]? =some g∧Kn.abv l nm=some g:=by
 induction l with
 |nil=>exact absurd rfl h
 |cons g r ih=>
  unfold Kn.abi at h ih ⊢
  unfold Kn.abv
  rw [List.findIdx?_cons] at h ⊢
  by_cases e:Sx.gN g=nm
  ·rw [if_pos (by simpa using e),if_pos e]
   exact ⟨0,g,rfl,rfl,rfl⟩
  ·rw [if_neg (by simpa using e)] at h ⊢
   rw [if_neg e]
   cases hx:r.findIdx? (fun g=>Sx.gN g == nm) with
   |none=>rw [hx] at h;exact absurd rfl h
   |some k=>
    rw [hx] at ih
    obtain ⟨k',g',h1,h2,h3⟩:=ih (by show ((k:Nat):Int) ≠ -1;omega)
    have h1':(k:Int)=(k':Int):=h1
    have hkk:k=k':=by omega
    subst hkk
    exact ⟨k+1,g',rfl,h2,h3⟩
theorem Kn.flt_thgs (n:Nat) (ns:List Kn.Nv) (f:Int × Int) (d:Sx.Tr) (r:List Sx.Tr) (ty:List UInt8) (s:List (List UInt8)) (t:Nat):Kn.flt f (Kn.thgs n ns (d::r) (ty::s)) t=Kn.flt (Kn.flt f (Kn.thg n ns d ty) t) (Kn.thgs n ns r s) t:=by
 rw [Kn.flt_flt]
 rfl
set_option maxRecDepth 100000 in
set_option maxHeartbeats 2000000 in
theorem stt_10:SttT 10:=by
 intro c m q w P at' A B T N E body els aE cE uB uL nv bv ns bd t f hE hG hi hll hP hl hlen hps hT hf h6 hns
 obtain ⟨m,rfl⟩: ∃ k,m=k+1:=by cases m with
  |zero=>cases hE
  |succ m=>exact ⟨m,rfl⟩
 have HS:=hide hE
 have H:=hide hns
 have hg:=hns.lt
 have hf5:=hns.c5
 rw [hf] at hf5
 have HLn:=hide hl
 have HBd:Hid (∀ w',Calls Tryz.prog 60 #[.int .i64 10] w' fun e w''=>e= .returned (.bool false)∧w''=w'):=hide (fun w'=>binding_any 10 w')
 have HW:=hide (fun (k:Int) (hk:k ≠ 0) w' h=>nmWrong_any c w' nv bv ns bd t f k hk h)
 clear hE hns hl
 have htw:Kn.twice bd (Sx.tS 10 at' A B T N E body els)=false:=rfl
 have HAb:=hide (fun w' h1 (h2:NS c w' nv bv ns bd t f)=>nmAbove_any c q w' P A nv bv ns bd t f h1 hi hll h2)
 have HG:=hide hG
 have hs:Kn.sc (m+1) (c.l.take c.i) ns bd (Sx.tS 10 at' A B T N E body els)=match Kn.abv (c.l.take c.i) A with
   |none=>12
   |some g=>if (Sx.gP g).length ≠ E.length then 15 else Kn.thgs (m+1) ns E ((Sx.gP g).map fun p=>(Sx.pH p).2):=by
  show (if Kn.twice bd (Sx.tS 10 at' A B T N E body els) then (9:Int) else if Kn.usedF ns (Sx.tS 10 at' A B T N E body els) ≠ 0 then Kn.usedF ns (Sx.tS 10 at' A B T N E body els) else Kn.rest (m+1) (c.l.take c.i) ns (Sx.tS 10 at' A B T N E body els))=_
  rw [htw,if_neg (by simp),if_neg (by show ¬ ((0:Int) ≠ 0);simp)]
  rfl
 rw [hs]
 have cc0:=H.out.c0
 clear hs htw hG
 by_cases hab:Kn.abi (c.l.take c.i) A= -1
 ·rw [Kn.abv_none hab]
  rw [hab] at HAb
  go_enter Tryz.func42,Tryz.ntmps42
  go_wp2_with fail
  refine (HBd.out _).mono ?_
  rintro e w1 ⟨rfl,rfl⟩
  go_wp2_with fail
  refine (HAb.out _ (HG.out.keep ((Kp.refl [] w).alloc _) (by simp) (fun d c h=>h.keep ((Kp.refl [] w).alloc _) (by simp))) (H.out.alloc _)).mono ?_
  rintro e w1 ⟨rfl,j1,rfl⟩
  go_wp2_with fail
  refine (HW.out 12 (by decide) _ ((H.out.alloc _).drewN _)).mono ?_
  rintro e w2 ⟨rfl,h2,k2⟩
  have H2:=hide h2
  have K2:=hide ((((Kp.refl [c.g] w).alloc _).drewN _).trans k2)
  clear h2 k2
  go_wp2
  go_ret
  exact ⟨[],rfl,fun h=>absurd h (by decide),H2.out,K2.out⟩
 obtain ⟨k,g,hk1,hk2,hk3⟩:=Kn.abv_some hab
 rw [hk3]
 rw [hk1] at HAb
 have hkl:k<c.l.length∧c.l[k]? =some g:=by
  rw [List.getElem?_take] at hk2
  split at hk2
  ·exact ⟨(List.getElem?_eq_some_iff.1 hk2).1,hk2⟩
  ·cases hk2
 obtain ⟨hkl,hkg⟩:=hkl
 clear hk1 hk2 hk3 hab
 obtain ⟨b,off,nm',at1,ps,body1,uP,uB1,hsa,hPb,hd,m0,m1,m2,m3,hPs,hB⟩:=GL.nth HG.out k hkl
 obtain rfl:g=Sx.tG nm' at1 ps body1:=by rw [hkg] at hd;exact Option.some.inj hd
 obtain ⟨aP,cP,rfl,hpp⟩:=id hPs
 have hPQ:ps=[]∨ ∃ b off,aP=some ⟨b,off,none⟩∧P b:=hpp.imp id (fun ⟨b,off,cs,h1,h2,_⟩=>⟨b,off,h1,h2⟩)
 clear hpp
 have hpl:ps.length≤1000000:=hps k _ hkg
 clear hB hd hkg
 have hbg:b ∉ [c.g]:=by simp only [List.mem_singleton];intro h;subst h;exact hP hPb
 have hki0:(0:Int)≤(k:Int):=by omega
 have hki1:(k:Int)<(c.l.length:Int):=by omega
 rw [hsa] at cc0
 show Calls _ _ _ _ fun e w'=> ∃ s,e= .returned (.string (bs s))∧((if ps.length ≠ E.length then (15:Int) else Kn.thgs (m+1) ns E (ps.map fun p=>(Sx.pH p).2))=0→s=Kn.oft ns 10 A B)∧NS c w' nv bv ns bd t (Kn.flt f (if ps.length ≠ E.length then (15:Int) else Kn.thgs (m+1) ns E (ps.map fun p=>(Sx.pH p).2)) t)∧Kp [c.g] w w'
 by_cases hln:ps.length=E.length
 ·rw [if_neg (by simpa using hln)]
  have qn:((ps.length:Int) == (E.length:Int))=true:=by simp;omega
  go_enter Tryz.func42,Tryz.ntmps42
  go_wp2_with fail
  refine (HBd.out _).mono ?_
  rintro e w1 ⟨rfl,rfl⟩
  go_wp2_with fail
  refine (HAb.out _ (HG.out.keep ((Kp.refl [] w).alloc _) (by simp) (fun d c h=>h.keep ((Kp.refl [] w).alloc _) (by simp))) (H.out.alloc _)).mono ?_
  rintro e w1 ⟨rfl,hex⟩
  have ka:Kp [] (w.alloc (.cells #[.int .i64 10,.int .i64 at',.string (bs A),.string (bs B),.string (bs T),.int .i64 N,.slice aE E.length cE,uB,uL] 51)) w1:=by obtain ⟨j,rfl⟩:=hex;exact (Kp.refl _ _).drewN j
  have h1:=(H.out.alloc _).keep ka (by simp)
  have p1:BX w.heap.size w1 10 N A B T (.slice aE E.length cE):=BX.keep (g:=c.g) ⟨by simp [go_sem],by simp [go_sem],by simp [go_sem],by simp [go_sem],by simp [go_sem],by simp [go_sem]⟩ (ka.mono (by simp)) (by omega)
  have k1:Kp [] w w1:=((Kp.refl [] w).alloc _).trans ka
  have n2:=k1.some m2 (by simp)
  have d0:=k1.some cc0 (by simp)
  have H1:=hide h1
  have K1:Hid (Kp [c.g] w w1):=hide (k1.mono (by simp))
  have HPs:=hide (hPs.keep k1 (by simp) (fun d c h=>h))
  obtain ⟨q0,q2,q3,q4,q5,q6⟩:=p1
  clear hex ka h1 k1 m0 m1 m2 m3 hPs
  go_wp2
  go_loopw [8] (fun iv wr=> ∃ (i:Nat) (fk:Int × Int),i≤ps.length∧iv= .int .i64 i∧Hid (NS c wr nv bv ns bd t fk)∧Hid (Kn.flt f (Kn.thgs (m+1) ns E (ps.map fun p=>(Sx.pH p).2)) t=Kn.flt fk (Kn.thgs (m+1) ns (E.drop i) ((ps.drop i).map fun p=>(Sx.pH p).2)) t)∧Hid (Kp [c.g] w wr)∧Hid (Kp [c.g] w1 wr)∧wr.cell? ⟨w.heap.size,6,none⟩=some (.slice aE E.length cE)) (fun iv _=>ps.length - (intOf iv).toNat)
  case atStart=>exact ⟨0,f,Nat.zero_le _,rfl,H1,rfl,K1,hide (Kp.refl _ _),q6⟩
  case round=>
   obtain ⟨i,fk,hile,rfl,HN,HF,HK,HK1,hp⟩:=hrel
   by_cases hlt:i<ps.length
   ·have d1:decide ((i:Int)<(ps.length:Int))=true:=by simp;omega
    obtain ⟨b1,off1,op1,nm1,z1,L1,aL,cL,rfl,hPb1,hd,v0,v1,v2,v3,hL⟩:=(HS.out.keep HK.out (by simpa using hP)).nth i (by omega)
    obtain ⟨b2,off2,nm2,T2,rfl,hd2,y0,y1⟩:=(HPs.out.keep HK1.out (by simpa using hP) (fun d c h=>h)).nthK i hlt
    have hb2:b2 ∉ [c.g]:=by
     simp only [List.mem_singleton]
     intro h
     subst h
     rcases hPQ with h|⟨b',off',h3,h4⟩
     ·rw [h] at hlt;simp at hlt
     ·cases h3;exact hP h4
    have hbg1:b1 ∉ [c.g]:=by simp only [List.mem_singleton];intro h;subst h;exact hP hPb1
    have hbx:w.heap.size ∉ [c.g]:=by simp only [List.mem_singleton];omega
    have HLL:=hide (HLn.out i _ hd)
    have HL:=hide hL
    have HTK:=hide (fun w' (hk:Kp [] wr w')=>nmThing_any c m w' P op1 z1 nm1 T2 L1 aL cL nv bv ns bd t fk (HL.out.keep hk (by simp)) hP HLL.out (HN.out.keep hk (by simp)))
    have HDR:=hide (drop_nth hd)
    have HDR2:=hide (drop_nth hd2)
    have hk0:(0:Int)≤(i:Int):=by omega
    have hk1:(i:Int)<(E.length:Int):=by omega
    have hk2:(i:Int)<(ps.length:Int):=by omega
    clear hL hd hd2
    go_wp2
    go_region_held3 (fun w'=>w'.cell? ⟨w.heap.size,6,none⟩=some (.slice (some ⟨b1,off1,none⟩) E.length cE)∧w'.cell? ⟨b1,off1+i * 4,none⟩=some (.int .i64 op1)∧w'.cell? ⟨b1,off1+i * 4+1,none⟩=some (.string (bs nm1))∧w'.cell? ⟨b1,off1+i * 4+2,none⟩=some (.int .i64 z1)∧w'.cell? ⟨b1,off1+i * 4+3,none⟩=some (.slice aL L1.length cL)∧w'.cell? ⟨b2,off2+i * 2+1,none⟩=some (.string (bs T2))) ((first|exact ⟨by assumption,by assumption,by assumption,by assumption,by assumption,by assumption⟩|go_keep))
     ((go_at_call 63;refine (HTK.out _ (by exact ⟨rfl,rfl,rfl,Nat.le_refl _,fun _ _ _=>rfl⟩)).mono ?_;rintro e w2 ⟨rfl,h2,k2⟩;have H2:=hide h2;have kk:Kp [c.g] wr w2:=⟨k2.os,k2.tape,k2.output,k2.size,k2.block⟩;have K2:Hid (Kp [c.g] w w2):=hide (HK.out.trans kk);have K3:Hid (Kp [c.g] w1 w2):=hide (HK1.out.trans kk);have s6:=kk.some hp hbx;have s0:=kk.some v0 hbg1;have s1:=kk.some v1 hbg1;have s2:=kk.some v2 hbg1;have s3:=kk.some v3 hbg1;have s4:=kk.some y1 hb2;clear h2 k2 kk))
    all_goals
     go_wp2
     go_roundw
     case rel=>exact ⟨i+1,_,by omega,by go_num,H2,hide (by rw [HF.out,HDR.out,HDR2.out,List.map_cons,Kn.flt_thgs];rfl),K2,K3,s6⟩
     case measure=>simp [intOf];omega
   ·obtain rfl:i=ps.length:=by omega
    have d1:decide ((ps.length:Int)<(ps.length:Int))=false:=by simp
    go_wp2
    go_ret
    refine ⟨[],rfl,fun _=>rfl,?_,HK.out⟩
    rw [HF.out,hln,List.drop_length]
    show NS _ _ _ _ _ _ _ (Kn.flt fk 0 t)
    rw [Kn.flt_zero]
    exact HN.out
 ·rw [if_pos (by simpa using hln)]
  have qn:((ps.length:Int) == (E.length:Int))=false:=by simp;omega
  go_enter Tryz.func42,Tryz.ntmps42
  go_wp2_with fail
  refine (HBd.out _).mono ?_
  rintro e w1 ⟨rfl,rfl⟩
  go_wp2_with fail
  refine (HAb.out _ (HG.out.keep ((Kp.refl [] w).alloc _) (by simp) (fun d c h=>h.keep ((Kp.refl [] w).alloc _) (by simp))) (H.out.alloc _)).mono ?_
  rintro e w1 ⟨rfl,hex⟩
  have ka:Kp [] (w.alloc (.cells #[.int .i64 10,.int .i64 at',.string (bs A),.string (bs B),.string (bs T),.int .i64 N,.slice aE E.length cE,uB,uL] 51)) w1:=by obtain ⟨j,rfl⟩:=hex;exact (Kp.refl _ _).drewN j
  have h1:=(H.out.alloc _).keep ka (by simp)
  have p1:BX w.heap.size w1 10 N A B T (.slice aE E.length cE):=BX.keep (g:=c.g) ⟨by simp [go_sem],by simp [go_sem],by simp [go_sem],by simp [go_sem],by simp [go_sem],by simp [go_sem]⟩ (ka.mono (by simp)) (by omega)
  have k1:Kp [] w w1:=((Kp.refl [] w).alloc _).trans ka
  have n2:=k1.some m2 (by simp)
  have d0:=k1.some cc0 (by simp)
  have H1:=hide h1
  have K1:Hid (Kp [c.g] w w1):=hide (k1.mono (by simp))
  have HPs:=hide (hPs.keep k1 (by simp) (fun d c h=>h))
  obtain ⟨q0,q2,q3,q4,q5,q6⟩:=p1
  clear hex ka h1 k1 m0 m1 m2 m3 hPs
  go_wp2_with fail
  refine (HW.out 15 (by decide) _ H1.out).mono ?_
  rintro e w2 ⟨rfl,h2,k2⟩
  have H2:=hide h2
  have K2:=hide (K1.out.trans k2)
  clear h2 k2
  go_wp2
  go_ret
  exact ⟨[],rfl,fun h=>absurd h (by decide),H2.out,K2.out⟩
end Go.Proofs.YthcapfojofahkaaGreatDoor
