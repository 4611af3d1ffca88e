import Derived.Test.YthcapfojofahkaaGreatDoorMak
import Derived.Deep.RegionHeld3
import Derived.Test.YthcapfojofahkaaGreatDoorMal
import Derived.Test.YthcapfojofahkaaGreatDoorMam
import Derived.Test.YthcapfojofahkaaGreatDoorMbe
namespace Go.Proofs.YthcapfojofahkaaGreatDoor
open Go.RowKit
set_option maxRecDepth 100000 in
set_option maxHeartbeats 2000000 in
theorem stt_2:SttT 2:=by
 intro c m q w P at' A B T N E body els aE cE uB uL nv bv ns bd t f hE hG hi hll hP hl hlen hps hT hf h6 hns
 obtain ⟨m,rfl⟩: ∃ k,m=k+1:=by cases m with
  |zero=>cases hE
  |succ m=>exact ⟨m,rfl⟩
 have HS:=hide hE
 have H:=hide hns
 have hg:=hns.lt
 have hf5:=hns.c5
 rw [hf] at hf5
 have HLn:=hide hl
 have HBd:Hid (∀ w',Calls Tryz.prog 60 #[.int .i64 2] w' fun e w''=>e= .returned (.bool false)∧w''=w'):=hide (fun w'=>binding_any 2 w')
 have HW:=hide (fun (k:Int) (hk:k ≠ 0) w' h=>nmWrong_any c w' nv bv ns bd t f k hk h)
 clear hE hns hl
 have htw:Kn.twice bd (Sx.tS 2 at' A B T N E body els)=false:=rfl
 have hu:Kn.usedF ns (Sx.tS 2 at' A B T N E body els)=Kn.mst ns A 105:=rfl
 have HM:=hide (fun w' h=>nmMust_any c w' nv bv ns bd t f A 105 h)
 by_cases h0:Kn.mst ns A 105=0
 ·have hs:Kn.sc (m+1) (c.l.take c.i) ns bd (Sx.tS 2 at' A B T N E body els)=Rn.firstOf (Kn.num (m+1) ns) E:=by
   show (if Kn.twice bd (Sx.tS 2 at' A B T N E body els) then (9:Int) else if Kn.usedF ns (Sx.tS 2 at' A B T N E body els) ≠ 0 then Kn.usedF ns (Sx.tS 2 at' A B T N E body els) else Kn.rest (m+1) (c.l.take c.i) ns (Sx.tS 2 at' A B T N E body els))=_
   rw [htw,hu,if_neg (by simp),if_neg (by simpa using h0)]
   rfl
  rw [hs]
  rw [h0,Kn.flt_zero,mst_ty h0] at HM
  clear hs hu htw
  go_enter Tryz.func42,Tryz.ntmps42
  go_wp2_with fail
  refine (HBd.out _).mono ?_
  rintro e w1 ⟨rfl,rfl⟩
  go_wp2_with fail
  refine (HM.out _ (H.out.alloc _)).mono ?_
  rintro e w1 ⟨rfl,h1,k1⟩
  have K1:=hide (((Kp.refl [c.g] w).alloc _).trans k1)
  have p1:BX w.heap.size w1 2 N A B T (.slice aE E.length cE):=BX.keep ⟨by simp [go_sem],by simp [go_sem],by simp [go_sem],by simp [go_sem],by simp [go_sem],by simp [go_sem]⟩ k1 (by omega)
  have H1:=hide h1
  have x5:=h1.c5
  rw [hf] at x5
  obtain ⟨q0,q2,q3,q4,q5,q6⟩:=p1
  clear h1 k1
  go_wp2
  go_loopw [9] (fun iv wr=> ∃ (i:Nat) (fk:Int × Int),i≤E.length∧iv= .int .i64 i∧Hid (NS c wr nv bv ns bd t fk)∧Hid (Kn.flt f (Rn.firstOf (Kn.num (m+1) ns) E) t=Kn.flt fk (Rn.firstOf (Kn.num (m+1) ns) (E.drop i)) t)∧Hid (Kp [c.g] w wr)∧wr.cell? ⟨w.heap.size,6,none⟩=some (.slice aE E.length cE)) (fun iv _=>E.length - (intOf iv).toNat)
  case atStart=>exact ⟨0,f,Nat.zero_le _,rfl,H1,rfl,K1,q6⟩
  case round=>
   obtain ⟨i,fk,hi,rfl,HN,HF,HK,hp⟩:=hrel
   by_cases hlt:i<E.length
   ·have d1:decide ((i:Int)<(E.length:Int))=true:=by simp;omega
    obtain ⟨b,off,op1,nm1,z1,L1,aL,cL,rfl,-,hd,m0,m1,m2,m3,hL⟩:=(HS.out.keep HK.out (by simpa using hP)).nth i hlt
    have HC:=hide (fun hll=>number_any c _ _ P op1 z1 nm1 L1 aL cL nv bv ns bd t fk hL hP hll HN.out)
    have HLL:=hide (HLn.out i _ hd)
    have HDR:=hide (drop_nth hd)
    have hk0:(0:Int)≤(i:Int):=by omega
    have hk1:(i:Int)<(E.length:Int):=by omega
    clear hL hd
    go_wp2_with fail
    refine (HC.out HLL.out).mono ?_
    rintro e w2 ⟨rfl,h2,k2⟩
    have c8:w2.cell? ⟨w.heap.size,6,none⟩=some (.slice (some ⟨b,off,none⟩) E.length cE):=k2.some hp (by simp;omega)
    have H2:=hide h2
    have K2:=hide (HK.out.trans k2)
    clear h2 k2
    go_wp2
    go_roundw
    case rel=>exact ⟨i+1,_,by omega,by go_num,H2,hide (by rw [HF.out,HDR.out,Kn.flt_first]),K2,c8⟩
    case measure=>simp [intOf];omega
   ·obtain rfl:i=E.length:=by omega
    have d1:decide ((E.length:Int)<(E.length:Int))=false:=by simp
    go_wp2
    go_ret
    refine ⟨[],rfl,fun _=>rfl,?_,HK.out⟩
    rw [HF.out,List.drop_length]
    show NS _ _ _ _ _ _ _ (Kn.flt fk 0 t)
    rw [Kn.flt_zero]
    exact HN.out
 ·have hs:Kn.sc (m+1) (c.l.take c.i) ns bd (Sx.tS 2 at' A B T N E body els)=Kn.mst ns A 105:=by
   show (if Kn.twice bd (Sx.tS 2 at' A B T N E body els) then (9:Int) else if Kn.usedF ns (Sx.tS 2 at' A B T N E body els) ≠ 0 then Kn.usedF ns (Sx.tS 2 at' A B T N E body els) else Kn.rest (m+1) (c.l.take c.i) ns (Sx.tS 2 at' A B T N E body els))=_
   rw [htw,hu,if_neg (by simp),if_pos h0]
  rw [hs]
  have ef:=Kn.flt_one (t:=t) hf h0
  rw [ef]
  rw [ef,mst_tn h0] at HM
  have dz:(Kn.mst ns A 105 == 0)=false:=by simpa using h0
  clear hs hu htw
  go_enter Tryz.func42,Tryz.ntmps42
  go_wp2_with fail
  refine (HBd.out _).mono ?_
  rintro e w1 ⟨rfl,rfl⟩
  go_wp2_with fail
  refine (HM.out _ (H.out.alloc _)).mono ?_
  rintro e w1 ⟨rfl,h1,k1⟩
  have K1:=hide (((Kp.refl [c.g] w).alloc _).trans k1)
  have p1:BX w.heap.size w1 2 N A B T (.slice aE E.length cE):=BX.keep ⟨by simp [go_sem],by simp [go_sem],by simp [go_sem],by simp [go_sem],by simp [go_sem],by simp [go_sem]⟩ k1 (by omega)
  have H1:=hide h1
  have x5:=h1.c5
  obtain ⟨q0,q2,q3,q4,q5,q6⟩:=p1
  clear h1 k1
  go_wp2
  go_ret
  exact ⟨[],rfl,fun h=>absurd h h0,H1.out,K1.out⟩
set_option maxRecDepth 100000 in
set_option maxHeartbeats 2000000 in
theorem stt_3:SttT 3:=by
 intro c m q w P at' A B T N E body els aE cE uB uL nv bv ns bd t f hE hG hi hll hP hl hlen hps hT hf h6 hns
 obtain ⟨m,rfl⟩: ∃ k,m=k+1:=by cases m with
  |zero=>cases hE
  |succ m=>exact ⟨m,rfl⟩
 have HS:=hide hE
 have H:=hide hns
 have hg:=hns.lt
 have hf5:=hns.c5
 rw [hf] at hf5
 have HLn:=hide hl
 have HBd:Hid (∀ w',Calls Tryz.prog 60 #[.int .i64 3] w' fun e w''=>e= .returned (.bool false)∧w''=w'):=hide (fun w'=>binding_any 3 w')
 have HW:=hide (fun (k:Int) (hk:k ≠ 0) w' h=>nmWrong_any c w' nv bv ns bd t f k hk h)
 clear hE hns hl
 have htw:Kn.twice bd (Sx.tS 3 at' A B T N E body els)=false:=rfl
 have hs:Kn.sc (m+1) (c.l.take c.i) ns bd (Sx.tS 3 at' A B T N E body els)=Rn.firstOf (Kn.num (m+1) ns) E:=by
  show (if Kn.twice bd (Sx.tS 3 at' A B T N E body els) then (9:Int) else if Kn.usedF ns (Sx.tS 3 at' A B T N E body els) ≠ 0 then Kn.usedF ns (Sx.tS 3 at' A B T N E body els) else Kn.rest (m+1) (c.l.take c.i) ns (Sx.tS 3 at' A B T N E body els))=_
  rw [htw,if_neg (by simp),if_neg (by show ¬ ((0:Int) ≠ 0);simp)]
  rfl
 rw [hs]
 clear hs htw
 go_enter Tryz.func42,Tryz.ntmps42
 go_wp2_with fail
 refine (HBd.out _).mono ?_
 rintro e w1 ⟨rfl,rfl⟩
 go_wp2
 go_loopw [9] (fun iv wr=> ∃ (i:Nat) (fk:Int × Int),i≤E.length∧iv= .int .i64 i∧Hid (NS c wr nv bv ns bd t fk)∧Hid (Kn.flt f (Rn.firstOf (Kn.num (m+1) ns) E) t=Kn.flt fk (Rn.firstOf (Kn.num (m+1) ns) (E.drop i)) t)∧Hid (Kp [c.g] w wr)∧wr.cell? ⟨w.heap.size,6,none⟩=some (.slice aE E.length cE)) (fun iv _=>E.length - (intOf iv).toNat)
 case atStart=>exact ⟨0,f,Nat.zero_le _,rfl,hide (H.out.alloc _),rfl,hide ((Kp.refl [c.g] w).alloc _),by simp [go_sem]⟩
 case round=>
  obtain ⟨i,fk,hi,rfl,HN,HF,HK,hp⟩:=hrel
  by_cases hlt:i<E.length
  ·have d1:decide ((i:Int)<(E.length:Int))=true:=by simp;omega
   obtain ⟨b,off,op1,nm1,z1,L1,aL,cL,rfl,-,hd,m0,m1,m2,m3,hL⟩:=(HS.out.keep HK.out (by simpa using hP)).nth i hlt
   have HC:=hide (fun hll=>number_any c _ _ P op1 z1 nm1 L1 aL cL nv bv ns bd t fk hL hP hll HN.out)
   have HLL:=hide (HLn.out i _ hd)
   have HDR:=hide (drop_nth hd)
   have hk0:(0:Int)≤(i:Int):=by omega
   have hk1:(i:Int)<(E.length:Int):=by omega
   clear hL hd
   go_wp2_with fail
   refine (HC.out HLL.out).mono ?_
   rintro e w2 ⟨rfl,h2,k2⟩
   have c8:w2.cell? ⟨w.heap.size,6,none⟩=some (.slice (some ⟨b,off,none⟩) E.length cE):=k2.some hp (by simp;omega)
   have H2:=hide h2
   have K2:=hide (HK.out.trans k2)
   clear h2 k2
   go_wp2
   go_roundw
   case rel=>exact ⟨i+1,_,by omega,by go_num,H2,hide (by rw [HF.out,HDR.out,Kn.flt_first]),K2,c8⟩
   case measure=>simp [intOf];omega
  ·obtain rfl:i=E.length:=by omega
   have d1:decide ((E.length:Int)<(E.length:Int))=false:=by simp
   go_wp2
   go_ret
   refine ⟨[],rfl,fun _=>rfl,?_,HK.out⟩
   rw [HF.out,List.drop_length]
   show NS _ _ _ _ _ _ _ (Kn.flt fk 0 t)
   rw [Kn.flt_zero]
   exact HN.out
set_option maxRecDepth 100000 in
set_option maxHeartbeats 2000000 in
theorem stt_6:SttT 6:=by
 intro c m q w P at' A B T N E body els aE cE uB uL nv bv ns bd t f hE hG hi hll hP hl hlen hps hT hf h6 hns
 obtain ⟨m,rfl⟩: ∃ k,m=k+1:=by cases m with
  |zero=>cases hE
  |succ m=>exact ⟨m,rfl⟩
 have HS:=hide hE
 have H:=hide hns
 have hg:=hns.lt
 have hf5:=hns.c5
 rw [hf] at hf5
 have HLn:=hide hl
 have HBd:Hid (∀ w',Calls Tryz.prog 60 #[.int .i64 6] w' fun e w''=>e= .returned (.bool false)∧w''=w'):=hide (fun w'=>binding_any 6 w')
 have HW:=hide (fun (k:Int) (hk:k ≠ 0) w' h=>nmWrong_any c w' nv bv ns bd t f k hk h)
 clear hE hns hl
 have htw:Kn.twice bd (Sx.tS 6 at' A B T N E body els)=false:=rfl
 have hu:Kn.usedF ns (Sx.tS 6 at' A B T N E body els)=Kn.mst ns A 115:=rfl
 have HM:=hide (fun w' h=>nmMust_any c w' nv bv ns bd t f A 115 h)
 by_cases h0:Kn.mst ns A 115=0
 ·obtain ⟨y,r,hy⟩: ∃ y r,Kn.typ ns A=y::r:=by
   refine List.exists_cons_of_ne_nil (fun hn=> ?_)
   unfold Kn.mst at h0
   rw [if_pos hn] at h0
   exact absurd h0 (by decide)
  have hE0:0<E.length:=List.length_pos_iff.2 (h6 rfl)
  obtain ⟨b,off,op1,nm1,z1,L1,aL,cL,rfl,hPb,hd,m0,m1,m2,m3,hL⟩:=HS.out.nth 0 hE0
  have hbg:b ∉ [c.g]:=by simp only [List.mem_singleton];intro h;subst h;exact hP hPb
  have hs:Kn.sc (m+1) (c.l.take c.i) ns bd (Sx.tS 6 at' A B T N E body els)=Kn.thg (m+1) ns (Sx.tE op1 nm1 z1 L1) r:=by
   show (if Kn.twice bd (Sx.tS 6 at' A B T N E body els) then (9:Int) else if Kn.usedF ns (Sx.tS 6 at' A B T N E body els) ≠ 0 then Kn.usedF ns (Sx.tS 6 at' A B T N E body els) else Kn.rest (m+1) (c.l.take c.i) ns (Sx.tS 6 at' A B T N E body els))=_
   rw [htw,hu,if_neg (by simp),if_neg (by simpa using h0)]
   show Kn.thg (m+1) ns (E.headD Sx.d0) (Kn.typ ns A).tail=_
   rw [hy,List.headD_eq_head?_getD,List.head?_eq_getElem?,hd]
   rfl
  rw [hs]
  rw [h0,Kn.flt_zero,mst_ty h0,hy] at HM
  have HLL:=hide (HLn.out 0 _ hd)
  have HT:=hide (fun w' h1 h2=>nmThing_any c m w' P op1 z1 nm1 r L1 aL cL nv bv ns bd t f h1 hP HLL.out h2)
  have HL:=hide hL
  have ez:((bs (y::r)).size:Int)=(r.length:Int)+1:=by rw [bsz];rfl
  have ex:(bs (y::r)).extract 1 (bs (y::r)).size=bs r:=by
   have:=bs_idK ((bs (y::r)).extract 1 (bs (y::r)).size)
   rw [←this]
   congr 1
   rw [←Lib.toList_data,bsx,bsz]
   simp
  have z1':(0:Int)≤1:=by decide
  have z2:(1:Int)≤(r.length:Int)+1:=by omega
  have hk1:(0:Int)<(E.length:Int):=by omega
  have hoft:y::r=Kn.oft ns 6 A B:=by rw [←hy];rfl
  clear hs hu htw hL hd hy
  generalize hsb:bs (y::r)=s at *
  have HSB:=hide hsb
  clear hsb
  go_enter Tryz.func42,Tryz.ntmps42
  go_wp2_with fail
  refine (HBd.out _).mono ?_
  rintro e w1 ⟨rfl,rfl⟩
  go_wp2_with fail
  refine (HM.out _ (H.out.alloc _)).mono ?_
  rintro e w1 ⟨rfl,h1,k1⟩
  have K1:=hide (((Kp.refl [c.g] w).alloc _).trans k1)
  have p1:BX w.heap.size w1 6 N A B T (.slice (some ⟨b,off,none⟩) E.length cE):=BX.keep ⟨by simp [go_sem],by simp [go_sem],by simp [go_sem],by simp [go_sem],by simp [go_sem],by simp [go_sem]⟩ k1 (by omega)
  have H1:=hide h1
  have x5:=h1.c5
  rw [hf] at x5
  obtain ⟨q0,q2,q3,q4,q5,q6⟩:=p1
  have n0:=K1.out.some m0 hbg
  have n1:=K1.out.some m1 hbg
  have n2:=K1.out.some m2 hbg
  have n3:=K1.out.some m3 hbg
  rw [Nat.zero_mul,Nat.add_zero] at n0 n1 n2 n3
  clear h1 k1 m0 m1 m2 m3
  have HTK:=hide (fun w' (hk:Kp [] w1 w')=>HT.out w' (HL.out.keep (K1.out.trans (hk.mono (by simp))) (by simpa using hP)) (H1.out.keep hk (by simp)))
  have hbx:w.heap.size ∉ [c.g]:=by simp only [List.mem_singleton];omega
  clear HT HL
  go_wp2
  go_region_held3 (fun w'=>w'.cell? ⟨w.heap.size,6,none⟩=some (.slice (some ⟨b,off,none⟩) E.length cE)∧w'.cell? ⟨b,off,none⟩=some (.int .i64 op1)∧w'.cell? ⟨b,off+1,none⟩=some (.string (bs nm1))∧w'.cell? ⟨b,off+2,none⟩=some (.int .i64 z1)∧w'.cell? ⟨b,off+3,none⟩=some (.slice aL L1.length cL)) ((first|exact ⟨by assumption,by assumption,by assumption,by assumption,by assumption⟩|go_keep))
   ((go_at_call 63;refine (HTK.out _ (by exact ⟨rfl,rfl,rfl,Nat.le_refl _,fun _ _ _=>rfl⟩)).mono ?_;rintro e w2 ⟨rfl,h2,k2⟩;have H2:=hide h2;have kk:Kp [c.g] w1 w2:=⟨k2.os,k2.tape,k2.output,k2.size,k2.block⟩;have K2:Hid (Kp [c.g] w w2):=hide (K1.out.trans kk);have s6:=kk.some q6 hbx;have s0:=kk.some n0 hbg;have s1:=kk.some n1 hbg;have s2:=kk.some n2 hbg;have s3:=kk.some n3 hbg;clear h2 k2 kk))
  all_goals
   go_wp2
   go_ret
   exact ⟨y::r,by rw [HSB.out];rfl,fun _=>hoft,H2.out,K2.out⟩
 ·have hs:Kn.sc (m+1) (c.l.take c.i) ns bd (Sx.tS 6 at' A B T N E body els)=Kn.mst ns A 115:=by
   show (if Kn.twice bd (Sx.tS 6 at' A B T N E body els) then (9:Int) else if Kn.usedF ns (Sx.tS 6 at' A B T N E body els) ≠ 0 then Kn.usedF ns (Sx.tS 6 at' A B T N E body els) else Kn.rest (m+1) (c.l.take c.i) ns (Sx.tS 6 at' A B T N E body els))=_
   rw [htw,hu,if_neg (by simp),if_pos h0]
  rw [hs]
  have ef:=Kn.flt_one (t:=t) hf h0
  rw [ef]
  rw [ef,mst_tn h0] at HM
  have dz:(Kn.mst ns A 115 == 0)=false:=by simpa using h0
  clear hs hu htw
  go_enter Tryz.func42,Tryz.ntmps42
  go_wp2_with fail
  refine (HBd.out _).mono ?_
  rintro e w1 ⟨rfl,rfl⟩
  go_wp2_with fail
  refine (HM.out _ (H.out.alloc _)).mono ?_
  rintro e w1 ⟨rfl,h1,k1⟩
  have K1:=hide (((Kp.refl [c.g] w).alloc _).trans k1)
  have p1:BX w.heap.size w1 6 N A B T (.slice aE E.length cE):=BX.keep ⟨by simp [go_sem],by simp [go_sem],by simp [go_sem],by simp [go_sem],by simp [go_sem],by simp [go_sem]⟩ k1 (by omega)
  have H1:=hide h1
  have x5:=h1.c5
  obtain ⟨q0,q2,q3,q4,q5,q6⟩:=p1
  clear h1 k1
  go_wp2
  go_ret
  exact ⟨[],rfl,fun h=>absurd h h0,H1.out,K1.out⟩
set_option maxRecDepth 100000 in
set_option maxHeartbeats 2000000 in
theorem stt_9:SttT 9:=by
 intro c m q w P at' A B T N E body els aE cE uB uL nv bv ns bd t f hE hG hi hll hP hl hlen hps hT hf h6 hns
 obtain ⟨m,rfl⟩: ∃ k,m=k+1:=by cases m with
  |zero=>cases hE
  |succ m=>exact ⟨m,rfl⟩
 have HS:=hide hE
 have H:=hide hns
 have hg:=hns.lt
 have hf5:=hns.c5
 rw [hf] at hf5
 have HLn:=hide hl
 have HBd:Hid (∀ w',Calls Tryz.prog 60 #[.int .i64 9] w' fun e w''=>e= .returned (.bool false)∧w''=w'):=hide (fun w'=>binding_any 9 w')
 have HW:=hide (fun (k:Int) (hk:k ≠ 0) w' h=>nmWrong_any c w' nv bv ns bd t f k hk h)
 clear hE hns hl
 have htw:Kn.twice bd (Sx.tS 9 at' A B T N E body els)=false:=rfl
 have hu:Kn.usedF ns (Sx.tS 9 at' A B T N E body els)=Kn.mst ns A 114:=rfl
 have HM:=hide (fun w' h=>nmMust_any c w' nv bv ns bd t f A 114 h)
 by_cases h0:Kn.mst ns A 114=0
 ·have hs:Kn.sc (m+1) (c.l.take c.i) ns bd (Sx.tS 9 at' A B T N E body els)=Rn.firstOf (Kn.num (m+1) ns) E:=by
   show (if Kn.twice bd (Sx.tS 9 at' A B T N E body els) then (9:Int) else if Kn.usedF ns (Sx.tS 9 at' A B T N E body els) ≠ 0 then Kn.usedF ns (Sx.tS 9 at' A B T N E body els) else Kn.rest (m+1) (c.l.take c.i) ns (Sx.tS 9 at' A B T N E body els))=_
   rw [htw,hu,if_neg (by simp),if_neg (by simpa using h0)]
   rfl
  rw [hs]
  rw [h0,Kn.flt_zero,mst_ty h0] at HM
  clear hs hu htw
  go_enter Tryz.func42,Tryz.ntmps42
  go_wp2_with fail
  refine (HBd.out _).mono ?_
  rintro e w1 ⟨rfl,rfl⟩
  go_wp2_with fail
  refine (HM.out _ (H.out.alloc _)).mono ?_
  rintro e w1 ⟨rfl,h1,k1⟩
  have K1:=hide (((Kp.refl [c.g] w).alloc _).trans k1)
  have p1:BX w.heap.size w1 9 N A B T (.slice aE E.length cE):=BX.keep ⟨by simp [go_sem],by simp [go_sem],by simp [go_sem],by simp [go_sem],by simp [go_sem],by simp [go_sem]⟩ k1 (by omega)
  have H1:=hide h1
  have x5:=h1.c5
  rw [hf] at x5
  obtain ⟨q0,q2,q3,q4,q5,q6⟩:=p1
  clear h1 k1
  go_wp2
  go_loopw [9] (fun iv wr=> ∃ (i:Nat) (fk:Int × Int),i≤E.length∧iv= .int .i64 i∧Hid (NS c wr nv bv ns bd t fk)∧Hid (Kn.flt f (Rn.firstOf (Kn.num (m+1) ns) E) t=Kn.flt fk (Rn.firstOf (Kn.num (m+1) ns) (E.drop i)) t)∧Hid (Kp [c.g] w wr)∧wr.cell? ⟨w.heap.size,6,none⟩=some (.slice aE E.length cE)) (fun iv _=>E.length - (intOf iv).toNat)
  case atStart=>exact ⟨0,f,Nat.zero_le _,rfl,H1,rfl,K1,q6⟩
  case round=>
   obtain ⟨i,fk,hi,rfl,HN,HF,HK,hp⟩:=hrel
   by_cases hlt:i<E.length
   ·have d1:decide ((i:Int)<(E.length:Int))=true:=by simp;omega
    obtain ⟨b,off,op1,nm1,z1,L1,aL,cL,rfl,-,hd,m0,m1,m2,m3,hL⟩:=(HS.out.keep HK.out (by simpa using hP)).nth i hlt
    have HC:=hide (fun hll=>number_any c _ _ P op1 z1 nm1 L1 aL cL nv bv ns bd t fk hL hP hll HN.out)
    have HLL:=hide (HLn.out i _ hd)
    have HDR:=hide (drop_nth hd)
    have hk0:(0:Int)≤(i:Int):=by omega
    have hk1:(i:Int)<(E.length:Int):=by omega
    clear hL hd
    go_wp2_with fail
    refine (HC.out HLL.out).mono ?_
    rintro e w2 ⟨rfl,h2,k2⟩
    have c8:w2.cell? ⟨w.heap.size,6,none⟩=some (.slice (some ⟨b,off,none⟩) E.length cE):=k2.some hp (by simp;omega)
    have H2:=hide h2
    have K2:=hide (HK.out.trans k2)
    clear h2 k2
    go_wp2
    go_roundw
    case rel=>exact ⟨i+1,_,by omega,by go_num,H2,hide (by rw [HF.out,HDR.out,Kn.flt_first]),K2,c8⟩
    case measure=>simp [intOf];omega
   ·obtain rfl:i=E.length:=by omega
    have d1:decide ((E.length:Int)<(E.length:Int))=false:=by simp
    go_wp2
    go_ret
    refine ⟨Kn.typ ns A,rfl,fun _=>rfl,?_,HK.out⟩
    rw [HF.out,List.drop_length]
    show NS _ _ _ _ _ _ _ (Kn.flt fk 0 t)
    rw [Kn.flt_zero]
    exact HN.out
 ·have hs:Kn.sc (m+1) (c.l.take c.i) ns bd (Sx.tS 9 at' A B T N E body els)=Kn.mst ns A 114:=by
   show (if Kn.twice bd (Sx.tS 9 at' A B T N E body els) then (9:Int) else if Kn.usedF ns (Sx.tS 9 at' A B T N E body els) ≠ 0 then Kn.usedF ns (Sx.tS 9 at' A B T N E body els) else Kn.rest (m+1) (c.l.take c.i) ns (Sx.tS 9 at' A B T N E body els))=_
   rw [htw,hu,if_neg (by simp),if_pos h0]
  rw [hs]
  have ef:=Kn.flt_one (t:=t) hf h0
  rw [ef]
  rw [ef,mst_tn h0] at HM
  have dz:(Kn.mst ns A 114 == 0)=false:=by simpa using h0
  clear hs hu htw
  go_enter Tryz.func42,Tryz.ntmps42
  go_wp2_with fail
  refine (HBd.out _).mono ?_
  rintro e w1 ⟨rfl,rfl⟩
  go_wp2_with fail
  refine (HM.out _ (H.out.alloc _)).mono ?_
  rintro e w1 ⟨rfl,h1,k1⟩
  have K1:=hide (((Kp.refl [c.g] w).alloc _).trans k1)
  have p1:BX w.heap.size w1 9 N A B T (.slice aE E.length cE):=BX.keep ⟨by simp [go_sem],by simp [go_sem],by simp [go_sem],by simp [go_sem],by simp [go_sem],by simp [go_sem]⟩ k1 (by omega)
  have H1:=hide h1
  have x5:=h1.c5
  obtain ⟨q0,q2,q3,q4,q5,q6⟩:=p1
  clear h1 k1
  go_wp2
  go_ret
  exact ⟨[],rfl,fun h=>absurd h h0,H1.out,K1.out⟩
set_option maxRecDepth 100000 in
set_option maxHeartbeats 2000000 in
theorem stt_12:SttT 12:=by
 intro c m q w P at' A B T N E body els aE cE uB uL nv bv ns bd t f hE hG hi hll hP hl hlen hps hT hf h6 hns
 obtain ⟨m,rfl⟩: ∃ k,m=k+1:=by cases m with
  |zero=>cases hE
  |succ m=>exact ⟨m,rfl⟩
 have HS:=hide hE
 have H:=hide hns
 have hg:=hns.lt
 have hf5:=hns.c5
 rw [hf] at hf5
 have HLn:=hide hl
 have HBd:Hid (∀ w',Calls Tryz.prog 60 #[.int .i64 12] w' fun e w''=>e= .returned (.bool true)∧w''=w'):=hide (fun w'=>binding_any 12 w')
 have HW:=hide (fun (k:Int) (hk:k ≠ 0) w' h=>nmWrong_any c w' nv bv ns bd t f k hk h)
 clear hE hns hl
 have HI:=hide (fun w' (h:NS c w' nv bv ns bd t f)=>nmIsBound_any c.g bd A bv w' (by have:=h.lb;omega) (vr_own h.ob) h.c3)
 by_cases hA:Kn.isIn bd A=true
 ·have e1:Kn.sc (m+1) (c.l.take c.i) ns bd (Sx.tS 12 at' A B T N E body els)=9:=if_pos (by show (Kn.binding 12 && (Kn.isIn bd A || _))=true;rw [hA];rfl)
  rw [e1]
  rw [hA] at HI
  go_enter Tryz.func42,Tryz.ntmps42
  go_wp2_with fail
  refine (HBd.out _).mono ?_
  rintro e w1 ⟨rfl,rfl⟩
  go_wp2_with fail
  refine (HI.out _ (H.out.alloc _)).mono ?_
  rintro e w1 ⟨rfl,j1,rfl⟩
  go_wp2_with fail
  refine (HW.out 9 (by decide) _ ((H.out.alloc _).drewN _)).mono ?_
  rintro e w2 ⟨rfl,h2,k2⟩
  have H2:=hide h2
  have K2:=hide ((((Kp.refl [c.g] w).alloc _).drewN _).trans k2)
  clear h2 k2
  go_wp2
  go_ret
  exact ⟨[],rfl,fun h=>absurd h (by decide),H2.out,K2.out⟩
 have hA':Kn.isIn bd A=false:=by simpa using hA
 rw [hA'] at HI
 have htw:Kn.twice bd (Sx.tS 12 at' A B T N E body els)=false:=by show (Kn.binding 12 && (Kn.isIn bd A || _))=false;rw [hA'];rfl
 have hu:Kn.usedF ns (Sx.tS 12 at' A B T N E body els)=Kn.mst ns B 114:=rfl
 have HM:=hide (fun w' h=>nmMust_any c w' nv bv ns bd t f B 114 h)
 by_cases h0:Kn.mst ns B 114=0
 ·have hs:Kn.sc (m+1) (c.l.take c.i) ns bd (Sx.tS 12 at' A B T N E body els)=Rn.firstOf (Kn.num (m+1) ns) E:=by
   show (if Kn.twice bd (Sx.tS 12 at' A B T N E body els) then (9:Int) else if Kn.usedF ns (Sx.tS 12 at' A B T N E body els) ≠ 0 then Kn.usedF ns (Sx.tS 12 at' A B T N E body els) else Kn.rest (m+1) (c.l.take c.i) ns (Sx.tS 12 at' A B T N E body els))=_
   rw [htw,hu,if_neg (by simp),if_neg (by simpa using h0)]
   rfl
  rw [hs]
  rw [h0,Kn.flt_zero,mst_ty h0] at HM
  clear hs hu htw
  go_enter Tryz.func42,Tryz.ntmps42
  go_wp2_with fail
  refine (HBd.out _).mono ?_
  rintro e w1 ⟨rfl,rfl⟩
  go_wp2_with fail
  refine (HI.out _ (H.out.alloc _)).mono ?_
  rintro e w1 ⟨rfl,j1,rfl⟩
  go_wp2_with fail
  refine (HM.out _ ((H.out.alloc _).drewN _)).mono ?_
  rintro e w1 ⟨rfl,h1,k1⟩
  have K1:=hide ((((Kp.refl [c.g] w).alloc _).drewN _).trans k1)
  have p1:BX w.heap.size w1 12 N A B T (.slice aE E.length cE):=BX.keep ⟨by simp [go_sem],by simp [go_sem],by simp [go_sem],by simp [go_sem],by simp [go_sem],by simp [go_sem]⟩ k1 (by omega)
  have H1:=hide h1
  have x5:=h1.c5
  rw [hf] at x5
  obtain ⟨q0,q2,q3,q4,q5,q6⟩:=p1
  clear h1 k1
  go_wp2
  go_loopw [9] (fun iv wr=> ∃ (i:Nat) (fk:Int × Int),i≤E.length∧iv= .int .i64 i∧Hid (NS c wr nv bv ns bd t fk)∧Hid (Kn.flt f (Rn.firstOf (Kn.num (m+1) ns) E) t=Kn.flt fk (Rn.firstOf (Kn.num (m+1) ns) (E.drop i)) t)∧Hid (Kp [c.g] w wr)∧wr.cell? ⟨w.heap.size,6,none⟩=some (.slice aE E.length cE)) (fun iv _=>E.length - (intOf iv).toNat)
  case atStart=>exact ⟨0,f,Nat.zero_le _,rfl,H1,rfl,K1,q6⟩
  case round=>
   obtain ⟨i,fk,hi,rfl,HN,HF,HK,hp⟩:=hrel
   by_cases hlt:i<E.length
   ·have d1:decide ((i:Int)<(E.length:Int))=true:=by simp;omega
    obtain ⟨b,off,op1,nm1,z1,L1,aL,cL,rfl,-,hd,m0,m1,m2,m3,hL⟩:=(HS.out.keep HK.out (by simpa using hP)).nth i hlt
    have HC:=hide (fun hll=>number_any c _ _ P op1 z1 nm1 L1 aL cL nv bv ns bd t fk hL hP hll HN.out)
    have HLL:=hide (HLn.out i _ hd)
    have HDR:=hide (drop_nth hd)
    have hk0:(0:Int)≤(i:Int):=by omega
    have hk1:(i:Int)<(E.length:Int):=by omega
    clear hL hd
    go_wp2_with fail
    refine (HC.out HLL.out).mono ?_
    rintro e w2 ⟨rfl,h2,k2⟩
    have c8:w2.cell? ⟨w.heap.size,6,none⟩=some (.slice (some ⟨b,off,none⟩) E.length cE):=k2.some hp (by simp;omega)
    have H2:=hide h2
    have K2:=hide (HK.out.trans k2)
    clear h2 k2
    go_wp2
    go_roundw
    case rel=>exact ⟨i+1,_,by omega,by go_num,H2,hide (by rw [HF.out,HDR.out,Kn.flt_first]),K2,c8⟩
    case measure=>simp [intOf];omega
   ·obtain rfl:i=E.length:=by omega
    have d1:decide ((E.length:Int)<(E.length:Int))=false:=by simp
    go_wp2
    go_ret
    refine ⟨Kn.typ ns B,rfl,fun _=>rfl,?_,HK.out⟩
    rw [HF.out,List.drop_length]
    show NS _ _ _ _ _ _ _ (Kn.flt fk 0 t)
    rw [Kn.flt_zero]
    exact HN.out
 ·have hs:Kn.sc (m+1) (c.l.take c.i) ns bd (Sx.tS 12 at' A B T N E body els)=Kn.mst ns B 114:=by
   show (if Kn.twice bd (Sx.tS 12 at' A B T N E body els) then (9:Int) else if Kn.usedF ns (Sx.tS 12 at' A B T N E body els) ≠ 0 then Kn.usedF ns (Sx.tS 12 at' A B T N E body els) else Kn.rest (m+1) (c.l.take c.i) ns (Sx.tS 12 at' A B T N E body els))=_
   rw [htw,hu,if_neg (by simp),if_pos h0]
  rw [hs]
  have ef:=Kn.flt_one (t:=t) hf h0
  rw [ef]
  rw [ef,mst_tn h0] at HM
  have dz:(Kn.mst ns B 114 == 0)=false:=by simpa using h0
  clear hs hu htw
  go_enter Tryz.func42,Tryz.ntmps42
  go_wp2_with fail
  refine (HBd.out _).mono ?_
  rintro e w1 ⟨rfl,rfl⟩
  go_wp2_with fail
  refine (HI.out _ (H.out.alloc _)).mono ?_
  rintro e w1 ⟨rfl,j1,rfl⟩
  go_wp2_with fail
  refine (HM.out _ ((H.out.alloc _).drewN _)).mono ?_
  rintro e w1 ⟨rfl,h1,k1⟩
  have K1:=hide ((((Kp.refl [c.g] w).alloc _).drewN _).trans k1)
  have p1:BX w.heap.size w1 12 N A B T (.slice aE E.length cE):=BX.keep ⟨by simp [go_sem],by simp [go_sem],by simp [go_sem],by simp [go_sem],by simp [go_sem],by simp [go_sem]⟩ k1 (by omega)
  have H1:=hide h1
  have x5:=h1.c5
  obtain ⟨q0,q2,q3,q4,q5,q6⟩:=p1
  clear h1 k1
  go_wp2
  go_ret
  exact ⟨[],rfl,fun h=>absurd h h0,H1.out,K1.out⟩
set_option maxRecDepth 100000 in
set_option maxHeartbeats 2000000 in
theorem stt_14:SttT 14:=by
 intro c m q w P at' A B T N E body els aE cE uB uL nv bv ns bd t f hE hG hi hll hP hl hlen hps hT hf h6 hns
 obtain ⟨m,rfl⟩: ∃ k,m=k+1:=by cases m with
  |zero=>cases hE
  |succ m=>exact ⟨m,rfl⟩
 have HS:=hide hE
 have H:=hide hns
 have hg:=hns.lt
 have hf5:=hns.c5
 rw [hf] at hf5
 have HLn:=hide hl
 have HBd:Hid (∀ w',Calls Tryz.prog 60 #[.int .i64 14] w' fun e w''=>e= .returned (.bool false)∧w''=w'):=hide (fun w'=>binding_any 14 w')
 have HW:=hide (fun (k:Int) (hk:k ≠ 0) w' h=>nmWrong_any c w' nv bv ns bd t f k hk h)
 clear hE hns hl
 have htw:Kn.twice bd (Sx.tS 14 at' A B T N E body els)=false:=rfl
 have hs:Kn.sc (m+1) (c.l.take c.i) ns bd (Sx.tS 14 at' A B T N E body els)=Rn.firstOf (Kn.num (m+1) ns) E:=by
  show (if Kn.twice bd (Sx.tS 14 at' A B T N E body els) then (9:Int) else if Kn.usedF ns (Sx.tS 14 at' A B T N E body els) ≠ 0 then Kn.usedF ns (Sx.tS 14 at' A B T N E body els) else Kn.rest (m+1) (c.l.take c.i) ns (Sx.tS 14 at' A B T N E body els))=_
  rw [htw,if_neg (by simp),if_neg (by show ¬ ((0:Int) ≠ 0);simp)]
  rfl
 rw [hs]
 clear hs htw
 go_enter Tryz.func42,Tryz.ntmps42
 go_wp2_with fail
 refine (HBd.out _).mono ?_
 rintro e w1 ⟨rfl,rfl⟩
 go_wp2
 go_loopw [9] (fun iv wr=> ∃ (i:Nat) (fk:Int × Int),i≤E.length∧iv= .int .i64 i∧Hid (NS c wr nv bv ns bd t fk)∧Hid (Kn.flt f (Rn.firstOf (Kn.num (m+1) ns) E) t=Kn.flt fk (Rn.firstOf (Kn.num (m+1) ns) (E.drop i)) t)∧Hid (Kp [c.g] w wr)∧wr.cell? ⟨w.heap.size,6,none⟩=some (.slice aE E.length cE)) (fun iv _=>E.length - (intOf iv).toNat)
 case atStart=>exact ⟨0,f,Nat.zero_le _,rfl,hide (H.out.alloc _),rfl,hide ((Kp.refl [c.g] w).alloc _),by simp [go_sem]⟩
 case round=>
  obtain ⟨i,fk,hi,rfl,HN,HF,HK,hp⟩:=hrel
  by_cases hlt:i<E.length
  ·have d1:decide ((i:Int)<(E.length:Int))=true:=by simp;omega
   obtain ⟨b,off,op1,nm1,z1,L1,aL,cL,rfl,-,hd,m0,m1,m2,m3,hL⟩:=(HS.out.keep HK.out (by simpa using hP)).nth i hlt
   have HC:=hide (fun hll=>number_any c _ _ P op1 z1 nm1 L1 aL cL nv bv ns bd t fk hL hP hll HN.out)
   have HLL:=hide (HLn.out i _ hd)
   have HDR:=hide (drop_nth hd)
   have hk0:(0:Int)≤(i:Int):=by omega
   have hk1:(i:Int)<(E.length:Int):=by omega
   clear hL hd
   go_wp2_with fail
   refine (HC.out HLL.out).mono ?_
   rintro e w2 ⟨rfl,h2,k2⟩
   have c8:w2.cell? ⟨w.heap.size,6,none⟩=some (.slice (some ⟨b,off,none⟩) E.length cE):=k2.some hp (by simp;omega)
   have H2:=hide h2
   have K2:=hide (HK.out.trans k2)
   clear h2 k2
   go_wp2
   go_roundw
   case rel=>exact ⟨i+1,_,by omega,by go_num,H2,hide (by rw [HF.out,HDR.out,Kn.flt_first]),K2,c8⟩
   case measure=>simp [intOf];omega
  ·obtain rfl:i=E.length:=by omega
   have d1:decide ((E.length:Int)<(E.length:Int))=false:=by simp
   go_wp2
   go_ret
   refine ⟨[],rfl,fun _=>rfl,?_,HK.out⟩
   rw [HF.out,List.drop_length]
   show NS _ _ _ _ _ _ _ (Kn.flt fk 0 t)
   rw [Kn.flt_zero]
   exact HN.out
theorem stt_any (d:Int) (h1:1≤d) (h2:d≤14):SttT d:=by
 obtain ⟨k,rfl⟩: ∃ k:Nat,d=k:=⟨d.toNat,by omega⟩
 have h:k=1∨k=2∨k=3∨k=4∨k=5∨k=6∨k=7∨k=8∨k=9∨k=10∨k=11∨k=12∨k=13∨k=14:=by omega
 rcases h with rfl|rfl|rfl|rfl|rfl|rfl|rfl|rfl|rfl|rfl|rfl|rfl|rfl|rfl
 ·exact stt_1
 ·exact stt_2
 ·exact stt_3
 ·exact stt_4
 ·exact stt_5
 ·exact stt_6
 ·exact stt_7
 ·exact stt_8
 ·exact stt_9
 ·exact stt_10
 ·exact stt_11
 ·exact stt_12
 ·exact stt_13
 ·exact stt_14
theorem own_cut {w:World} {B e z g n cap k:Nat} {xs:List Value} (h:w.ownsRow B e z (.slice (some ⟨g,0,none⟩) n cap) n xs) (hk:k≤n):w.ownsRow B e z (.slice (some ⟨g,0,none⟩) k cap) k (xs.take (k * z)):=by
 rcases h.2 with ⟨hv,_⟩|⟨g',cap',cur,hv,h1,h2,h3,h4,h5,h6⟩
 ·cases hv
 ·cases hv
  have hkz:k * z≤n * z:=Nat.mul_le_mul_right z hk
  refine ⟨by rw [List.length_take,h.1];omega,.inr ⟨g,cap,cur,rfl,h1,h2,by omega,h4,h5,?_⟩⟩
  rw [←h6,List.take_take,Nat.min_eq_left hkz]
theorem vcells_take (l:List Kn.Nv) (k:Nat):(vcells l).take (k * 2)=vcells (l.take k):=by
 induction l generalizing k with
 |nil=>simp [vcells]
 |cons x r ih=>
  match k with
  |0=>simp [vcells]
  |k+1=>
   rw [show (k+1) * 2=k * 2+1+1 from by omega]
   show (Value.string (bs x.1)::Value.string (bs x.2)::vcells r).take (k * 2+1+1)=_
   rw [List.take_succ_cons,List.take_succ_cons,ih]
   rfl
end Go.Proofs.YthcapfojofahkaaGreatDoor
