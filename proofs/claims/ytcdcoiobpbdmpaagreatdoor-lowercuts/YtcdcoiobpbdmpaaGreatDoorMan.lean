import Derived.Test.YtcdcoiobpbdmpaaGreatDoorMak
import Derived.Test.YtcdcoiobpbdmpaaGreatDoorMam
import Derived.Deep.RegionHeld3
namespace Go.Proofs.YtcdcoiobpbdmpaaGreatDoor
open Go.RowKit
set_option maxRecDepth 100000 in
set_option maxHeartbeats 4000000 in
theorem steps_any (vs:List Lw.Vr) (a:Option Addr) (c g:Nat) (hl:vs.length≤1000000) (n:Nat): ∀ (w:World) (P:Nat→Prop) (l:List Sx.Tr) (v:Value),w.cell? ⟨g,1,none⟩=some (.slice a vs.length c)→VaR w (.slice a vs.length c) vs→EL w P n l v→Sx.wE n l≤1000000→
  Calls Tryz.prog 74 #[.pointer (some ⟨g,0,none⟩),v] w (LStP (Lw.stps vs n l) w):=by
 induction n with
 |zero=>intro w P l v _ _ h;cases h
 |succ n ih=>
  intro w P l v hg hv hE hw
  obtain ⟨al,cap,rfl,hel⟩:=hE
  obtain ⟨i0,hi0,hz0,hz1,hz2⟩:=info_parts Tryz.infoPush
  have HEl:=hide hel
  have HG:=hide hg
  have HV:=hide hv
  have HW:Hid (∀ i d,l[i]? =some d→Sx.wE n (Sx.eL d)≤1000000∧(Lw.stps vs (n+1) (l.take i)).length+(Lw.stps vs n (Sx.eL d)).length+1≤1000000):=hide (fun i d hd=>by
   have h1:=Sx.sum_take (fun d=>Sx.wE n (Sx.eL d)) l i d hd
   have h2:=Sx.sum_take_le (fun d=>Sx.wE n (Sx.eL d)) l (i+1)
   have h3:=(List.getElem?_eq_some_iff.1 hd).1
   rw [stps_len,stps_len]
   simp only [Sx.wE] at hw ⊢
   rw [List.length_take]
   omega)
  have hll:l.length≤1000000:=by simp only [Sx.wE] at hw;omega
  have HI:=hide ih
  have HL:Hid (∀ u,LStP (Lw.stps vs (n+1) (l.take l.length)) w (.returned u)=LStP (Lw.stps vs (n+1) (l.take l.length)) w (.returned u)):=hide (fun _=>rfl)
  rw [show Lw.stps vs (n+1) l=Lw.stps vs (n+1) (l.take l.length) from by rw [List.take_length]]
  clear hel hg hv ih hw HL
  unfold LStP
  go_enter Tryz.func74,Tryz.ntmps74
  go_wp2
  go_loopw [5,10] (fun su iv wr=> ∃ (i:Nat) (sv:Value),i≤l.length∧iv= .int .i64 i∧sv=su∧Hid (wr.ownsRow w.heap.size 161 2 sv (Lw.stps vs (n+1) (l.take i)).length ((Lw.stps vs (n+1) (l.take i)).flatMap Cd.ecl))∧Hid ((Lw.stps vs (n+1) (l.take i)).length=0→sv= .slice none 0 0)∧Hid (Below w.heap.size w wr)) (fun _ iv _=>l.length - (intOf iv).toNat)
  case atStart=>exact ⟨0,.slice none 0 0,Nat.zero_le _,rfl,rfl,hide (by simpa [Lw.stps] using World.ownsRow_nil _ _ _ _),hide (fun _=>rfl),hide (Below.refl _ _)⟩
  case round=>
   obtain ⟨i,sv,hi,rfl,rfl,HR,HN,HB⟩:=hrel
   by_cases hlt:i<l.length
   ·have d1:decide ((i:Int)<(l.length:Int))=true:=by simp;omega
    obtain ⟨d,hd⟩: ∃ y,l[i]? =some y:=⟨_,List.getElem?_eq_getElem hlt⟩
    have HS:=hide (stps_cons vs n l i d hd)
    obtain ⟨hw1,hw2⟩:=HW.out i d hd
    rcases HEl.out with h0|⟨b,off,rfl,hPb,hc⟩
    ·subst h0;simp at hlt
    obtain ⟨op,nm,k,L,u,rfl,q0,q1,q2,q3,hL⟩:=hc i d hd
    obtain ⟨au,cu,rfl⟩:=hL.slice
    have x0:=bsome HB.out q0
    have x1:=bsome HB.out q1
    have x2:=bsome HB.out q2
    have x3:=bsome HB.out q3
    have CS:=hide (fun w' (hb:Below w.heap.size w w')=>HI.out w' P L _ (bsome hb HG.out) (HV.out.keep hb) (hL.keep (Kp.of_below (S:=[]) hb) (by simp)) hw1)
    have CT:=hide (fun w' (hb:Below w.heap.size w w')=>step_any vs a c g op (bs nm) k au L.length cu w' (bsome hb HG.out) (HV.out.keep hb) hl)
    simp only [show Sx.eL (Sx.tE op nm k L)=L from rfl,show Sx.eH (Sx.tE op nm k L)=(op,nm,k) from rfl] at HS hw2
    generalize Lw.stps vs (n+1) (l.take i)=E0 at *
    generalize Lw.stps vs n L=T at *
    generalize Cd.stp vs op (bs nm) k=p at *
    obtain ⟨p1,p2⟩:=p
    have hi0':(0:Int)≤(i:Int):=by omega
    have hi1':(i:Int)<(l.length:Int):=by omega
    clear hc hd hPb q0 q1 q2 q3 hL hw1
    unfold LStP at CS
    go_wp2
    have hsz:w.heap.size≤wr.heap.size:=HB.out.size
    obtain ⟨W,hW⟩: ∃ W,wr.alloc (.cells #[.int .i64 op,.string (bs nm),.int .i64 k,.slice au L.length cu] 112)=W:=⟨_,rfl⟩
    have hb0:Below wr.heap.size wr W:=by rw [←hW];exact (Below.refl _ _).alloc (Nat.le_refl _) _
    have hWs:W.heap.size=wr.heap.size+1:=by rw [←hW];simp
    have j0:W.cell? ⟨wr.heap.size,0,none⟩=some (.int .i64 op):=by rw [←hW];simp [go_sem]
    have j1:W.cell? ⟨wr.heap.size,1,none⟩=some (.string (bs nm)):=by rw [←hW];simp [go_sem]
    have j2:W.cell? ⟨wr.heap.size,2,none⟩=some (.int .i64 k):=by rw [←hW];simp [go_sem]
    have j3:W.cell? ⟨wr.heap.size,3,none⟩=some (.slice au L.length cu):=by rw [←hW];simp [go_sem]
    have HOb:Hid (∀ j,sv.ownBlock=some j→w.heap.size≤j∧j<wr.heap.size):=hide (fun j hj=>HR.out.lt j hj)
    have HRR:Hid (W.drew.ownsRow w.heap.size 161 2 sv E0.length (E0.flatMap Cd.ecl)):=hide (own_keepT HR.out (fun j hj=>hb0.block j (HR.out.lt j hj).2))
    have kc:Hid (Below w.heap.size w W.drew):=hide (btrans (btrans HB.out hb0) (below_drewN (Below.refl _ _) 1))
    rw [hW]
    clear hW hb0 HR
    have k0:W.drew.cell? ⟨wr.heap.size,0,none⟩=some (.int .i64 op):=j0
    have k1:W.drew.cell? ⟨wr.heap.size,1,none⟩=some (.string (bs nm)):=j1
    have k2:W.drew.cell? ⟨wr.heap.size,2,none⟩=some (.int .i64 k):=j2
    have k3:W.drew.cell? ⟨wr.heap.size,3,none⟩=some (.slice au L.length cu):=j3
    have hWz:wr.heap.size<W.drew.heap.size:=by show wr.heap.size<W.heap.size;omega
    have HNb:Hid (sv.ownBlock ≠ some wr.heap.size):=hide (fun e=>by have:=(HOb.out _ e).2;omega)
    go_region_law ((first
     |(refine step_call_rv rfl 108 #[.pointer (some ⟨g,0,none⟩),.agg #[.int .i64 op,.string (bs nm),.int .i64 k,.slice au L.length cu]] ?_ (CT.out _ kc.out) ?_;(focus (go_simp;done));intro wq hbq;have kd:=hide (btrans kc.out hbq);clear kc;have kc:=kd;clear kd;have m0:=bsome hbq k0;clear k0;have k0:=m0;clear m0;have m1:=bsome hbq k1;clear k1;have k1:=m1;clear m1;have m2:=bsome hbq k2;clear k2;have k2:=m2;clear m2;have m3:=bsome hbq k3;clear k3;have k3:=m3;clear m3;have HRQ:=hide (own_keepT HRR.out (fun j hj=>hbq.block j (HRR.out.lt j hj).2));clear HRR;have HRR:=HRQ;clear HRQ;have hWy:=Nat.lt_of_lt_of_le hWz hbq.size;clear hWz;have hWz:=hWy;clear hWy;(try (have HUQ:=hide (own_keepT HU.out (fun j hj=>hbq.block j (HU.out.lt j hj).2));clear HU;have HU:=HUQ;clear HUQ));(try (have HPQ:=hide (own_keepT HP.out (fun j hj=>hbq.block j (HP.out.lt j hj).2));clear HP;have HP:=HPQ;clear HPQ));clear hbq;have a0:(wq.alloc (.cells #[.int .i64 p1,.int .i64 p2] 161)).cell? ⟨wr.heap.size,0,none⟩=some (.int .i64 op):=bsome ((Below.refl _ _).alloc (Nat.le_refl _) _) k0;have a1:(wq.alloc (.cells #[.int .i64 p1,.int .i64 p2] 161)).cell? ⟨wr.heap.size,1,none⟩=some (.string (bs nm)):=bsome ((Below.refl _ _).alloc (Nat.le_refl _) _) k1;have a2:(wq.alloc (.cells #[.int .i64 p1,.int .i64 p2] 161)).cell? ⟨wr.heap.size,2,none⟩=some (.int .i64 k):=bsome ((Below.refl _ _).alloc (Nat.le_refl _) _) k2;have a3:(wq.alloc (.cells #[.int .i64 p1,.int .i64 p2] 161)).cell? ⟨wr.heap.size,3,none⟩=some (.slice au L.length cu):=bsome ((Below.refl _ _).alloc (Nat.le_refl _) _) k3)
     |(refine step_call_ex rfl 74 #[.pointer (some ⟨g,0,none⟩),.slice au L.length cu] ?_ (CS.out _ kc.out) ?_;(focus (go_simp;done));intro vu wq hq;have HU:Hid (wq.ownsRow 0 161 2 vu T.length (T.flatMap Cd.ecl)):=hide (hq.1.mono (Nat.zero_le _));have HU0:=hide hq.2.1;have hbq:=hq.2.2;clear hq;have kd:=hide (btrans kc.out hbq);clear kc;have kc:=kd;clear kd;have m0:=bsome hbq k0;clear k0;have k0:=m0;clear m0;have m1:=bsome hbq k1;clear k1;have k1:=m1;clear m1;have m2:=bsome hbq k2;clear k2;have k2:=m2;clear m2;have m3:=bsome hbq k3;clear k3;have k3:=m3;clear m3;have HRQ:=hide (own_keepT HRR.out (fun j hj=>hbq.block j (HRR.out.lt j hj).2));clear HRR;have HRR:=HRQ;clear HRQ;have hWy:=Nat.lt_of_lt_of_le hWz hbq.size;clear hWz;have hWz:=hWy;clear hWy;(try (fail;have HUQ:=hide (own_keepT HU.out (fun j hj=>hbq.block j (HU.out.lt j hj).2));clear HU;have HU:=HUQ;clear HUQ));(try (have HPQ:=hide (own_keepT HP.out (fun j hj=>hbq.block j (HP.out.lt j hj).2));clear HP;have HP:=HPQ;clear HPQ));clear hbq;have a0:(wq.alloc (.cells #[.int .i64 p1,.int .i64 p2] 161)).cell? ⟨wr.heap.size,0,none⟩=some (.int .i64 op):=bsome ((Below.refl _ _).alloc (Nat.le_refl _) _) k0;have a1:(wq.alloc (.cells #[.int .i64 p1,.int .i64 p2] 161)).cell? ⟨wr.heap.size,1,none⟩=some (.string (bs nm)):=bsome ((Below.refl _ _).alloc (Nat.le_refl _) _) k1;have a2:(wq.alloc (.cells #[.int .i64 p1,.int .i64 p2] 161)).cell? ⟨wr.heap.size,2,none⟩=some (.int .i64 k):=bsome ((Below.refl _ _).alloc (Nat.le_refl _) _) k2;have a3:(wq.alloc (.cells #[.int .i64 p1,.int .i64 p2] 161)).cell? ⟨wr.heap.size,3,none⟩=some (.slice au L.length cu):=bsome ((Below.refl _ _).alloc (Nat.le_refl _) _) k3)
     |(refine step_append_row rfl _ _ 41 rfl w.heap.size 161 i0 (.agg #[.int .i64 0,.int .i64 0]) 2 16 Tryz.underlying41 hi0 hz0 hz1 hz2 rfl (by decide) sv E0.length (E0.flatMap Cd.ecl) (by rfl) (by exact HRR.out) 0 vu T.length (T.flatMap Cd.ecl) (by rfl) (by exact HU.out) (by exact HU0.out) (Cd.ecl_one T) (by unfold maxLen;omega) (by omega) (by exact kc.out.size) _ rfl ?_;intro v2 wq hown hgrow hat;have HN2:Hid (∀ j,v2.ownBlock=some j→j ≠ wr.heap.size):=hide (fun j hj=>by rcases hat with h1|h1;(have:=(HOb.out j (by rw [←h1];exact hj)).2;omega);(have h2:=h1.symm.trans hj;injection h2 with h2;omega));(try (have HPQ:=hide (own_keepT HP.out (fun j hj=>hgrow.block j (HP.out.lt j hj).2 (fun e=>by have h1:=(HOb.out j e.symm).2;have h2:=(HP.out.lt j hj).1;omega)));clear HP;have HP:=HPQ;clear HPQ));have kd:Hid (Below w.heap.size w wq):=hide ((Kx.of_below (X:=fun _=>True) kc.out).grown hgrow (fun k hk=> .inl (HRR.out.lt k hk).1)).below;clear kc;have kc:=kd;clear kd;have m0:=(hgrow.cell_far ⟨wr.heap.size,0,none⟩ hWz (fun e=>HNb.out e.symm)).trans k0;clear k0;have k0:=m0;clear m0;have m1:=(hgrow.cell_far ⟨wr.heap.size,1,none⟩ hWz (fun e=>HNb.out e.symm)).trans k1;clear k1;have k1:=m1;clear m1;have m2:=(hgrow.cell_far ⟨wr.heap.size,2,none⟩ hWz (fun e=>HNb.out e.symm)).trans k2;clear k2;have k2:=m2;clear m2;have m3:=(hgrow.cell_far ⟨wr.heap.size,3,none⟩ hWz (fun e=>HNb.out e.symm)).trans k3;clear k3;have k3:=m3;clear m3;have hWy:=Nat.lt_of_lt_of_le hWz hgrow.size;clear hWz;have hWz:=hWy;clear hWy;clear HRR HU HU0 HNb;have HRR:=hide hown;have HNb:Hid (v2.ownBlock ≠ some wr.heap.size):=hide (fun e=>HN2.out _ e rfl);clear hown hgrow hat HN2;have a0:(wq.alloc (.cells #[.int .i64 p1,.int .i64 p2] 161)).cell? ⟨wr.heap.size,0,none⟩=some (.int .i64 op):=bsome ((Below.refl _ _).alloc (Nat.le_refl _) _) k0;have a1:(wq.alloc (.cells #[.int .i64 p1,.int .i64 p2] 161)).cell? ⟨wr.heap.size,1,none⟩=some (.string (bs nm)):=bsome ((Below.refl _ _).alloc (Nat.le_refl _) _) k1;have a2:(wq.alloc (.cells #[.int .i64 p1,.int .i64 p2] 161)).cell? ⟨wr.heap.size,2,none⟩=some (.int .i64 k):=bsome ((Below.refl _ _).alloc (Nat.le_refl _) _) k2;have a3:(wq.alloc (.cells #[.int .i64 p1,.int .i64 p2] 161)).cell? ⟨wr.heap.size,3,none⟩=some (.slice au L.length cu):=bsome ((Below.refl _ _).alloc (Nat.le_refl _) _) k3)
     |(refine step_append_row rfl _ _ 41 rfl w.heap.size 161 i0 (.agg #[.int .i64 0,.int .i64 0]) 2 16 Tryz.underlying41 hi0 hz0 hz1 hz2 rfl (by decide) v2 (E0.length+T.length) (E0.flatMap Cd.ecl++T.flatMap Cd.ecl) (by rfl) (by exact HRR.out) (wr.heap.size+1) _ 1 [.int .i64 p1,.int .i64 p2] (by rfl) (by exact HP.out) (fun e=>absurd e (by decide)) (by intro u hu;simp at hu;rcases hu with rfl|rfl<;> rfl) (by unfold maxLen;omega) (by omega) (by exact kc.out.size) _ rfl ?_;intro v3 wq hown hgrow hat;have kd:Hid (Below w.heap.size w wq):=hide ((Kx.of_below (X:=fun _=>True) kc.out).grown hgrow (fun k hk=> .inl (HRR.out.lt k hk).1)).below;clear kc;have kc:=kd;clear kd;clear HRR;have HRR:=hide hown;clear hown hgrow hat)
     |((generalize hX:World.alloc wq (.cells #[.int .i64 p1,.int .i64 p2] 161)=X;have hbx:Below wq.heap.size wq X:=(by rw [←hX];exact (Below.refl _ _).alloc (Nat.le_refl _) _);have HP:Hid (X.ownsRow (wr.heap.size+1) 161 2 (.slice (some ⟨wq.heap.size,0,none⟩) 1 1) 1 [.int .i64 p1,.int .i64 p2]):=hide (by rw [←hX];exact two_own wq _ hWz p1 p2);clear hX;have kd:=hide (btrans kc.out hbx);clear kc;have kc:=kd;clear kd;have m0:=bsome hbx k0;clear k0;have k0:=m0;clear m0;have m1:=bsome hbx k1;clear k1;have k1:=m1;clear m1;have m2:=bsome hbx k2;clear k2;have k2:=m2;clear m2;have m3:=bsome hbx k3;clear k3;have k3:=m3;clear m3;have HRQ:=hide (own_keepT HRR.out (fun j hj=>hbx.block j (HRR.out.lt j hj).2));clear HRR;have HRR:=HRQ;clear HRQ;have hWy:=Nat.lt_of_lt_of_le hWz hbx.size;clear hWz;have hWz:=hWy;clear hWy;(try (have HUQ:=hide (own_keepT HU.out (fun j hj=>hbx.block j (HU.out.lt j hj).2));clear HU;have HU:=HUQ;clear HUQ));(try (fail;have HPQ:=hide (own_keepT HP.out (fun j hj=>hbx.block j (HP.out.lt j hj).2));clear HP;have HP:=HPQ;clear HPQ)));(refine step_call_ex rfl 74 #[.pointer (some ⟨g,0,none⟩),.slice au L.length cu] ?_ (CS.out _ kc.out) ?_;(focus (go_simp;done));intro vu wq hq;have HU:Hid (wq.ownsRow 0 161 2 vu T.length (T.flatMap Cd.ecl)):=hide (hq.1.mono (Nat.zero_le _));have HU0:=hide hq.2.1;have hbq:=hq.2.2;clear hq;have kd:=hide (btrans kc.out hbq);clear kc;have kc:=kd;clear kd;have m0:=bsome hbq k0;clear k0;have k0:=m0;clear m0;have m1:=bsome hbq k1;clear k1;have k1:=m1;clear m1;have m2:=bsome hbq k2;clear k2;have k2:=m2;clear m2;have m3:=bsome hbq k3;clear k3;have k3:=m3;clear m3;have HRQ:=hide (own_keepT HRR.out (fun j hj=>hbq.block j (HRR.out.lt j hj).2));clear HRR;have HRR:=HRQ;clear HRQ;have hWy:=Nat.lt_of_lt_of_le hWz hbq.size;clear hWz;have hWz:=hWy;clear hWy;(try (fail;have HUQ:=hide (own_keepT HU.out (fun j hj=>hbq.block j (HU.out.lt j hj).2));clear HU;have HU:=HUQ;clear HUQ));(try (have HPQ:=hide (own_keepT HP.out (fun j hj=>hbq.block j (HP.out.lt j hj).2));clear HP;have HP:=HPQ;clear HPQ));clear hbq;have a0:(wq.alloc (.cells #[.int .i64 p1,.int .i64 p2] 161)).cell? ⟨wr.heap.size,0,none⟩=some (.int .i64 op):=bsome ((Below.refl _ _).alloc (Nat.le_refl _) _) k0;have a1:(wq.alloc (.cells #[.int .i64 p1,.int .i64 p2] 161)).cell? ⟨wr.heap.size,1,none⟩=some (.string (bs nm)):=bsome ((Below.refl _ _).alloc (Nat.le_refl _) _) k1;have a2:(wq.alloc (.cells #[.int .i64 p1,.int .i64 p2] 161)).cell? ⟨wr.heap.size,2,none⟩=some (.int .i64 k):=bsome ((Below.refl _ _).alloc (Nat.le_refl _) _) k2;have a3:(wq.alloc (.cells #[.int .i64 p1,.int .i64 p2] 161)).cell? ⟨wr.heap.size,3,none⟩=some (.slice au L.length cu):=bsome ((Below.refl _ _).alloc (Nat.le_refl _) _) k3))
     |((generalize hX:World.alloc wq (.cells #[.int .i64 p1,.int .i64 p2] 161)=X;have hbx:Below wq.heap.size wq X:=(by rw [←hX];exact (Below.refl _ _).alloc (Nat.le_refl _) _);have HP:Hid (X.ownsRow (wr.heap.size+1) 161 2 (.slice (some ⟨wq.heap.size,0,none⟩) 1 1) 1 [.int .i64 p1,.int .i64 p2]):=hide (by rw [←hX];exact two_own wq _ hWz p1 p2);clear hX;have kd:=hide (btrans kc.out hbx);clear kc;have kc:=kd;clear kd;have m0:=bsome hbx k0;clear k0;have k0:=m0;clear m0;have m1:=bsome hbx k1;clear k1;have k1:=m1;clear m1;have m2:=bsome hbx k2;clear k2;have k2:=m2;clear m2;have m3:=bsome hbx k3;clear k3;have k3:=m3;clear m3;have HRQ:=hide (own_keepT HRR.out (fun j hj=>hbx.block j (HRR.out.lt j hj).2));clear HRR;have HRR:=HRQ;clear HRQ;have hWy:=Nat.lt_of_lt_of_le hWz hbx.size;clear hWz;have hWz:=hWy;clear hWy;(try (have HUQ:=hide (own_keepT HU.out (fun j hj=>hbx.block j (HU.out.lt j hj).2));clear HU;have HU:=HUQ;clear HUQ));(try (fail;have HPQ:=hide (own_keepT HP.out (fun j hj=>hbx.block j (HP.out.lt j hj).2));clear HP;have HP:=HPQ;clear HPQ)));(refine step_append_row rfl _ _ 41 rfl w.heap.size 161 i0 (.agg #[.int .i64 0,.int .i64 0]) 2 16 Tryz.underlying41 hi0 hz0 hz1 hz2 rfl (by decide) sv E0.length (E0.flatMap Cd.ecl) (by rfl) (by exact HRR.out) 0 vu T.length (T.flatMap Cd.ecl) (by rfl) (by exact HU.out) (by exact HU0.out) (Cd.ecl_one T) (by unfold maxLen;omega) (by omega) (by exact kc.out.size) _ rfl ?_;intro v2 wq hown hgrow hat;have HN2:Hid (∀ j,v2.ownBlock=some j→j ≠ wr.heap.size):=hide (fun j hj=>by rcases hat with h1|h1;(have:=(HOb.out j (by rw [←h1];exact hj)).2;omega);(have h2:=h1.symm.trans hj;injection h2 with h2;omega));(try (have HPQ:=hide (own_keepT HP.out (fun j hj=>hgrow.block j (HP.out.lt j hj).2 (fun e=>by have h1:=(HOb.out j e.symm).2;have h2:=(HP.out.lt j hj).1;omega)));clear HP;have HP:=HPQ;clear HPQ));have kd:Hid (Below w.heap.size w wq):=hide ((Kx.of_below (X:=fun _=>True) kc.out).grown hgrow (fun k hk=> .inl (HRR.out.lt k hk).1)).below;clear kc;have kc:=kd;clear kd;have m0:=(hgrow.cell_far ⟨wr.heap.size,0,none⟩ hWz (fun e=>HNb.out e.symm)).trans k0;clear k0;have k0:=m0;clear m0;have m1:=(hgrow.cell_far ⟨wr.heap.size,1,none⟩ hWz (fun e=>HNb.out e.symm)).trans k1;clear k1;have k1:=m1;clear m1;have m2:=(hgrow.cell_far ⟨wr.heap.size,2,none⟩ hWz (fun e=>HNb.out e.symm)).trans k2;clear k2;have k2:=m2;clear m2;have m3:=(hgrow.cell_far ⟨wr.heap.size,3,none⟩ hWz (fun e=>HNb.out e.symm)).trans k3;clear k3;have k3:=m3;clear m3;have hWy:=Nat.lt_of_lt_of_le hWz hgrow.size;clear hWz;have hWz:=hWy;clear hWy;clear HRR HU HU0 HNb;have HRR:=hide hown;have HNb:Hid (v2.ownBlock ≠ some wr.heap.size):=hide (fun e=>HN2.out _ e rfl);clear hown hgrow hat HN2;have a0:(wq.alloc (.cells #[.int .i64 p1,.int .i64 p2] 161)).cell? ⟨wr.heap.size,0,none⟩=some (.int .i64 op):=bsome ((Below.refl _ _).alloc (Nat.le_refl _) _) k0;have a1:(wq.alloc (.cells #[.int .i64 p1,.int .i64 p2] 161)).cell? ⟨wr.heap.size,1,none⟩=some (.string (bs nm)):=bsome ((Below.refl _ _).alloc (Nat.le_refl _) _) k1;have a2:(wq.alloc (.cells #[.int .i64 p1,.int .i64 p2] 161)).cell? ⟨wr.heap.size,2,none⟩=some (.int .i64 k):=bsome ((Below.refl _ _).alloc (Nat.le_refl _) _) k2;have a3:(wq.alloc (.cells #[.int .i64 p1,.int .i64 p2] 161)).cell? ⟨wr.heap.size,3,none⟩=some (.slice au L.length cu):=bsome ((Below.refl _ _).alloc (Nat.le_refl _) _) k3))
     |((generalize hX:World.alloc wq (.cells #[.int .i64 p1,.int .i64 p2] 161)=X;have hbx:Below wq.heap.size wq X:=(by rw [←hX];exact (Below.refl _ _).alloc (Nat.le_refl _) _);have HP:Hid (X.ownsRow (wr.heap.size+1) 161 2 (.slice (some ⟨wq.heap.size,0,none⟩) 1 1) 1 [.int .i64 p1,.int .i64 p2]):=hide (by rw [←hX];exact two_own wq _ hWz p1 p2);clear hX;have kd:=hide (btrans kc.out hbx);clear kc;have kc:=kd;clear kd;have m0:=bsome hbx k0;clear k0;have k0:=m0;clear m0;have m1:=bsome hbx k1;clear k1;have k1:=m1;clear m1;have m2:=bsome hbx k2;clear k2;have k2:=m2;clear m2;have m3:=bsome hbx k3;clear k3;have k3:=m3;clear m3;have HRQ:=hide (own_keepT HRR.out (fun j hj=>hbx.block j (HRR.out.lt j hj).2));clear HRR;have HRR:=HRQ;clear HRQ;have hWy:=Nat.lt_of_lt_of_le hWz hbx.size;clear hWz;have hWz:=hWy;clear hWy;(try (have HUQ:=hide (own_keepT HU.out (fun j hj=>hbx.block j (HU.out.lt j hj).2));clear HU;have HU:=HUQ;clear HUQ));(try (fail;have HPQ:=hide (own_keepT HP.out (fun j hj=>hbx.block j (HP.out.lt j hj).2));clear HP;have HP:=HPQ;clear HPQ)));(refine step_append_row rfl _ _ 41 rfl w.heap.size 161 i0 (.agg #[.int .i64 0,.int .i64 0]) 2 16 Tryz.underlying41 hi0 hz0 hz1 hz2 rfl (by decide) v2 (E0.length+T.length) (E0.flatMap Cd.ecl++T.flatMap Cd.ecl) (by rfl) (by exact HRR.out) (wr.heap.size+1) _ 1 [.int .i64 p1,.int .i64 p2] (by rfl) (by exact HP.out) (fun e=>absurd e (by decide)) (by intro u hu;simp at hu;rcases hu with rfl|rfl<;> rfl) (by unfold maxLen;omega) (by omega) (by exact kc.out.size) _ rfl ?_;intro v3 wq hown hgrow hat;have kd:Hid (Below w.heap.size w wq):=hide ((Kx.of_below (X:=fun _=>True) kc.out).grown hgrow (fun k hk=> .inl (HRR.out.lt k hk).1)).below;clear kc;have kc:=kd;clear kd;clear HRR;have HRR:=hide hown;clear hown hgrow hat))))
    all_goals
     have HRZ:Hid (wq.ownsRow w.heap.size 161 2 v3 (Lw.stps vs (n+1) (l.take (i+1))).length ((Lw.stps vs (n+1) (l.take (i+1))).flatMap Cd.ecl)):=hide (by
      rw [HS.out]
      have:=HRR.out
      simpa [Cd.ecl,Nat.add_assoc] using this)
     have HNZ:Hid ((Lw.stps vs (n+1) (l.take (i+1))).length=0→v3= .slice none 0 0):=hide (fun e=>by rw [HS.out] at e;simp at e)
     clear HS HRR
     go_wp2
     go_roundw
     case rel=>exact ⟨i+1,v3,by omega,by go_num,rfl,HRZ,HNZ,kc⟩
     case measure=>simp [intOf];omega
   ·obtain rfl:i=l.length:=by omega
    have d1:decide ((l.length:Int)<(l.length:Int))=false:=by simp
    go_wp2
    go_ret
    exact ⟨_,rfl,HR.out,HN.out,HB.out⟩
theorem er_own {B:Nat} {w':World} {v:Value} {E:List (Int × Int)} (h:w'.ownsRow B 161 2 v E.length (E.flatMap Cd.ecl)): ∃ ae ce,v= .slice ae E.length ce∧ER w' (.slice ae E.length ce) E∧ ∀ j,(Value.slice ae E.length ce).ownBlock=some j→B≤j∧j<w'.heap.size:=by
 rcases h.2 with ⟨h1,h2⟩|⟨g,cap,cur,h1,-⟩
 ·refine ⟨none,0,by rw [h1,h2],⟨none,0,rfl,fun hn=>absurd (List.length_eq_zero_iff.1 h2) hn⟩,fun j hj=>absurd hj (by simp [Value.ownBlock])⟩
 ·refine ⟨some ⟨g,0,none⟩,cap,h1,⟨_,cap,rfl,fun _=>⟨g,0,rfl,fun k x hx=> ?_⟩⟩,fun j hj=>h.lt j (by rw [h1];exact hj)⟩
  have hc:=h.cells (g:=g) (by rw [h1];rfl)
  have e0:=hc (k * 2) (.int .i64 x.1) (by have:=flatMap_cell (f:=Cd.ecl) (z:=2) (fun _=>rfl) E k x hx 0 (.int .i64 x.1) rfl;simpa using this)
  have e1:=hc (k * 2+1) (.int .i64 x.2) (flatMap_cell (f:=Cd.ecl) (z:=2) (fun _=>rfl) E k x hx 1 (.int .i64 x.2) rfl)
  rw [add_off] at e0 e1
  simpa using ⟨e0,e1⟩
def MsP (C:MC) (m:MA) (E:List (Int × Int)) (w:World) (v:Value) (w':World):Prop:= ∃ ae ce,v= .slice ae E.length ce∧ERn w' (fun j=>j<w'.heap.size∧ ¬ m.mut C.g j∧ ¬ C.J j) (.slice ae E.length ce) E∧Below w.heap.size w w'
section
variable {C:MC} {m:MA} {s:Lw.St} {bk at':Int} {w:World}
theorem msteps_any (h:MK C m s bk at' w) (P:Nat→Prop) (n:Nat) (l:List Sx.Tr) (v:Value) (hE:EL w P n l v) (hw:Sx.wE n l≤1000000) (w1:World) (hb:Below w.heap.size w w1):
  Calls Tryz.prog 74 #[.pointer (some ⟨C.g,0,none⟩),v] w1 fun e w'=> ∃ u,e= .returned u∧MsP C m (Lw.stps s.vs n l) w1 u w':=by
 have h1:=h.below hb
 refine (steps_any s.vs m.av m.cv C.g h.vl n w1 P l v h1.c1 h1.vaR (hE.keep (Kp.of_below (S:=[]) hb) (by simp)) hw).mono ?_
 rintro e w' ⟨u,rfl,ho,-,hbb⟩
 obtain ⟨ae,ce,e1,e2,e3⟩:=er_own ho
 exact ⟨u,rfl,ae,ce,e1,⟨e2,fun j hj=>⟨(e3 j hj).2,h1.fresh (e3 j hj).1⟩⟩,hbb⟩
theorem mnum_any (h:MK C m s bk at' w) (nm:ByteArray) (w1:World) (hb:Below w.heap.size w w1):Calls Tryz.prog 47 #[.pointer (some ⟨C.g,0,none⟩),.string nm] w1 fun e w'=>e= .returned (.int .i64 (Cd.nmb s.vs nm))∧Below w1.heap.size w1 w':=
 lNumber_any s.vs nm m.av m.cv C.g w1 (h.below hb).c1 (h.below hb).vaR h.vl
theorem mput2_any {s':Lw.St} (h:MK C m s bk at' w) (x:Cd.In) (hs:Lw.put s bk at' x=some s') (w1:World) (hb:Below w.heap.size w w1) (ae:Option Addr) (ce:Nat) (aa:Option Addr) (ca:Nat) (hE:ERn w1 (fun j=>j<w1.heap.size∧ ¬ m.mut C.g j∧ ¬ C.J j) (.slice ae x.e.length ce) x.e) (hA:AGn w1 (fun j=>j<w1.heap.size∧ ¬ m.mut C.g j∧ ¬ C.J j) (.slice aa x.args.length ca) x.args):
  Calls Tryz.prog 30 #[.pointer (some ⟨C.g,0,none⟩),IV x ae ce aa ca] w1 fun e w'=>e= .returned (.int .i64 s.is.length)∧ ∃ m',MK C m' s' bk at' w'∧MS C.g m w m' w'∧(∀ p v,w1.cell? p=some v→ ¬ m.mut C.g p.block→w'.cell? p=some v):=by
 refine (mput_any (h.below hb) x hs ae ce aa ca hE hA).mono ?_
 rintro e w' ⟨rfl,m',h1,h2⟩
 exact ⟨rfl,m',h1,(MS.of_below hb).trans h2,fun p v hv hn=>h2.cell hv hn⟩
end
theorem si_beq (yt:ByteArray):(yt.toList == [115,105])=decide (yt=⟨#[115,105]⟩):=by
 have h:=ba_beq yt ⟨#[115,105]⟩
 rw [←h,Lib.toList_data ⟨#[115,105]⟩]
theorem ELone {w:World} {n g:Nat} {op k:Int} {nm:List UInt8} {L:List Sx.Tr} {P:Nat→Prop} {aL:Option Addr} {cL:Nat} (hL:EL w P n L (.slice aL L.length cL)) (h0:w.cell? ⟨g,0,none⟩=some (.int .i64 op)) (h1:w.cell? ⟨g,1,none⟩=some (.string (bs nm))) (h2:w.cell? ⟨g,2,none⟩=some (.int .i64 k)) (h3:w.cell? ⟨g,3,none⟩=some (.slice aL L.length cL)):EL w (fun _=>True) (n+1) [Sx.tE op nm k L] (.slice (some ⟨g,0,none⟩) 1 1):=
 EL.one trivial h0 (by simpa using h1) (by simpa using h2) (by simpa using h3) (hL.base (fun _ _ _=>trivial))
set_option maxRecDepth 100000 in
set_option maxHeartbeats 4000000 in
theorem lSend_any (n:Nat) {C:MC} {m:MA} {s s':Lw.St} {bk at':Int} {w:World} (P:Nat→Prop) (k:Nat) (y:Lw.Vr) (op kk:Int) (nm:List UInt8) (L:List Sx.Tr) (aL:Option Addr) (cL:Nat) (h:MK C m s bk at' w) (hy:s.vs[k]? =some y) (hE:EL w P n L (.slice aL L.length cL)) (hw:Sx.wE (n+1) [Sx.tE op nm kk L]≤1000000)
  (hs:(if y.2=⟨#[115,105]⟩ then Lw.put s bk at' ⟨5,k,0,0,0,⟨#[]⟩,Lw.stps s.vs (n+1) [Sx.tE op nm kk L],[],0,0,0⟩ else Lw.put s bk at' ⟨6,k,Cd.nmb s.vs (bs nm),0,0,⟨#[]⟩,[],[],0,0,0⟩)=some s'):
  Calls Tryz.prog 75 #[.pointer (some ⟨C.g,0,none⟩),.int .i64 k,.agg #[.int .i64 op,.string (bs nm),.int .i64 kk,.slice aL L.length cL]] w fun e w'=>e= .returned (.tuple #[])∧ ∃ m',MK C m' s' bk at' w'∧MS C.g m w m' w':=by
 have hk:=(List.getElem?_eq_some_iff.1 hy).1
 obtain ⟨a3,c3,e3,h3⟩:=h.vaR
 obtain ⟨h31,h33⟩:m.av=a3∧m.cv=c3:=by simpa using e3
 obtain ⟨gv,ov,h32,hcv⟩:=h3 (List.ne_nil_of_mem (List.mem_of_getElem? hy))
 have y1:=(hcv k _ hy).2
 obtain ⟨yn,yt⟩:=y
 dsimp only at y1 hs
 have v1:=h.c1
 rw [h31,h32] at v1
 have hb:Below w.heap.size w (w.alloc (.cells #[.int .i64 op,.string (bs nm),.int .i64 kk,.slice aL L.length cL] 112)):=(Below.refl _ _).alloc (Nat.le_refl _) _
 have v1:=bsome hb v1
 have y1:=bsome hb y1
 have hk0:(0:Int)≤(k:Int):=by omega
 have hk1:(k:Int)<(s.vs.length:Int):=by omega
 have HM:=hide h
 have HEL:=hide hE
 have HB0:=hide hb
 have hbq:=si_beq yt
 clear h hE hb h3 e3 hcv hy h31 h32 h33
 by_cases hq:yt=⟨#[115,105]⟩
 ·have d1:(yt.toList == [115,105])=true:=by rw [hbq];simpa using hq
  rw [if_pos hq] at hs
  have HSS:=hide hs
  clear hq hbq hs
  go_enter Tryz.func75,Tryz.ntmps75
  go_wp2_with fail
  obtain ⟨W,hW⟩: ∃ W,(w.alloc (.cells #[.int .i64 op,.string (bs nm),.int .i64 kk,.slice aL L.length cL] 112)).alloc (.cells #[.int .i64 op,.string (bs nm),.int .i64 kk,.slice aL L.length cL] 112)=W:=⟨_,rfl⟩
  have hbW:Below w.heap.size w W:=by rw [←hW];exact btrans HB0.out ((Below.refl _ _).alloc (Nat.le_refl _) _)
  have z0:W.cell? ⟨w.heap.size+1,0,none⟩=some (.int .i64 op):=by rw [←hW];simp [go_sem]
  have z1:W.cell? ⟨w.heap.size+1,1,none⟩=some (.string (bs nm)):=by rw [←hW];simp [go_sem]
  have z2:W.cell? ⟨w.heap.size+1,2,none⟩=some (.int .i64 kk):=by rw [←hW];simp [go_sem]
  have z3:W.cell? ⟨w.heap.size+1,3,none⟩=some (.slice aL L.length cL):=by rw [←hW];simp [go_sem]
  have hel:=ELone (HEL.out.keep (Kp.of_below (S:=[]) hbW) (by simp)) z0 z1 z2 z3
  rw [hW]
  have HBW:=hide hbW
  have CS:=hide (msteps_any (HM.out.below hbW) _ (n+1) [Sx.tE op nm kk L] _ hel hw W (Below.refl _ _))
  clear hW hbW hel z0 z1 z2 z3 v1 y1
  refine CS.out.mono ?_
  rintro e w1 ⟨u,rfl,ae,ce,rfl,her,hb1⟩
  have HR:=hide her
  have CP:=hide (mput2_any HM.out ⟨5,k,0,0,0,⟨#[]⟩,Lw.stps s.vs (n+1) [Sx.tE op nm kk L],[],0,0,0⟩ HSS.out _ (btrans HBW.out hb1) ae ce none 0 HR.out (AGn.nil _ _))
  unfold IV at CP
  dsimp only at CP
  clear her hb1 CS
  go_wp2_with fail
  refine CP.out.mono ?_
  rintro e w9 ⟨rfl,m9,hm9,hs9,-⟩
  have HM9:=hide hm9
  have HS9:=hide hs9
  clear hm9 hs9 CP
  go_wp2
  refine bodyPost_ret (v:= .tuple #[]) (results_none rfl _ _ _) rfl ⟨rfl,m9,HM9.out,HS9.out⟩
 ·have d1:(yt.toList == [115,105])=false:=by rw [hbq];simpa using hq
  rw [if_neg hq] at hs
  have HSS:=hide hs
  clear hq hbq hs
  go_enter Tryz.func75,Tryz.ntmps75
  go_wp2_with fail
  refine (mnum_any HM.out (bs nm) _ HB0.out).mono ?_
  rintro e w1 ⟨rfl,hb1⟩
  have CP:=hide (mput2_any HM.out ⟨6,k,Cd.nmb s.vs (bs nm),0,0,⟨#[]⟩,[],[],0,0,0⟩ HSS.out _ (btrans HB0.out hb1) none 0 none 0 (ERn.nil _ _) (AGn.nil _ _))
  unfold IV at CP
  dsimp only at CP
  clear hb1 v1 y1
  go_wp2_with fail
  refine CP.out.mono ?_
  rintro e w9 ⟨rfl,m9,hm9,hs9,-⟩
  have HM9:=hide hm9
  have HS9:=hide hs9
  clear hm9 hs9 CP
  go_wp2
  refine bodyPost_end (v:= .tuple #[]) (results_none rfl _ _ _) rfl ⟨rfl,m9,HM9.out,HS9.out⟩
set_option maxRecDepth 100000 in
set_option maxHeartbeats 4000000 in
theorem stmtF_any (n:Nat) {C:MC} {m:MA} {s s':Lw.St} {bk:Int} {w:World} (P:Nat→Prop) (ax:Int) (A B T:List UInt8) (N:Int) (E body els:List Sx.Tr) (aE aB aL:Option Addr) (cE cB cL:Nat) (h:MK C m s bk ax w) (hP: ∀ j,P j→j<w.heap.size∧ ¬ m.mut C.g j) (hE:EL w P (n+1) E (.slice aE E.length cE)) (hw:Sx.wE (n+1) E≤1000000) (x:Sx.Tr) (r:List Sx.Tr) (hx:E=x::r) (y:Lw.Vr) (hy:Lw.vat s.vs (Cd.nmb s.vs (bs A))=some y)
  (hs:(if y.2=⟨#[115,105]⟩ then Lw.put s bk ax ⟨5,Cd.nmb s.vs (bs A),0,0,0,⟨#[]⟩,Lw.stps s.vs (n+1) [x],[],0,0,0⟩ else Lw.put s bk ax ⟨6,Cd.nmb s.vs (bs A),Cd.nmb s.vs (bs (Sx.eH x).2.1),0,0,⟨#[]⟩,[],[],0,0,0⟩)=some s'):
  Calls Tryz.prog 45 #[.pointer (some ⟨C.g,0,none⟩),.agg #[.int .i64 6,.int .i64 ax,.string (bs A),.string (bs B),.string (bs T),.int .i64 N,.slice aE E.length cE,.slice aB body.length cB,.slice aL els.length cL]] w fun e w'=>e= .returned (.tuple #[])∧ ∃ m',MK C m' s' bk ax w'∧MS C.g m w m' w':=by
 obtain ⟨hy0,hy1,hy2⟩:=Lw.vat_some hy
 obtain ⟨k,hkk⟩: ∃ k:Nat,Cd.nmb s.vs (bs A)=(k:Int):=⟨(Cd.nmb s.vs (bs A)).toNat,by omega⟩
 rw [hkk,Int.toNat_natCast] at hy2
 rw [hkk] at hs
 have hwx:Sx.wE (n+1) [x]≤1000000:=by
  rw [hx] at hw
  simp only [Sx.wE,Sx.sum,List.length_cons,List.length_nil] at hw ⊢
  omega
 have hlen:0<E.length:=by rw [hx];simp
 obtain ⟨aE',cE',hv,hel⟩:=hE
 obtain ⟨rfl,rfl⟩:aE=aE'∧cE=cE':=by simpa using hv
 rcases hel with h0|⟨b,off,rfl,hPb,hc⟩
 ·rw [h0] at hlen;simp at hlen
 obtain ⟨op,nm,kk,L,u,rfl,x0,x1,x2,x3,hL⟩:=hc 0 x (by rw [hx];rfl)
 obtain ⟨aX,cX,rfl⟩:=hL.slice
 rw [Nat.zero_mul,Nat.add_zero] at x0 x1 x2 x3
 have HM:=hide h
 have HPB:=hide (hP b hPb)
 have HSN:=hide (fun w1 (hb:Below w.heap.size w w1)=>lSend_any n P k y op kk nm L aX cX (h.below hb) hy2 (hL.keep (Kp.of_below (S:=[]) hb) (by simp)) hwx hs)
 have HB0:Hid (Below w.heap.size w (w.alloc (.cells #[.int .i64 6,.int .i64 ax,.string (bs A),.string (bs B),.string (bs T),.int .i64 N,.slice (some ⟨b,off,none⟩) E.length cE,.slice aB body.length cB,.slice aL els.length cL] 75))):=hide ((Below.refl _ _).alloc (Nat.le_refl _) _)
 have hE0:(0:Int)<(E.length:Int):=by omega
 clear h hs hc hx hy hy0 hy1 hy2 hL hP hv hw hwx hPb
 go_enter Tryz.func45,Tryz.ntmps45
 go_wp2
 obtain ⟨W,hW⟩: ∃ W,w.alloc (.cells #[.int .i64 6,.int .i64 ax,.string (bs A),.string (bs B),.string (bs T),.int .i64 N,.slice (some ⟨b,off,none⟩) E.length cE,.slice aB body.length cB,.slice aL els.length cL] 75)=W:=⟨_,rfl⟩
 have hbW:Below w.heap.size w W:=by rw [hW] at HB0;exact HB0.out
 have HJ:Hid (∀ w',Below W.heap.size W w'→w'.cell? ⟨w.heap.size,2,none⟩=some (.string (bs A))∧w'.cell? ⟨w.heap.size,6,none⟩=some (.slice (some ⟨b,off,none⟩) E.length cE)∧w'.cell? ⟨b,off,none⟩=some (.int .i64 op)∧w'.cell? ⟨b,off+1,none⟩=some (.string (bs nm))∧w'.cell? ⟨b,off+2,none⟩=some (.int .i64 kk)∧w'.cell? ⟨b,off+3,none⟩=some (.slice aX L.length cX)):=hide (fun w' hb=>⟨bsome hb (by rw [←hW];simp [go_sem]),bsome hb (by rw [←hW];simp [go_sem]),bsome hb (bsome hbW x0),bsome hb (bsome hbW x1),bsome hb (bsome hbW x2),bsome hb (bsome hbW x3)⟩)
 have nbx: ¬ m.mut C.g w.heap.size:=HM.out.new (Nat.le_refl _)
 rw [hW] at HB0 ⊢
 clear hW hbW x0 x1 x2 x3
 have kc:Hid (Below W.heap.size W W.drew):=hide (below_drewN (Below.refl _ _) 1)
 obtain ⟨k2,k6,y0,y1,y2,y3⟩:=HJ.out W (Below.refl _ _)
 have HNA:=hide (fun w1 (hb:Below W.heap.size W w1)=>mnum_any HM.out (bs A) w1 (btrans HB0.out hb))
 rw [hkk] at HNA
 have HSE:=hide (fun w1 (hb:Below W.heap.size W w1)=>HSN.out w1 (btrans HB0.out hb))
 clear hkk
 go_region_held3 (fun w'=>w'.cell? ⟨w.heap.size,2,none⟩=some (.string (bs A))∧w'.cell? ⟨w.heap.size,6,none⟩=some (.slice (some ⟨b,off,none⟩) E.length cE)∧w'.cell? ⟨b,off,none⟩=some (.int .i64 op)∧w'.cell? ⟨b,off+1,none⟩=some (.string (bs nm))∧w'.cell? ⟨b,off+2,none⟩=some (.int .i64 kk)∧w'.cell? ⟨b,off+3,none⟩=some (.slice aX L.length cX)) ((first|exact ⟨by assumption,by assumption,by assumption,by assumption,by assumption,by assumption⟩|go_keep)) ((first
  |(go_at_call 47;with_reducible refine (HNA.out _ (by exact kc.out)).mono ?_;rintro e wq ⟨rfl,hbq⟩;have kd:=hide (btrans kc.out hbq);clear kc;have kc:=kd;clear kd hbq;obtain ⟨k2,k6,y0,y1,y2,y3⟩:=HJ.out _ kc.out)
  |(go_at_call 75;with_reducible refine (HSE.out _ (by exact kc.out)).mono ?_;rintro e w9 ⟨rfl,m9,hm9,hs9⟩;have HM9:=hide hm9;have HS9:=hide ((MS.of_below (btrans HB0.out kc.out)).trans hs9);have k2:=hs9.cell k2 nbx;have k6:=hs9.cell k6 nbx;have y0:=hs9.cell y0 HPB.out.2;have y1:=hs9.cell y1 HPB.out.2;have y2:=hs9.cell y2 HPB.out.2;have y3:=hs9.cell y3 HPB.out.2;clear hm9 hs9)))
 all_goals
  go_wp2
  refine bodyPost_end (v:= .tuple #[]) (results_none rfl _ _ _) rfl ⟨rfl,m9,HM9.out,HS9.out⟩
end Go.Proofs.YtcdcoiobpbdmpaaGreatDoor
