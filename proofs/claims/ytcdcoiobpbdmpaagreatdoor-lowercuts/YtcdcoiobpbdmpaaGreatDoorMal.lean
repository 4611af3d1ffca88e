import Derived.Test.YtcdcoiobpbdmpaaGreatDoorMak
namespace Go.Proofs.YtcdcoiobpbdmpaaGreatDoor
open Go.RowKit
theorem Sl.at9 {w:World} {P:Nat→Prop} {n:Nat} {l:List Sx.Tr} {a:Option Addr} {cap i:Nat} {d:Sx.Tr} (h:Sl (RS w P n) w P l (.slice a l.length cap)) (hd:l[i]? =some d): ∃ b off,a=some ⟨b,off,none⟩∧P b∧ ∃ c,RS w P n d c∧ ∀ (j:Nat) u,c[j]? =some u→w.cell? ⟨b,off+i * 9+j,none⟩=some u:=by
 obtain ⟨a',cap',hv,h⟩:=h
 obtain ⟨rfl,-⟩:a=a'∧cap=cap':=by simpa using hv
 rcases h with rfl|⟨b,off,cs,ha,hb,hr,hc⟩
 ·simp at hd
 obtain ⟨c,h1,h2⟩:=hr.at (z:=9) (fun d c h=>by obtain ⟨D,at',A,B,T,N,E,body,els,uE,uB,uL,_,h2,_⟩:=h;rw [h2];rfl) i d hd
 exact ⟨b,off,ha,hb,c,h1,fun j u hu=>by rw [Nat.add_assoc];exact hc _ _ (h2 j u hu)⟩
theorem MS.stay {g:Nat} {m m':MA} {w w':World} {P:Nat→Prop} (h:MS g m w m' w') (hP: ∀ j,P j→j<w.heap.size∧ ¬ m.mut g j) {j:Nat} (hj:P j):j<w'.heap.size∧ ¬ m'.mut g j:=by
 obtain ⟨h1,h2⟩:=hP j hj
 refine ⟨Nat.lt_of_lt_of_le h1 h.kx.size,fun e=> ?_⟩
 rcases h.mu j e with h3|h3
 ·exact h2 h3
 ·omega
set_option maxRecDepth 100000 in
set_option maxHeartbeats 4000000 in
theorem within_any (ab:List Lw.Ab) (n:Nat) (HC:LSmT ab n) (F:FuncId) (caps:Array Value) (hF: ∀ w,(callFunc F caps).run Tryz.prog w= .ok (.enter F caps) w) (J:Nat→Prop) (R:World→Prop) {C:MC} {m:MA} {s s':Lw.St} {bk at':Int} {w:World} (h:MK C m s bk at' w) (P:Nat→Prop) (hP: ∀ j,P j→j<w.heap.size∧ ¬ m.mut C.g j) (hA:ABm w P C.uA ab) (b1 b0 b2 b3:Int) (body:List Sx.Tr) (a:Option Addr) (cap:Nat) (hL:Sl (RS w P n) w P body (.slice a body.length cap)) (last:Lw.St→Int→Option Lw.St)
  (hs:Lw.within (Lw.stmt ab n) s bk at' (b1,b2,b3) body last=some s')
  (HE: ∀ m3 s3 w3,MK C m3 s3 s.bs.length at' w3→MS C.g m w m3 w3→last s3 s.bs.length=some s'→Calls Tryz.prog F caps w3 fun e w4=>e= .returned (.tuple #[])∧R w4∧ ∃ m4,MK C m4 s' s.bs.length at' w4∧MSJ J C.g m3 w3 m4 w4):
  Calls Tryz.prog 27 #[.pointer (some ⟨C.g,0,none⟩),.agg #[.int .i64 b1,.int .i64 b0,.int .i64 b2,.int .i64 b3],.slice a body.length cap,.func (.func F) #[] caps] w fun e w'=>e= .returned (.tuple #[])∧ ∃ w4 m',R w4∧w'=w4.setCell ⟨C.g,6,none⟩ (.int .i64 bk)∧MK C m' s' bk at' w'∧MSJ J C.g m w m' w':=by
 obtain ⟨i0,hi0,hz0,hz1,hz2⟩:=info_parts Tryz.infoB
 obtain ⟨hl1,hl2,s2,s3,hs1,hs2,hs3⟩:=Lw.within_some hs
 have hg:=h.gl
 have c3:=h.c3
 have c6:=h.c6
 have c7:=h.c7
 have f3:=h.thaw 3
 have f6:=h.thaw 6
 have hb:Below w.heap.size w (w.alloc (.cells #[.int .i64 b1,.int .i64 b0,.int .i64 b2,.int .i64 b3] 92)):=(Below.refl _ _).alloc (Nat.le_refl _) _
 have hne:C.g ≠ w.heap.size:=by omega
 have HM:=hide h
 have HPP:=hide hP
 have HAA:=hide hA
 have HLL:=hide hL
 have HS1:=hide hs1
 have HS2:=hide hs2
 have HS3:=hide hs3
 have HEE:=hide HE
 have HCC:=hide HC
 have p3:=bsome hb c3
 have p6:=bsome hb c6
 have p7:=bsome hb c7
 have g3:(w.alloc (.cells #[.int .i64 b1,.int .i64 b0,.int .i64 b2,.int .i64 b3] 92)).frozen? ⟨C.g,3,none⟩=false:=(World.frozen?_of_block (w:=w) (a:=⟨C.g,3,none⟩) (hb.block C.g hg)).trans f3
 have g6:(w.alloc (.cells #[.int .i64 b1,.int .i64 b0,.int .i64 b2,.int .i64 b3] 92)).frozen? ⟨C.g,6,none⟩=false:=(World.frozen?_of_block (w:=w) (a:=⟨C.g,6,none⟩) (hb.block C.g hg)).trans f6
 have q0:(w.alloc (.cells #[.int .i64 b1,.int .i64 b0,.int .i64 b2,.int .i64 b3] 92)).cell? ⟨w.heap.size,0,none⟩=some (.int .i64 b1):=by simp [go_sem]
 have q1:(w.alloc (.cells #[.int .i64 b1,.int .i64 b0,.int .i64 b2,.int .i64 b3] 92)).cell? ⟨w.heap.size,1,none⟩=some (.int .i64 b0):=by simp [go_sem]
 have q2:(w.alloc (.cells #[.int .i64 b1,.int .i64 b0,.int .i64 b2,.int .i64 b3] 92)).cell? ⟨w.heap.size,2,none⟩=some (.int .i64 b2):=by simp [go_sem]
 have q3:(w.alloc (.cells #[.int .i64 b1,.int .i64 b0,.int .i64 b2,.int .i64 b3] 92)).cell? ⟨w.heap.size,3,none⟩=some (.int .i64 b3):=by simp [go_sem]
 have g1:(w.alloc (.cells #[.int .i64 b1,.int .i64 b0,.int .i64 b2,.int .i64 b3] 92)).frozen? ⟨w.heap.size,1,none⟩=false:=by simp [go_sem]
 have HM0:=hide (h.below hb)
 clear hL hA hP HE HC hs hs1 hs2 hs3 h hb c3 c6 c7 f3 f6
 go_enter Tryz.func27,Tryz.ntmps27
 go_wp2
 obtain ⟨W,hW⟩: ∃ W,w.alloc (.cells #[.int .i64 b1,.int .i64 b0,.int .i64 b2,.int .i64 b3] 92)=W:=⟨_,rfl⟩
 have hb:Below w.heap.size w W:=by rw [←hW];exact (Below.refl _ _).alloc (Nat.le_refl _) _
 have hWs:W.heap.size=w.heap.size+1:=by rw [←hW];simp
 rw [hW] at p3 p6 p7 g3 g6 q0 q1 q2 q3 g1 HM0 ⊢
 clear hW
 go_region
 go_wp2
 go_region
 obtain ⟨W2,hW2⟩: ∃ W2,((W.setCell ⟨w.heap.size,1,none⟩ (.int .i64 bk)).setCell ⟨C.g,6,none⟩ (.int .i64 s.bs.length)).drew.drew=W2:=⟨_,rfl⟩
 have hX1:Below w.heap.size w (W.setCell ⟨w.heap.size,1,none⟩ (.int .i64 bk)):=hb.setCell (Nat.le_refl _) _
 obtain ⟨hmx,hsx⟩:=(HM.out.below hX1).set6 s.bs.length
 have HM2:Hid (MK C m s s.bs.length at' W2):=hide (by rw [←hW2];exact hmx.below (below_drewN (Below.refl _ _) 2))
 have HS0:Hid (MS C.g m w m W2):=hide (by rw [←hW2];exact (MS.of_below hX1).trans (hsx.trans (MS.of_below (below_drewN (Below.refl _ _) 2))))
 have r0:W2.cell? ⟨w.heap.size,0,none⟩=some (.int .i64 b1):=by
  rw [←hW2];exact (World.cell?_setCell_other _ _ _ _ (fun e=>by injection e with e1 e2;omega)).trans ((World.cell?_setCell_other _ _ _ _ (fun e=>by injection e with e1 e2;omega)).trans q0)
 have r1:W2.cell? ⟨w.heap.size,1,none⟩=some (.int .i64 bk):=by
  rw [←hW2];exact (World.cell?_setCell_other _ _ _ _ (fun e=>by injection e with e1 e2;omega)).trans (World.cell?_setCell_same _ _ _ q1)
 have r2:W2.cell? ⟨w.heap.size,2,none⟩=some (.int .i64 b2):=by
  rw [←hW2];exact (World.cell?_setCell_other _ _ _ _ (fun e=>by injection e with e1 e2;omega)).trans ((World.cell?_setCell_other _ _ _ _ (fun e=>by injection e with e1 e2;omega)).trans q2)
 have r3:W2.cell? ⟨w.heap.size,3,none⟩=some (.int .i64 b3):=by
  rw [←hW2];exact (World.cell?_setCell_other _ _ _ _ (fun e=>by injection e with e1 e2;omega)).trans ((World.cell?_setCell_other _ _ _ _ (fun e=>by injection e with e1 e2;omega)).trans q3)
 have hsz2:W2.heap.size=w.heap.size+1:=by rw [←hW2];show ((W.setCell ⟨w.heap.size,1,none⟩ (.int .i64 bk)).setCell ⟨C.g,6,none⟩ (.int .i64 s.bs.length)).heap.size=_;simp [World.setCell,hWs]
 rw [hW2]
 clear hW2 hX1 hmx hsx p3 p6 p7 g3 g6 q0 q1 q2 q3 g1 HM0 hb HM
 have p3:=HM2.out.c3
 have p3f:W2.frozen? ⟨C.g,3,none⟩=false:=HM2.out.thaw 3
 have HOW:Hid ((W2.alloc (.cells #[.int .i64 b1,.int .i64 bk,.int .i64 b2,.int .i64 b3] 92)).drew.ownsRow (C.g+1) 92 4 (.slice m.ab s.bs.length m.cb) s.bs.length (s.bs.flatMap Cd.bcl)):=hide (HM2.out.obk.alloc _)
 have HCN:Hid (∀ (j:Nat) (u:Value),([.int .i64 b1,.int .i64 bk,.int .i64 b2,.int .i64 b3]:List Value)[j]? =some u→(W2.alloc (.cells #[.int .i64 b1,.int .i64 bk,.int .i64 b2,.int .i64 b3] 92)).drew.cell? ((⟨W2.heap.size,0,none⟩:Addr).add j)=some u):=hide (four_new W2 _ _ _ _ 92)
 have p3a:(W2.alloc (.cells #[.int .i64 b1,.int .i64 bk,.int .i64 b2,.int .i64 b3] 92)).cell? ⟨C.g,3,none⟩=some (.slice m.ab s.bs.length m.cb):=bsome ((Below.refl W2.heap.size W2).alloc (Nat.le_refl _) _) p3
 have p3b:(W2.alloc (.cells #[.int .i64 b1,.int .i64 bk,.int .i64 b2,.int .i64 b3] 92)).drew.cell? ⟨C.g,3,none⟩=some (.slice m.ab s.bs.length m.cb):=p3a
 have HNE:Hid (some C.g ≠ (Value.slice m.ab s.bs.length m.cb).ownBlock):=hide (fun e=>by have:=(HM2.out.obk.lt _ e.symm).1;omega)
 have hgW2:C.g<W2.heap.size:=by omega
 clear hsz2 hWs
 go_wp2
 go_region_law ((refine step_append_lies _ rfl _ _ 36 rfl (C.g+1) 92 i0 (.agg #[.int .i64 0,.int .i64 0,.int .i64 0,.int .i64 0]) 4 32 Tryz.underlying36 hi0 hz0 hz1 hz2 rfl (by decide) (.slice m.ab s.bs.length m.cb) s.bs.length (s.bs.flatMap Cd.bcl) (by rfl) (by exact HOW.out) ⟨W2.heap.size,0,none⟩ 1 1 [.int .i64 b1,.int .i64 bk,.int .i64 b2,.int .i64 b3] (by rfl) rfl (by exact HCN.out) (by intro u hu;simp at hu;rcases hu with rfl|rfl|rfl|rfl<;> rfl) (by decide) (by unfold maxLen;omega) (by omega) (by simp;omega) _ rfl ?_;intro gn cap2 w7 hown hgrow hat hlt7;have hb7:w7.heap[C.g]? =W2.heap[C.g]? :=(hgrow.block C.g (by simp;omega) HNE.out).trans (((Below.refl W2.heap.size W2).alloc (Nat.le_refl _) _).block C.g hgW2);have z7:w7.cell? ⟨C.g,3,none⟩=some (.slice m.ab s.bs.length m.cb):=(World.cell?_of_block (w:=W2) (a:=⟨C.g,3,none⟩) hb7).trans p3;have y7:w7.frozen? ⟨C.g,3,none⟩=false:=(World.frozen?_of_block (w:=W2) (a:=⟨C.g,3,none⟩) hb7).trans p3f;have HOWN:=hide hown;have HGRO:=hide hgrow;have HAT:=hide hat;clear hown hgrow hat hb7))
 all_goals
  obtain ⟨hm8,hs8⟩:=MK.addB (b:=(b1,bk,b2,b3)) HM2.out (below_drewN ((Below.refl W2.heap.size W2).alloc (Nat.le_refl _) _) 1) HOWN.out HGRO.out HAT.out
  generalize MA.mk m.av m.cv (some ⟨gn,0,none⟩) cap2 m.ai m.ci=m8 at hm8 hs8
  obtain ⟨W8,hW8⟩: ∃ W8,w7.setCell ⟨C.g,3,none⟩ (.slice (some ⟨gn,0,none⟩) (s.bs.length+1) cap2)=W8:=⟨_,rfl⟩
  rw [hW8] at hm8 hs8 ⊢
  have HM8:=hide hm8
  have HS8:Hid (MS C.g m w m8 W8):=hide (HS0.out.trans hs8)
  clear hW8 hm8 hs8 HOWN HGRO HAT HOW HCN HNE z7 y7 p3 p3f p3a p3b r0 r1 r2 r3 HM2 HS0 hgW2
  go_wp2
  go_loopw [47] (fun iv wr=> ∃ (i:Nat) (mi:MA) (si:Lw.St),i≤body.length∧iv= .int .i64 i∧Hid (∃ ax,MK C mi si s.bs.length ax wr)∧Hid (MS C.g m w mi wr)∧Hid (Lw.stmts (Lw.stmt ab n) si s.bs.length (body.drop i)=some s2)) (fun iv _=>body.length - (intOf iv).toNat)
  case atStart=>exact ⟨0,m8,_,Nat.zero_le _,rfl,hide ⟨_,HM8.out⟩,HS8,by simpa using HS1⟩
  case round=>
   obtain ⟨i,mi,si,hi,rfl,HMI,HSI,HT⟩:=hrel
   clear HM8 HS8 HS1
   by_cases hlt:i<body.length
   ·have d1:decide ((i:Int)<(body.length:Int))=true:=by simp;omega
    obtain ⟨d,hd⟩: ∃ y,body[i]? =some y:=⟨_,List.getElem?_eq_getElem hlt⟩
    obtain ⟨b,off,rfl,hPb,c,hRS,hcc⟩:=Sl.at9 HLL.out hd
    have ht:=HT.out
    rw [show body.drop i=d::body.drop (i+1) from by rw [List.drop_eq_getElem_cons hlt,(List.getElem?_eq_some_iff.1 hd).2]] at ht
    obtain ⟨sj,ht1,ht2⟩:=Option.bind_eq_some_iff.1 ht
    have HT2:=hide ht2
    have HPI:Hid (∀ j,P j→j<wr.heap.size∧ ¬ mi.mut C.g j):=hide (fun j hj=>HSI.out.stay HPP.out hj)
    have hRS':=hRS.keepX HSI.out.kx (fun j hj=>(HPP.out j hj).2)
    have HRI:=hide hRS'
    have HAI:=hide (HAA.out.keepX HSI.out.kx (fun j hj=>(HPP.out j hj).2))
    have hcx: ∀ (j:Nat) u,c[j]? =some u→wr.cell? ⟨b,off+i * 9+j,none⟩=some u:=fun j u hu=>HSI.out.cell (hcc j u hu) (HPP.out b hPb).2
    obtain ⟨D,ax,A,B,T,N,E,bd,els,uE,uB,uL,rfl,rfl,hf1,hf2,hf3⟩:=hRS
    obtain ⟨aE,cE,rfl⟩:=hf1.slice
    obtain ⟨aB,cB,rfl⟩:=hf2.slice
    obtain ⟨aL,cL,rfl⟩:=hf3.slice
    have x0:wr.cell? ⟨b,off+i * 9,none⟩=some (.int .i64 D):=hcx 0 _ rfl
    have x1:=hcx 1 _ rfl
    have x2:=hcx 2 _ rfl
    have x3:=hcx 3 _ rfl
    have x4:=hcx 4 _ rfl
    have x5:=hcx 5 _ rfl
    have x6:=hcx 6 _ rfl
    have x7:=hcx 7 _ rfl
    have x8:=hcx 8 _ rfl
    obtain ⟨ay,hmi⟩:=HMI.out
    have y7:=hmi.c7
    have y7f:=hmi.thaw 7
    have HMY:=hide hmi
    have HT1:=hide ht1
    have hgr:=hmi.gl
    have hi0':(0:Int)≤(i:Int):=by omega
    have hi1':(i:Int)<(body.length:Int):=by omega
    clear ht ht1 ht2 HT hRS' hcx hcc hd HMI hmi
    clear hf1 hf2 hf3
    obtain ⟨hm7,hs7⟩:=HMY.out.set7 ax
    have hbx:Below (wr.setCell ⟨C.g,7,none⟩ (.int .i64 ax)).heap.size (wr.setCell ⟨C.g,7,none⟩ (.int .i64 ax)) ((wr.setCell ⟨C.g,7,none⟩ (.int .i64 ax)).alloc (.cells #[.int .i64 D,.int .i64 ax,.string (bs A),.string (bs B),.string (bs T),.int .i64 N,.slice aE E.length cE,.slice aB bd.length cB,.slice aL els.length cL] 75)):=(Below.refl _ _).alloc (Nat.le_refl _) _
    have HM7:=hide (hm7.below hbx)
    have HS7:=hide (HSI.out.trans (hs7.trans (MS.of_below hbx)))
    have HK7:=hide (hs7.trans (MS.of_below hbx))
    clear hm7 hs7 hbx
    go_wp2_with fail
    refine (HCC.out C mi si sj _ _ P _ _ HM7.out (fun j hj=>HK7.out.stay HPI.out hj) (HAI.out.keepX HK7.out.kx (fun j hj=>(HPI.out j hj).2)) (HRI.out.keepX HK7.out.kx (fun j hj=>(HPI.out j hj).2)) HT1.out).mono ?_
    rintro e w9 ⟨rfl,m9,hm9,hs9⟩
    have HM9:=hide hm9
    have HS9:=hide (HS7.out.trans hs9)
    clear hm9 hs9 HM7 HS7 HK7 HSI HPI HAI HRI HT1 HMY y7 y7f x0 x1 x2 x3 x4 x5 x6 x7 x8
    go_wp2
    go_roundw
    case rel=>exact ⟨i+1,m9,sj,by omega,by go_num,hide ⟨_,HM9.out⟩,HS9,HT2⟩
    case measure=>simp [intOf];omega
   ·obtain rfl:i=body.length:=by omega
    have d1:decide ((body.length:Int)<(body.length:Int))=false:=by simp
    have hfin:si=s2:=by have:=HT.out;rw [List.drop_length] at this;exact Option.some.inj this
    subst hfin
    obtain ⟨ay,hmi⟩:=HMI.out
    have y7:=hmi.c7
    have y7f:=hmi.thaw 7
    obtain ⟨hm7,hs7⟩:=hmi.set7 at'
    have HM7:=hide hm7
    have HS7:=hide (HSI.out.trans hs7)
    clear hmi hm7 hs7 HMI HSI HT
    go_wp2
    generalize wr.setCell ⟨C.g,7,none⟩ (.int .i64 at')=V at *
    go_loopw [66] (fun iv wz=> ∃ (i:Nat) (mj:MA) (sj:Lw.St),i≤body.length∧iv= .int .i64 i∧Hid (MK C mj sj s.bs.length at' wz)∧Hid (MS C.g m w mj wz)∧Hid (Lw.overs sj s.bs.length at' (body.drop i)=some s3)) (fun iv _=>body.length - (intOf iv).toNat)
    case atStart=>exact ⟨0,mi,si,Nat.zero_le _,rfl,HM7,HS7,by simpa using HS2⟩
    case round=>
     obtain ⟨i,mj,sj,hi,rfl,HMI,HSI,HT⟩:=hrel
     clear HM7 HS7 HS2
     by_cases hlt:i<body.length
     ·have d1:decide ((i:Int)<(body.length:Int))=true:=by simp;omega
      obtain ⟨d,hd⟩: ∃ y,body[i]? =some y:=⟨_,List.getElem?_eq_getElem hlt⟩
      obtain ⟨b,off,rfl,hPb,c,hRS,hcc⟩:=Sl.at9 HLL.out hd
      have ht:=HT.out
      rw [show body.drop i=d::body.drop (i+1) from by rw [List.drop_eq_getElem_cons hlt,(List.getElem?_eq_some_iff.1 hd).2]] at ht
      obtain ⟨sk,ht1,ht2⟩:=Option.bind_eq_some_iff.1 ht
      have HT2:=hide ht2
      have hcx: ∀ (j:Nat) u,c[j]? =some u→wr.cell? ⟨b,off+i * 9+j,none⟩=some u:=fun j u hu=>HSI.out.cell (hcc j u hu) (HPP.out b hPb).2
      obtain ⟨D,ax,A,B,T,N,E,bd,els,uE,uB,uL,rfl,rfl,hf1,hf2,hf3⟩:=hRS
      obtain ⟨aE,cE,rfl⟩:=hf1.slice
      obtain ⟨aB,cB,rfl⟩:=hf2.slice
      obtain ⟨aL,cL,rfl⟩:=hf3.slice
      have x0:wr.cell? ⟨b,off+i * 9,none⟩=some (.int .i64 D):=hcx 0 _ rfl
      have x1:=hcx 1 _ rfl
      have x2:=hcx 2 _ rfl
      have x3:=hcx 3 _ rfl
      have x4:=hcx 4 _ rfl
      have x5:=hcx 5 _ rfl
      have x6:=hcx 6 _ rfl
      have x7:=hcx 7 _ rfl
      have x8:=hcx 8 _ rfl
      have hi0':(0:Int)≤(i:Int):=by omega
      have hi1':(i:Int)<(body.length:Int):=by omega
      have HT1:Hid (Lw.over sj s.bs.length at' (Cd.bnd D (bs A) (bs B))=some sk):=hide ht1
      have CB:=hide (bound_any D ax (bs A) (bs B) (bs T) N (.slice aE E.length cE) (.slice aB bd.length cB) (.slice aL els.length cL) (wr.alloc (.cells #[.int .i64 D,.int .i64 ax,.string (bs A),.string (bs B),.string (bs T),.int .i64 N,.slice aE E.length cE,.slice aB bd.length cB,.slice aL els.length cL] 75)))
      have hbx:Below wr.heap.size wr (wr.alloc (.cells #[.int .i64 D,.int .i64 ax,.string (bs A),.string (bs B),.string (bs T),.int .i64 N,.slice aE E.length cE,.slice aB bd.length cB,.slice aL els.length cL] 75)):=(Below.refl _ _).alloc (Nat.le_refl _) _
      have HBX:=hide hbx
      have hbd:(Cd.bnd D (bs A) (bs B)).length≤1000000:=by unfold Cd.bnd;split;(simp);(split<;> simp)
      generalize Cd.bnd D (bs A) (bs B)=BN at *
      clear ht ht1 ht2 HT hcx hcc hd hf1 hf2 hf3 hbx
      go_wp2_with fail
      refine CB.out.mono ?_
      rintro e w5 ⟨an,cn,rfl,htx,hnew,hb5⟩
      have hbw:=btrans HBX.out hb5
      have HM5:=hide (HMI.out.below hbw)
      have HS5:=hide (HSI.out.trans (MS.of_below hbw))
      have CO:=hide (lOver_any HM5.out an cn BN htx (fun j hj=>HMI.out.new (Nat.le_trans HBX.out.size (hnew j (by rw [ob_own];exact hj)))) hbd HT1.out)
      clear CB htx hnew hb5 hbw HBX HMI HSI HT1 x0 x1 x2 x3 x4 x5 x6 x7 x8
      go_wp2_with fail
      refine CO.out.mono ?_
      rintro e w6 ⟨rfl,m6,hm6,hs6⟩
      have HM6:=hide hm6
      have HS6:=hide (HS5.out.trans hs6)
      clear hm6 hs6 CO HM5 HS5
      go_wp2
      go_roundw
      case rel=>exact ⟨i+1,m6,sk,by omega,by go_num,HM6,HS6,HT2⟩
      case measure=>simp [intOf];omega
     ·obtain rfl:i=body.length:=by omega
      have d1:decide ((body.length:Int)<(body.length:Int))=false:=by simp
      have hfin:sj=s3:=by have:=HT.out;rw [List.drop_length] at this;exact Option.some.inj this
      subst hfin
      clear HT
      go_wp2_with fail
      refine (HEE.out mj sj wr HMI.out HSI.out HS3.out).mono ?_
      rintro e w4 ⟨rfl,hR,m4,hm4,hs4⟩
      have y6:=hm4.c6
      have y6f:=hm4.thaw 6
      obtain ⟨hm5,hs5⟩:=hm4.set6 bk
      have HM5:=hide hm5
      have HR:=hide hR
      have HS5:=hide ((MSJ.of HSI.out).trans (hs4.trans (MSJ.of hs5)))
      clear hm4 hs4 hm5 hs5 hR HMI HSI
      go_wp2
      refine bodyPost_end (v:= .tuple #[]) (results_none rfl _ _ _) rfl ⟨rfl,w4,m4,HR.out,rfl,HM5.out,HS5.out⟩
end Go.Proofs.YtcdcoiobpbdmpaaGreatDoor
