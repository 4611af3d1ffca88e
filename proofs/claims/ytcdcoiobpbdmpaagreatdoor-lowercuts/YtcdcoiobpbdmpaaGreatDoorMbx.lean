import Derived.Test.YtcdcoiobpbdmpaaGreatDoorMbw
import Derived.BigRegion
namespace Go.Proofs.YtcdcoiobpbdmpaaGreatDoor
open Go.RowKit
theorem cells_at (w:World) (q:PV) (p:Cd.Pr) (t:TypeId): ∀ (j:Nat) u,(q.cells p)[j]? =some u→(w.alloc (.cells (q.cells p) t)).cell? ⟨w.heap.size,j,none⟩=some u:=by
 intro j u hu
 simp [go_sem,hu]
theorem agg_four (w:World) (x y z u:Value) (t:TypeId):(w.alloc (.cells #[x,y,z,u] t)).cell? ⟨w.heap.size,0,none⟩=some x∧(w.alloc (.cells #[x,y,z,u] t)).cell? ⟨w.heap.size,1,none⟩=some y∧(w.alloc (.cells #[x,y,z,u] t)).cell? ⟨w.heap.size,2,none⟩=some z∧(w.alloc (.cells #[x,y,z,u] t)).cell? ⟨w.heap.size,3,none⟩=some u:=by
 refine ⟨?_,?_,?_,?_⟩<;> simp [go_sem]
set_option maxRecDepth 100000 in
set_option maxHeartbeats 2000000 in
theorem ckBlockFits_any (q:PV) (p:Cd.Pr) (ua:Option Addr) (n uc:Nat) (b:Int × Int × Int × Int) (i:Nat) (w:World) (h:PC q p w):
  Calls Tryz.prog 50 #[.agg (q.ck p ua n uc),.agg #[.int .i64 b.1,.int .i64 b.2.1,.int .i64 b.2.2.1,.int .i64 b.2.2.2],.int .i64 (i:Int)] w fun e w'=>e= .returned (.bool (Ck.blk p i b))∧Below w.heap.size w w':=by
 obtain ⟨bk,bp,ba,bn⟩:=b
 dsimp only
 have hb1:Below w.heap.size w (w.alloc (.cells (q.ck p ua n uc) 62)):=(Below.refl _ _).alloc (Nat.le_refl _) _
 have hb2:=(Below.refl (w.alloc (.cells (q.ck p ua n uc) 62)).heap.size (w.alloc (.cells (q.ck p ua n uc) 62))).alloc (Nat.le_refl _) (.cells #[.int .i64 bk,.int .i64 bp,.int .i64 ba,.int .i64 bn] 92)
 have HB:=hide (btrans hb1 hb2)
 have CT:=hide (ckTypeOf_any q p ua n uc ba _ (h.keep (btrans hb1 hb2)))
 have CR:=hide (fun w'=>lReceives_any (Cd.typ p ba) w')
 obtain ⟨t0,t1,t2,t3,t4,t5⟩:=(KB.new q p ua n uc w).keep hb2
 obtain ⟨b0,b1,b2,b3⟩:=agg_four (w.alloc (.cells (q.ck p ua n uc) 62)) (.int .i64 bk) (.int .i64 bp) (.int .i64 ba) (.int .i64 bn) 92
 have HE:Hid (Ck.blk p i (bk,bp,ba,bn)=((decide (0≤bn) && decide (bn≤6)) && if i=0 then bk == 1 else (decide (0≤bp) && decide (bp<(i:Int))) && if bk=2 then decide ((Cd.typ p ba).data.toList.head? =some 114) else decide (3≤bk) && decide (bk≤5))):=hide rfl
 generalize Ck.blk p i (bk,bp,ba,bn)=R at *
 generalize decide ((Cd.typ p ba).data.toList.head? =some 114)=D at *
 generalize Cd.typ p ba=T at *
 clear h hb1 hb2
 unfold PV.ck at *
 by_cases g1:0≤bn
 ·have d1:decide (bn<0)=false:=by simp;omega
  by_cases g2:bn≤6
  ·have d2:decide ((6:Int)<bn)=false:=by simp;omega
   by_cases g3:i=0
   ·subst g3
    have HE2:Hid (R=(bk == 1)):=hide (by rw [HE.out,decide_eq_true g1,decide_eq_true g2];rfl)
    clear HE g1 g2
    go_enter Tryz.func50,Tryz.ntmps50
    go_wp2
    go_ret
    exact ⟨by rw [HE2.out];rfl,HB.out⟩
   ·have d3:((i:Int) == 0)=false:=by simp;omega
    by_cases g4:0≤bp∧bp<(i:Int)
    ·have d4:decide (bp<0)=false:=by simp;omega
     have d5:decide ((i:Int)≤bp)=false:=by simp;omega
     have HE2:Hid (R=if bk=2 then D else decide (3≤bk) && decide (bk≤5)):=hide (by rw [HE.out,decide_eq_true g1,decide_eq_true g2,if_neg g3,decide_eq_true g4.1,decide_eq_true g4.2];rfl)
     clear HE g1 g2 g3 g4
     by_cases k2:bk=2
     ·subst k2
      rw [if_pos rfl] at HE2
      go_enter Tryz.func50,Tryz.ntmps50
      go_wp2_with fail
      refine CT.out.mono ?_
      rintro e w3 ⟨rfl,hb3⟩
      have HB3:=hide (btrans HB.out hb3)
      clear hb3
      go_wp2_with fail
      refine (CR.out _).mono ?_
      rintro e w4 ⟨rfl,rfl⟩
      go_wp2
      go_ret
      exact ⟨by rw [HE2.out];rfl,HB3.out⟩
     ·rw [if_neg k2] at HE2
      have f2:(bk == 2)=false:=by simpa using k2
      by_cases k3:3≤bk∧bk≤5
      ·have HE3:Hid (R=true):=hide (by rw [HE2.out,decide_eq_true k3.1,decide_eq_true k3.2];rfl)
       have k4:bk=3∨bk=4∨bk=5:=by omega
       clear HE2 k3 k2
       rcases k4 with rfl|rfl|rfl
       all_goals
        go_enter Tryz.func50,Tryz.ntmps50
        go_wp2
        go_ret
        exact ⟨by rw [HE3.out];rfl,HB.out⟩
      ·have HE3:Hid (R=false):=hide (by
        rw [HE2.out,Bool.and_eq_false_iff]
        by_cases k5:3≤bk
        ·exact .inr (decide_eq_false (fun k6=>k3 ⟨k5,k6⟩))
        ·exact .inl (decide_eq_false k5))
       have f3:(bk == 3)=false:=by simp;omega
       have f4:(bk == 4)=false:=by simp;omega
       have f5:(bk == 5)=false:=by simp;omega
       clear HE2 k2 k3
       go_enter Tryz.func50,Tryz.ntmps50
       go_wp2
       go_ret
       exact ⟨by rw [HE3.out];rfl,HB.out⟩
    ·have HE3:Hid (R=false):=hide (by
      rw [HE.out,decide_eq_true g1,decide_eq_true g2,if_neg g3]
      have:(decide (0≤bp) && decide (bp<(i:Int)))=false:=by
       rw [Bool.and_eq_false_iff]
       by_cases k5:0≤bp
       ·exact .inr (decide_eq_false (fun k6=>g4 ⟨k5,k6⟩))
       ·exact .inl (decide_eq_false k5)
      rw [this]
      rfl)
     clear HE g1 g2 g3
     by_cases k5:0≤bp
     ·have d4:decide (bp<0)=false:=by simp;omega
      have d5:decide ((i:Int)≤bp)=true:=by simp;omega
      clear g4 k5
      go_enter Tryz.func50,Tryz.ntmps50
      go_wp2
      go_ret
      exact ⟨by rw [HE3.out];rfl,HB.out⟩
     ·have d4:decide (bp<0)=true:=by simp;omega
      clear g4 k5
      go_enter Tryz.func50,Tryz.ntmps50
      go_wp2
      go_ret
      exact ⟨by rw [HE3.out];rfl,HB.out⟩
  ·have d2:decide ((6:Int)<bn)=true:=by simp;omega
   have HE3:Hid (R=false):=hide (by rw [HE.out,decide_eq_true g1,decide_eq_false g2];rfl)
   clear HE g1 g2
   go_enter Tryz.func50,Tryz.ntmps50
   go_wp2
   go_ret
   exact ⟨by rw [HE3.out];rfl,HB.out⟩
 ·have d1:decide (bn<0)=true:=by simp;omega
  have HE3:Hid (R=false):=hide (by rw [HE.out,decide_eq_false g1];rfl)
  clear HE g1
  go_enter Tryz.func50,Tryz.ntmps50
  go_wp2
  go_ret
  exact ⟨by rw [HE3.out];rfl,HB.out⟩
theorem ckType_any (t:ByteArray) (ends:Int) (w:World) (hn:t.size≤1000):Calls Tryz.prog 49 #[.string t,.int .i64 ends] w fun e w'=>e= .returned (.bool (Rn.isT t.data.toList ends))∧Below w.heap.size w w':=by
 have h:=rType_any t.data.toList ends w (by
  have:t.data.toList.length=t.size:=by simp
  omega)
 have e:bs t.data.toList=t:=by simp [bs]
 rw [e] at h
 exact h.mono fun e w' h=>⟨h.1,h.2.os,h.2.tape,h.2.output,h.2.size,fun k hk=>h.2.block k hk (by simp)⟩
def PrOK (p:Cd.Pr):Prop:=TyOK p∧p.vars.length≤1000000∧p.blocks.length≤1000000∧p.ins.length≤1000000
set_option maxRecDepth 100000 in
set_option maxHeartbeats 4000000 in
theorem ckFrame_any (q:PV) (p:Cd.Pr) (ua:Option Addr) (n uc:Nat) (w:World) (h:PC q p w) (hp:PrOK p):
  Calls Tryz.prog 31 #[.agg (q.ck p ua n uc)] w fun e w'=>e= .returned (.int .i64 (Ck.frame p))∧Below w.heap.size w w':=by
 have hb1:Below w.heap.size w (w.alloc (.cells (q.ck p ua n uc) 62)):=(Below.refl _ _).alloc (Nat.le_refl _) _
 have HB:=hide hb1
 have HK:=hide (KB.new q p ua n uc w)
 have CB:Hid (∀ (b:Int × Int × Int × Int) (i:Nat) (w':World),Below w.heap.size w w'→Calls Tryz.prog 50 #[.agg (q.ck p ua n uc),.agg #[.int .i64 b.1,.int .i64 b.2.1,.int .i64 b.2.2.1,.int .i64 b.2.2.2],.int .i64 (i:Int)] w' fun e w''=>e= .returned (.bool (Ck.blk p i b))∧Below w'.heap.size w' w''):=hide (fun b i w' hb=>ckBlockFits_any q p ua n uc b i w' (h.keep hb))
 obtain ⟨va,vc,e1,hv⟩:=h.vars
 obtain ⟨ba,bc,e2,hbl⟩:=h.blocks
 obtain ⟨qa,qc,qb,qd,qi,qe⟩:=q
 obtain ⟨rfl,rfl⟩:qa=va∧qc=vc:=by simpa using e1
 obtain ⟨rfl,rfl⟩:qb=ba∧qd=bc:=by simpa using e2
 have HV:=hide hv
 have HBL:=hide hbl
 obtain ⟨hT,hn1,hn2,hn3⟩:=hp
 have HTy:=hide hT
 clear h e1 e2 hv hbl hT hb1
 unfold PV.ck at *
 dsimp only at *
 go_enter Tryz.func31,Tryz.ntmps31
 go_wp2
 generalize w.alloc _=w1 at *
 go_loopw [11] (fun iv wr=> ∃ k:Nat,k≤p.vars.length∧iv= .int .i64 k∧Hid (Below w1.heap.size w1 wr∧Ck.types p.vars=Ck.types (p.vars.drop k))) (fun iv _=>p.vars.length - (intOf iv).toNat)
 case atStart=>exact ⟨0,Nat.zero_le _,rfl,hide ⟨Below.refl _ _,rfl⟩⟩
 case round=>
  obtain ⟨k,hk,rfl,HI⟩:=hrel
  by_cases hlt:k<p.vars.length
  ·obtain ⟨⟨vn,vt⟩,hx⟩: ∃ x,p.vars[k]? =some x:=⟨_,List.getElem?_eq_getElem hlt⟩
   obtain ⟨g,o,rfl,hc⟩:=HV.out (List.ne_nil_of_mem (List.mem_of_getElem? hx))
   obtain ⟨c1,c2⟩:=hc k _ hx
   have c1:=bsome (btrans HB.out HI.out.1) c1
   have c2:=bsome (btrans HB.out HI.out.1) c2
   have HN:Hid (Ck.types p.vars=(Rn.isT vt.data.toList 3 && Ck.types (p.vars.drop (k+1)))):=hide (by
    rw [HI.out.2,List.drop_eq_getElem_cons hlt]
    rw [List.getElem?_eq_getElem hlt,Option.some.injEq] at hx
    rw [hx]
    rfl)
   have CY:=hide (fun w'=>ckType_any vt 3 w' (Nat.le_trans (HTy.out _ (List.mem_of_getElem? hx)) (by decide)))
   have HBA:=hide (btrans HI.out.1 ((Below.refl _ _).alloc (Nat.le_refl _) (.cells #[.string vn,.string vt] 98)))
   obtain ⟨b0,b1⟩:=agg_two wr (.string vn) (.string vt) 98
   clear hx hc HI
   generalize Rn.isT vt.data.toList 3=T at *
   cases T with
   |true=>
    go_wp2_with fail
    refine (CY.out _).mono ?_
    rintro e w3 ⟨rfl,hb3⟩
    have HB3:=hide (btrans HBA.out hb3)
    clear hb3
    go_wp2
    go_roundw
    case rel=>exact ⟨k+1,by omega,by go_num,hide ⟨HB3.out,HN.out⟩⟩
    case measure=>simp [intOf];omega
   |false=>
    have HE:Hid (Ck.frame p=11):=hide (by
     unfold Ck.frame
     rw [HN.out]
     rfl)
    go_wp2_with fail
    refine (CY.out _).mono ?_
    rintro e w3 ⟨rfl,hb3⟩
    have HB3:=hide (btrans HB.out (btrans HBA.out hb3))
    clear hb3
    go_wp2
    go_ret
    exact ⟨by rw [HE.out];rfl,HB3.out⟩
  ·obtain rfl:k=p.vars.length:=by omega
   have HE:Hid (Ck.frame p=if p.params<0∨(p.vars.length:Int)<p.params then 15 else if p.ins=[] then 10 else if 2000<p.ins.length∨4000<p.vars.length∨2000<p.blocks.length then 8 else if Ck.blks p 0 p.blocks=false then 5 else 0):=hide (by
    unfold Ck.frame
    rw [HI.out.2,List.drop_length]
    rfl)
   obtain ⟨t0,t1,t2,t3,t4,t5⟩:=HK.out.keep HI.out.1
   have HB3:=hide (btrans HB.out HI.out.1)
   have HB1:=hide HI.out.1
   clear HI
   by_cases g1:0≤p.params
   ·have d1:decide (p.params<0)=false:=by simp;omega
    by_cases g2:p.params≤(p.vars.length:Int)
    ·have d2:decide ((p.vars.length:Int)<p.params)=false:=by simp;omega
     by_cases g3:p.ins=[]
     ·have HE2:Hid (Ck.frame p=10):=hide (by rw [HE.out,if_neg (by omega),if_pos g3])
      have d3:((p.ins.length:Int) == 0)=true:=by rw [g3];rfl
      clear HE g1 g2 g3
      go_wp2
      go_ret
      exact ⟨by rw [HE2.out];rfl,HB3.out⟩
     ·have hpos:=List.length_pos_iff.2 g3
      have d3:((p.ins.length:Int) == 0)=false:=by simp;omega
      have d3n:(p.ins.length == 0)=false:=by simp;omega
      by_cases g4:p.ins.length≤2000
      ·have d4:decide ((2000:Int)<(p.ins.length:Int))=false:=by simp;omega
       by_cases g5:p.vars.length≤4000
       ·have d5:decide ((4000:Int)<(p.vars.length:Int))=false:=by simp;omega
        by_cases g6:p.blocks.length≤2000
        ·have d6:decide ((2000:Int)<(p.blocks.length:Int))=false:=by simp;omega
         have HE2:Hid (Ck.frame p=if Ck.blks p 0 p.blocks=false then 5 else 0):=hide (by rw [HE.out,if_neg (by omega),if_neg g3,if_neg (by omega)])
         clear HE g1 g2 g3 g4 g5 hpos hlt
         go_wp2
         go_loopw [65] (fun iv ws=> ∃ k:Nat,k≤p.blocks.length∧iv= .int .i64 k∧Hid (Below w1.heap.size w1 ws∧Ck.blks p 0 p.blocks=Ck.blks p k (p.blocks.drop k))) (fun iv _=>p.blocks.length - (intOf iv).toNat)
         case atStart=>exact ⟨0,Nat.zero_le _,rfl,hide ⟨HB1.out,rfl⟩⟩
         case round=>
          obtain ⟨k,hk2,rfl,HI⟩:=hrel
          clear t0 t1 t2 t3 t4 t5 HB3 HB1 hk
          by_cases hlt:k<p.blocks.length
          ·obtain ⟨⟨bk,bp,bA,bn⟩,hx⟩: ∃ x,p.blocks[k]? =some x:=⟨_,List.getElem?_eq_getElem hlt⟩
           obtain ⟨g,o,rfl,hc⟩:=HBL.out (List.ne_nil_of_mem (List.mem_of_getElem? hx))
           obtain ⟨c1,c2,c3,c4⟩:=hc k _ hx
           have c1:=bsome (btrans HB.out HI.out.1) c1
           have c2:=bsome (btrans HB.out HI.out.1) c2
           have c3:=bsome (btrans HB.out HI.out.1) c3
           have c4:=bsome (btrans HB.out HI.out.1) c4
           have HN:Hid (Ck.blks p 0 p.blocks=(Ck.blk p k (bk,bp,bA,bn) && Ck.blks p (k+1) (p.blocks.drop (k+1)))):=hide (by
            rw [HI.out.2,List.drop_eq_getElem_cons hlt]
            rw [List.getElem?_eq_getElem hlt,Option.some.injEq] at hx
            rw [hx]
            rfl)
           have hba:=btrans HI.out.1 ((Below.refl _ _).alloc (Nat.le_refl _) (.cells #[.int .i64 bk,.int .i64 bp,.int .i64 bA,.int .i64 bn] 92))
           have HBA:=hide hba
           have CY:=hide (CB.out (bk,bp,bA,bn) k _ (btrans HB.out hba))
           obtain ⟨t0,t1,t2,t3,t4,t5⟩:=HK.out.keep hba
           obtain ⟨b0,b1,b2,b3⟩:=agg_four wr (.int .i64 bk) (.int .i64 bp) (.int .i64 bA) (.int .i64 bn) 92
           clear hx hc HI hba
           generalize Ck.blk p k (bk,bp,bA,bn)=T at *
           cases T with
           |true=>
            go_wp2_with fail
            refine CY.out.mono ?_
            rintro e w3 ⟨rfl,hb3⟩
            have HB3:=hide (btrans HBA.out hb3)
            clear hb3
            go_wp2
            go_roundw
            case rel=>exact ⟨k+1,by omega,by go_num,hide ⟨HB3.out,HN.out⟩⟩
            case measure=>simp [intOf];omega
           |false=>
            have HE:Hid (Ck.frame p=5):=hide (by
             rw [HE2.out,HN.out]
             rfl)
            go_wp2_with fail
            refine CY.out.mono ?_
            rintro e w3 ⟨rfl,hb3⟩
            have HB3:=hide (btrans HB.out (btrans HBA.out hb3))
            clear hb3
            go_wp2
            go_ret
            exact ⟨by rw [HE.out];rfl,HB3.out⟩
          ·obtain rfl:k=p.blocks.length:=by omega
           have HE:Hid (Ck.frame p=0):=hide (by
            rw [HE2.out,HI.out.2,List.drop_length]
            rfl)
           have HB3:=hide (btrans HB.out HI.out.1)
           clear HI
           go_wp2
           go_ret
           exact ⟨by rw [HE.out];rfl,HB3.out⟩
        ·have d6:decide ((2000:Int)<(p.blocks.length:Int))=true:=by simp;omega
         have HE2:Hid (Ck.frame p=8):=hide (by rw [HE.out,if_neg (by omega),if_neg g3,if_pos (by omega)])
         clear HE g1 g2 g3 g4 g5 g6 hpos
         go_wp2
         go_ret
         exact ⟨by rw [HE2.out];rfl,HB3.out⟩
       ·have d5:decide ((4000:Int)<(p.vars.length:Int))=true:=by simp;omega
        have HE2:Hid (Ck.frame p=8):=hide (by rw [HE.out,if_neg (by omega),if_neg g3,if_pos (by omega)])
        clear HE g1 g2 g3 g4 g5 hpos
        go_wp2
        go_ret
        exact ⟨by rw [HE2.out];rfl,HB3.out⟩
      ·have d4:decide ((2000:Int)<(p.ins.length:Int))=true:=by simp;omega
       have HE2:Hid (Ck.frame p=8):=hide (by rw [HE.out,if_neg (by omega),if_neg g3,if_pos (by omega)])
       clear HE g1 g2 g3 g4 hpos
       go_wp2
       go_ret
       exact ⟨by rw [HE2.out];rfl,HB3.out⟩
    ·have d2:decide ((p.vars.length:Int)<p.params)=true:=by simp;omega
     have HE2:Hid (Ck.frame p=15):=hide (by rw [HE.out,if_pos (by omega)])
     clear HE g1 g2
     go_wp2
     go_ret
     exact ⟨by rw [HE2.out];rfl,HB3.out⟩
   ·have d1:decide (p.params<0)=true:=by simp;omega
    have HE2:Hid (Ck.frame p=15):=hide (by rw [HE.out,if_pos (by omega)])
    clear HE g1
    go_wp2
    go_ret
    exact ⟨by rw [HE2.out];rfl,HB3.out⟩
theorem bset {w W:World} {b o:Nat} (h:Below w.heap.size w W) (hb:w.heap.size≤b) (v:Value):Below w.heap.size w (W.setCell ⟨b,o,none⟩ v):=((Kx.of_below (X:=fun _=>True) h).set (p:=⟨b,o,none⟩) (.inl hb) v).below
structure FBc (b:Nat) (w:World) (x y:Int):Prop where
 c0:w.cell? ⟨b,0,none⟩=some (.int .i64 x)
 c1:w.cell? ⟨b,1,none⟩=some (.int .i64 y)
 f0:w.frozen? ⟨b,0,none⟩=false
 f1:w.frozen? ⟨b,1,none⟩=false
theorem FBc.keep {b:Nat} {w w':World} {x y:Int} (h:FBc b w x y) (hb:Below w.heap.size w w'):FBc b w' x y:=
 ⟨bsome hb h.c0,bsome hb h.c1,(hb.frozen (p:=⟨b,0,none⟩) (World.block_lt_of_cell? _ _ h.c0)).trans h.f0,(hb.frozen (p:=⟨b,1,none⟩) (World.block_lt_of_cell? _ _ h.c1)).trans h.f1⟩
theorem FBc.new (w:World) (x y:Int) (t:TypeId):FBc w.heap.size (w.alloc (.cells #[.int .i64 x,.int .i64 y] t)) x y:=by
 constructor<;> simp [go_sem]
theorem Ck.bad_at {ab:List Cd.Pr} {p:Cd.Pr} {k:Nat} {x:Cd.In} {l:List Cd.In} (hx:l[k]? =some x):Ck.bad ab p k (l.drop k)=if Ck.ins ab p x then Ck.bad ab p (k+1) (l.drop (k+1)) else some k:=by
 have hlt:=(List.getElem?_eq_some_iff.1 hx).1
 rw [List.drop_eq_getElem_cons hlt]
 rw [List.getElem?_eq_getElem hlt,Option.some.injEq] at hx
 rw [hx]
 rfl
theorem Ck.last_at {p:Cd.Pr} {x:Cd.In} (hx:p.ins[p.ins.length - 1]? =some x):Ck.last p=x.op:=by
 unfold Ck.last
 rw [List.getLast?_eq_getElem?,hx]
 rfl
set_option maxRecDepth 100000 in
set_option maxHeartbeats 4000000 in
theorem ckFault_any (q:PV) (p:Cd.Pr) (ab:List Cd.Pr) (ua:Option Addr) (uc:Nat) (w:World) (h:PC q p w) (hu:CoR w (.slice ua ab.length uc) ab) (hA:AbOK ab) (hp:PrOK p) (hI: ∀ x ∈ p.ins,InOK x):
  Calls Tryz.prog 15 #[.agg (q.ck p ua ab.length uc)] w fun e w'=>e= .returned (.agg #[.int .i64 (Ck.fault ab p).1,.int .i64 (Ck.fault ab p).2])∧Below w.heap.size w w':=by
 have hb1:Below w.heap.size w (w.alloc (.cells (q.ck p ua ab.length uc) 62)):=(Below.refl _ _).alloc (Nat.le_refl _) _
 have hb2:=(Below.refl (w.alloc (.cells (q.ck p ua ab.length uc) 62)).heap.size (w.alloc (.cells (q.ck p ua ab.length uc) 62))).alloc (Nat.le_refl _) (.cells #[.int .i64 0,.int .i64 0] 31)
 have HB:=hide (btrans hb1 hb2)
 have hk:=(KB.new q p ua ab.length uc w).keep hb2
 have hf:=FBc.new (w.alloc (.cells (q.ck p ua ab.length uc) 62)) 0 0 31
 rw [show (w.alloc (.cells (q.ck p ua ab.length uc) 62)).heap.size=w.heap.size+1 by simp] at hf
 have HK:=hide hk
 have HF:=hide hf
 obtain ⟨t0,t1,t2,t3,t4,t5⟩:=hk
 have CR:=hide (ckFrame_any q p ua ab.length uc _ (h.keep (btrans hb1 hb2)) hp)
 have CX:Hid (∀ (x:Cd.In) (ae:Option Addr) (ce:Nat) (aa:Option Addr) (ca:Nat) (w':World),x ∈ p.ins→Below w.heap.size w w'→ER w' (.slice ae x.e.length ce) x.e→AgR w' (.slice aa x.args.length ca) x.args→Calls Tryz.prog 33 #[.agg (q.ck p ua ab.length uc),.agg (icl x ae ce aa ca)] w' fun e w''=>e= .returned (.bool (Ck.fits ab p x))∧Below w'.heap.size w' w''):=hide (fun x ae ce aa ca w' hx hb he ha=>ckFits_any q p ab ua uc x ae ce aa ca w' (h.keep hb) (hu.keep hb) he ha hA (hI x hx) hp.1)
 have CI:Hid (∀ (v:Int) (w':World),Calls Tryz.prog 32 #[.agg (q.ck p ua ab.length uc),.int .i64 v] w' fun e w''=>e= .returned (.bool (Ck.isB p v))∧Below w'.heap.size w' w''):=hide (fun v w'=>ckIsBlock_any q p ua ab.length uc v w')
 obtain ⟨ia,ic,e1,hi⟩:=h.ins
 obtain ⟨qa,qc,qb,qd,qi,qe⟩:=q
 obtain ⟨rfl,rfl⟩:qi=ia∧qe=ic:=by simpa using e1
 have HV:=hide hi
 have hn3:=hp.2.2.2
 have hsz: ¬ w.heap.size+1=w.heap.size:=by omega
 have HNE:Hid (Ck.frame p=0→p.ins ≠ []):=hide (by
  intro e e2
  unfold Ck.frame at e
  rw [if_pos e2] at e
  split at e
  ·cases e
  ·split at e<;> cases e)
 clear h hu hA hp hI hb1 hb2 hf e1 hi
 unfold PV.ck at *
 dsimp only at *
 by_cases g0:Ck.frame p=0
 ·have HE:Hid (Ck.fault ab p=match Ck.bad ab p 0 p.ins with
   |some i=>(16,(i:Int))
   |none=>if Ck.last p ≠ 17∧Ck.last p ≠ 15 then (16,(p.ins.length:Int)) else (0,0)):=hide (by unfold Ck.fault;rw [if_neg (by simpa using g0)];rfl)
  have hne:=HNE.out g0
  rw [g0] at CR
  have hpos:=List.length_pos_iff.2 hne
  obtain ⟨g,o,rfl,hc⟩:=HV.out hne
  have HC:=hide hc
  clear g0 hne HNE HV hc
  go_enter Tryz.func15,Tryz.ntmps15
  go_wp2_with fail
  refine CR.out.mono ?_
  rintro e w3 ⟨rfl,hb3⟩
  obtain ⟨r0,r1,r2,r3,r4,r5⟩:=HK.out.keep hb3
  have HB3:=hide (btrans HB.out hb3)
  have HK3:=hide (HK.out.keep hb3)
  have HF3:=hide (HF.out.keep hb3)
  clear hb3 HB HK HF CR t0 t1 t2 t3 t4 t5
  go_wp2
  go_loopw [17] (fun iv wr=> ∃ k:Nat,k≤p.ins.length∧iv= .int .i64 k∧Hid (Below w3.heap.size w3 wr∧Ck.bad ab p 0 p.ins=Ck.bad ab p k (p.ins.drop k))) (fun iv _=>p.ins.length - (intOf iv).toNat)
  case atStart=>exact ⟨0,Nat.zero_le _,rfl,hide ⟨Below.refl _ _,rfl⟩⟩
  case round=>
   obtain ⟨k,hk,rfl,HI⟩:=hrel
   by_cases hlt:k<p.ins.length
   ·obtain ⟨x,hx⟩: ∃ x,p.ins[k]? =some x:=⟨_,List.getElem?_eq_getElem hlt⟩
    obtain ⟨ae,ce,aa,ca,hic⟩:=HC.out _ x hx
    have hic:=hic.keep (btrans HB3.out HI.out.1)
    have HN:Hid (Ck.bad ab p 0 p.ins=if (Ck.isB p x.bk && Ck.isB p x.lp && Ck.fits ab p x) then Ck.bad ab p (k+1) (p.ins.drop (k+1)) else some k):=hide (by rw [HI.out.2,Ck.bad_at hx];rfl)
    have hba:=(Below.refl wr.heap.size wr).alloc (Nat.le_refl _) (.cells (icl x ae ce aa ca) 44)
    have HIX:=hide (IC.new 44 hic.e hic.args)
    have HBA:=hide (btrans HI.out.1 hba)
    have C3:=hide (CX.out x ae ce aa ca)
    have hmem:=List.mem_of_getElem? hx
    have HFa:Hid (∀ b,Ck.bad ab p 0 p.ins=some b→Ck.fault ab p=(16,(b:Int))):=hide (fun b hb=>by rw [HE.out,hb])
    obtain ⟨r0,r1,r2,r3,r4,r5⟩:=HK3.out.keep HBA.out
    obtain ⟨y0,y1,y2,y3,y4,y5,y6,y7,y8,y9,y10,-,-⟩:=hic
    obtain ⟨x0,x1,x2,x3,x4,x5,x6,x7,x8,x9,x10,-,-⟩:=HIX.out
    have CB1:=hide (CI.out x.bk)
    have CB2:=hide (CI.out x.lp)
    have C3:=hide (fun w' (hb:Below (wr.alloc (.cells (icl x ae ce aa ca) 44)).heap.size (wr.alloc (.cells (icl x ae ce aa ca) 44)) w')=>C3.out w' hmem (btrans HB3.out (btrans HBA.out hb)) (HIX.out.keep hb).e (HIX.out.keep hb).args)
    generalize Ck.isB p x.bk=B1 at *
    generalize Ck.isB p x.lp=B2 at *
    generalize Ck.fits ab p x=B3 at *
    clear hx HI hba hmem CX CI HE
    obtain ⟨op,xa,xb,xn,xto,xt,xe,xg,xbk,xlp,xat⟩:=x
    dsimp only at *
    unfold icl at *
    cases B1 with
    |false=>
     have HE3:Hid (Ck.fault ab p=(16,(k:Int))):=hide (HFa.out k HN.out)
     go_wp2_with fail
     refine (CB1.out _).mono ?_
     rintro e w4 ⟨rfl,hb4⟩
     obtain ⟨s0,s1,z0,z1⟩:=HF3.out.keep (btrans HBA.out hb4)
     have HB6:=hide (btrans HB3.out (btrans HBA.out hb4))
     clear hb4
     go_wp2
     refine bodyPost_ret (v:= .agg #[.int .i64 16,.int .i64 (k:Int)]) (by simp [results,Tryz.results15,go_sem,s0,s1]) rfl ⟨by rw [HE3.out],bset (bset HB6.out (Nat.le_succ _) _) (Nat.le_succ _) _⟩
    |true=>
     go_wp2_with fail
     refine (CB1.out _).mono ?_
     rintro e w4 ⟨rfl,hb4⟩
     obtain ⟨r0,r1,r2,r3,r4,r5⟩:=HK3.out.keep (btrans HBA.out hb4)
     obtain ⟨x0,x1,x2,x3,x4,x5,x6,x7,x8,x9,x10,-,-⟩:=HIX.out.keep hb4
     have KC4:=hide hb4
     clear hb4
     cases B2 with
     |false=>
      have HE3:Hid (Ck.fault ab p=(16,(k:Int))):=hide (HFa.out k HN.out)
      go_wp2_with fail
      refine (CB2.out _).mono ?_
      rintro e w5 ⟨rfl,hb5⟩
      have kc:=btrans KC4.out hb5
      obtain ⟨s0,s1,z0,z1⟩:=HF3.out.keep (btrans HBA.out kc)
      have HB6:=hide (btrans HB3.out (btrans HBA.out kc))
      clear hb5 kc
      go_wp2
      refine bodyPost_ret (v:= .agg #[.int .i64 16,.int .i64 (k:Int)]) (by simp [results,Tryz.results15,go_sem,s0,s1]) rfl ⟨by rw [HE3.out],bset (bset HB6.out (Nat.le_succ _) _) (Nat.le_succ _) _⟩
     |true=>
      go_wp2_with fail
      refine (CB2.out _).mono ?_
      rintro e w5 ⟨rfl,hb5⟩
      have kc:=btrans KC4.out hb5
      obtain ⟨r0,r1,r2,r3,r4,r5⟩:=HK3.out.keep (btrans HBA.out kc)
      obtain ⟨x0,x1,x2,x3,x4,x5,x6,x7,x8,x9,x10,-,-⟩:=HIX.out.keep kc
      have KC5:=hide kc
      clear hb5 kc
      cases B3 with
      |false=>
       have HE3:Hid (Ck.fault ab p=(16,(k:Int))):=hide (HFa.out k HN.out)
       go_wp2_with fail
       refine (C3.out _ KC5.out).mono ?_
       rintro e w6 ⟨rfl,hb6⟩
       have kc:=btrans KC5.out hb6
       obtain ⟨s0,s1,z0,z1⟩:=HF3.out.keep (btrans HBA.out kc)
       have HB6:=hide (btrans HB3.out (btrans HBA.out kc))
       clear hb6 kc
       go_wp2
       refine bodyPost_ret (v:= .agg #[.int .i64 16,.int .i64 (k:Int)]) (by simp [results,Tryz.results15,go_sem,s0,s1]) rfl ⟨by rw [HE3.out],bset (bset HB6.out (Nat.le_succ _) _) (Nat.le_succ _) _⟩
      |true=>
       go_wp2_with fail
       refine (C3.out _ KC5.out).mono ?_
       rintro e w6 ⟨rfl,hb6⟩
       have HB6:=hide (btrans HBA.out (btrans KC5.out hb6))
       clear hb6
       go_wp2
       go_roundw
       case rel=>exact ⟨k+1,by omega,by go_num,hide ⟨HB6.out,HN.out⟩⟩
       case measure=>simp [intOf];omega
   ·obtain rfl:k=p.ins.length:=by omega
    obtain ⟨r0,r1,r2,r3,r4,r5⟩:=HK3.out.keep HI.out.1
    obtain ⟨x,hx⟩: ∃ x,p.ins[p.ins.length - 1]? =some x:=⟨_,List.getElem?_eq_getElem (by omega)⟩
    obtain ⟨ae,ce,aa,ca,hic⟩:=HC.out _ x hx
    have hic:=hic.keep (btrans HB3.out HI.out.1)
    have x0:=hic.c0
    have HE2:Hid (Ck.fault ab p=if x.op ≠ 17∧x.op ≠ 15 then (16,(p.ins.length:Int)) else (0,0)):=hide (by
     rw [HE.out,HI.out.2,List.drop_length,←Ck.last_at hx]
     rfl)
    obtain ⟨s0,s1,z0,z1⟩:=HF3.out.keep HI.out.1
    have HB4:=hide (btrans HB3.out HI.out.1)
    have hls:p.ins.length - 1<p.ins.length:=by omega
    have hlc:((p.ins.length:Int) - 1)=((p.ins.length - 1:Nat):Int):=by omega
    generalize x.op=op at *
    generalize hL:p.ins.length - 1=LL at *
    clear hx hic HI hL
    by_cases g7:op=17
    ·subst g7
     have HE3:Hid (Ck.fault ab p=(0,0)):=hide (by rw [HE2.out];rfl)
     go_wp2
     refine bodyPost_ret (v:= .agg #[.int .i64 0,.int .i64 0]) (by simp [results,Tryz.results15,go_sem,s0,s1]) rfl ⟨by rw [HE3.out],bset (bset HB4.out (Nat.le_succ _) _) (Nat.le_succ _) _⟩
    ·have f7:(op == 17)=false:=by simpa using g7
     have n7:(op !=17)=true:=by simpa using g7
     by_cases g5:op=15
     ·subst g5
      have HE3:Hid (Ck.fault ab p=(0,0)):=hide (by rw [HE2.out];rfl)
      go_wp2
      refine bodyPost_ret (v:= .agg #[.int .i64 0,.int .i64 0]) (by simp [results,Tryz.results15,go_sem,s0,s1]) rfl ⟨by rw [HE3.out],bset (bset HB4.out (Nat.le_succ _) _) (Nat.le_succ _) _⟩
     ·have n5:(op !=15)=true:=by simpa using g5
      have HE3:Hid (Ck.fault ab p=(16,(p.ins.length:Int))):=hide (by rw [HE2.out,if_pos ⟨g7,g5⟩])
      clear g7 g5 HE2
      go_wp2
      refine bodyPost_ret (v:= .agg #[.int .i64 16,.int .i64 (p.ins.length:Int)]) (by simp [results,Tryz.results15,go_sem,s0,s1]) rfl ⟨by rw [HE3.out],bset (bset HB4.out (Nat.le_succ _) _) (Nat.le_succ _) _⟩
 ·have HE:Hid (Ck.fault ab p=(Ck.frame p,-1)):=hide (by unfold Ck.fault;rw [if_pos g0])
  have d0:(Ck.frame p !=0)=true:=by simpa using g0
  generalize Ck.frame p=FR at *
  clear g0 HNE
  go_enter Tryz.func15,Tryz.ntmps15
  go_wp2_with fail
  refine CR.out.mono ?_
  rintro e w3 ⟨rfl,hb3⟩
  obtain ⟨s0,s1,z0,z1⟩:=HF.out.keep hb3
  have HB3:=hide (btrans HB.out hb3)
  clear hb3 t0 t1 t2 t3 t4 t5
  go_wp2
  refine bodyPost_ret (v:= .agg #[.int .i64 FR,.int .i64 (-1)]) (by simp [results,Tryz.results15,go_sem,s0,s1]) rfl ⟨by rw [HE.out],bset (bset HB3.out (Nat.le_succ _) _) (Nat.le_succ _) _⟩
def Ck.begins (p:Cd.Pr):Bool:=(p.params == 1) && Ck.eqT ((p.vars[0]?.map (·.2)).getD ⟨#[]⟩) ⟨#[114,105]⟩
set_option maxRecDepth 100000 in
set_option maxHeartbeats 2000000 in
theorem ckBegins_any (q:PV) (p:Cd.Pr) (w:World) (h:PC q p w) (hv:p.params=1→p.vars ≠ []):
  Calls Tryz.prog 16 #[.agg (q.cells p)] w fun e w'=>e= .returned (.bool (Ck.begins p))∧Below w.heap.size w w':=by
 have hb1:Below w.heap.size w (w.alloc (.cells (q.cells p) 39)):=(Below.refl _ _).alloc (Nat.le_refl _) _
 have HB:=hide hb1
 have HE:Hid (Ck.begins p=((p.params == 1) && Ck.eqT ((p.vars[0]?.map (·.2)).getD ⟨#[]⟩) ⟨#[114,105]⟩)):=hide rfl
 obtain ⟨va,vc,e1,hr⟩:=(h.keep hb1).vars
 obtain ⟨qa,qc,qb,qd,qi,qe⟩:=q
 obtain ⟨rfl,rfl⟩:qa=va∧qc=vc:=by simpa using e1
 generalize Ck.begins p=R at *
 by_cases g:p.params=1
 ·obtain ⟨⟨vn,vt⟩,hx⟩: ∃ x,p.vars[0]? =some x:=⟨_,List.getElem?_eq_getElem (List.length_pos_iff.2 (hv g))⟩
  obtain ⟨g1,o1,rfl,hc⟩:=hr (hv g)
  have c2:=(hc 0 _ hx).2
  rw [Nat.zero_mul,Nat.add_zero] at c2
  have hl:0<p.vars.length:=List.length_pos_iff.2 (hv g)
  have HE2:Hid (R=(vt.toList == [114,105])):=hide (by rw [HE.out,g,hx,←show _=(vt.toList == [114,105]) from Ck.eqT_lit vt #[114,105]];rfl)
  clear HE hv h hb1 e1 hr hc hx
  unfold PV.cells at *
  dsimp only at *
  rw [g] at *
  clear g
  go_enter Tryz.func16,Tryz.ntmps16
  go_wp2
  go_ret
  exact ⟨by rw [HE2.out];rfl,HB.out⟩
 ·have d1:(p.params == 1)=false:=by simpa using g
  have HE2:Hid (R=false):=hide (by rw [HE.out,d1];rfl)
  clear HE hv h hb1 e1 hr g
  unfold PV.cells at *
  dsimp only at *
  go_enter Tryz.func16,Tryz.ntmps16
  go_wp2
  go_ret
  exact ⟨by rw [HE2.out];rfl,HB.out⟩
end Go.Proofs.YtcdcoiobpbdmpaaGreatDoor
