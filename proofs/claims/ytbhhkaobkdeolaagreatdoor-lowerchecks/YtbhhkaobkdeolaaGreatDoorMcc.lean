import Derived.Test.YtbhhkaobkdeolaaGreatDoorMcb
namespace Go.Proofs.YtbhhkaobkdeolaaGreatDoor
open Go.RowKit
theorem ckType_any (t:ByteArray) (ends:Int) (w:World) (hn:t.size≤1000):Calls Tryz.prog 40 #[.string t,.int .i64 ends] w fun e w'=>e= .returned (.bool (Rn.isT t.data.toList ends))∧Below w.heap.size w w':=by
 have h:=rType_any t.data.toList ends w (by
  have:t.data.toList.length=t.size:=by simp
  omega)
 have e:bs t.data.toList=t:=by simp [bs]
 rw [e] at h
 exact h.mono fun e w' h=>⟨h.1,h.2.os,h.2.tape,h.2.output,h.2.size,fun k hk=>h.2.block k hk (by simp)⟩
def PrOK (p:Cd.Pr):Prop:=TyOK p∧p.vars.length≤1000000∧p.blocks.length≤1000000∧p.ins.length≤1000000
set_option maxRecDepth 100000 in
set_option maxHeartbeats 4000000 in
theorem ckFrame_any (q:PV) (p:Cd.Pr) (ua:Option Addr) (n uc:Nat) (w:World) (h:PC q p w) (hp:PrOK p):
  Calls Tryz.prog 21 #[.agg (q.ck p ua n uc)] w fun e w'=>e= .returned (.int .i64 (Ck.frame p))∧Below w.heap.size w w':=by
 have hb1:Below w.heap.size w (w.alloc (.cells (q.ck p ua n uc) 50)):=(Below.refl _ _).alloc (Nat.le_refl _) _
 have HB:=hide hb1
 have HK:=hide (KB.new q p ua n uc w)
 have CB:Hid (∀ (b:Int × Int × Int × Int) (i:Nat) (w':World),Below w.heap.size w w'→Calls Tryz.prog 41 #[.agg (q.ck p ua n uc),.agg #[.int .i64 b.1,.int .i64 b.2.1,.int .i64 b.2.2.1,.int .i64 b.2.2.2],.int .i64 (i:Int)] w' fun e w''=>e= .returned (.bool (Ck.blk p i b))∧Below w'.heap.size w' w''):=hide (fun b i w' hb=>ckBlockFits_any q p ua n uc b i w' (h.keep hb))
 obtain ⟨va,vc,e1,hv⟩:=h.vars
 obtain ⟨ba,bc,e2,hbl⟩:=h.blocks
 obtain ⟨qa,qc,qb,qd,qi,qe⟩:=q
 obtain ⟨rfl,rfl⟩:qa=va∧qc=vc:=by simpa using e1
 obtain ⟨rfl,rfl⟩:qb=ba∧qd=bc:=by simpa using e2
 have HV:=hide hv
 have HBL:=hide hbl
 obtain ⟨hT,hn1,hn2,hn3⟩:=hp
 have HTy:=hide hT
 clear h e1 e2 hv hbl hT hb1
 unfold PV.ck at *
 dsimp only at *
 go_enter Tryz.func21,Tryz.ntmps21
 go_wp2
 generalize w.alloc _=w1 at *
 go_loopw [11] (fun iv wr=> ∃ k:Nat,k≤p.vars.length∧iv= .int .i64 k∧Hid (Below w1.heap.size w1 wr∧Ck.types p.vars=Ck.types (p.vars.drop k))) (fun iv _=>p.vars.length - (intOf iv).toNat)
 case atStart=>exact ⟨0,Nat.zero_le _,rfl,hide ⟨Below.refl _ _,rfl⟩⟩
 case round=>
  obtain ⟨k,hk,rfl,HI⟩:=hrel
  by_cases hlt:k<p.vars.length
  ·obtain ⟨⟨vn,vt⟩,hx⟩: ∃ x,p.vars[k]? =some x:=⟨_,List.getElem?_eq_getElem hlt⟩
   obtain ⟨g,o,rfl,hc⟩:=HV.out (List.ne_nil_of_mem (List.mem_of_getElem? hx))
   obtain ⟨c1,c2⟩:=hc k _ hx
   have c1:=bsome (btrans HB.out HI.out.1) c1
   have c2:=bsome (btrans HB.out HI.out.1) c2
   have HN:Hid (Ck.types p.vars=(Rn.isT vt.data.toList 3 && Ck.types (p.vars.drop (k+1)))):=hide (by
    rw [HI.out.2,List.drop_eq_getElem_cons hlt]
    rw [List.getElem?_eq_getElem hlt,Option.some.injEq] at hx
    rw [hx]
    rfl)
   have CY:=hide (fun w'=>ckType_any vt 3 w' (Nat.le_trans (HTy.out _ (List.mem_of_getElem? hx)) (by decide)))
   have HBA:=hide (btrans HI.out.1 ((Below.refl _ _).alloc (Nat.le_refl _) (.cells #[.string vn,.string vt] 57)))
   obtain ⟨b0,b1⟩:=agg_two wr (.string vn) (.string vt) 57
   clear hx hc HI
   generalize Rn.isT vt.data.toList 3=T at *
   cases T with
   |true=>
    go_wp2_with fail
    refine (CY.out _).mono ?_
    rintro e w3 ⟨rfl,hb3⟩
    have HB3:=hide (btrans HBA.out hb3)
    clear hb3
    go_wp2
    go_roundw
    case rel=>exact ⟨k+1,by omega,by go_num,hide ⟨HB3.out,HN.out⟩⟩
    case measure=>simp [intOf];omega
   |false=>
    have HE:Hid (Ck.frame p=11):=hide (by
     unfold Ck.frame
     rw [HN.out]
     rfl)
    go_wp2_with fail
    refine (CY.out _).mono ?_
    rintro e w3 ⟨rfl,hb3⟩
    have HB3:=hide (btrans HB.out (btrans HBA.out hb3))
    clear hb3
    go_wp2
    go_ret
    exact ⟨by rw [HE.out];rfl,HB3.out⟩
  ·obtain rfl:k=p.vars.length:=by omega
   have HE:Hid (Ck.frame p=if p.params<0∨(p.vars.length:Int)<p.params then 15 else if p.ins=[] then 10 else if 2000<p.ins.length∨4000<p.vars.length∨2000<p.blocks.length then 8 else if Ck.blks p 0 p.blocks=false then 5 else 0):=hide (by
    unfold Ck.frame
    rw [HI.out.2,List.drop_length]
    rfl)
   obtain ⟨t0,t1,t2,t3,t4,t5⟩:=HK.out.keep HI.out.1
   have HB3:=hide (btrans HB.out HI.out.1)
   have HB1:=hide HI.out.1
   clear HI
   by_cases g1:0≤p.params
   ·have d1:decide (p.params<0)=false:=by simp;omega
    by_cases g2:p.params≤(p.vars.length:Int)
    ·have d2:decide ((p.vars.length:Int)<p.params)=false:=by simp;omega
     by_cases g3:p.ins=[]
     ·have HE2:Hid (Ck.frame p=10):=hide (by rw [HE.out,if_neg (by omega),if_pos g3])
      have d3:((p.ins.length:Int) == 0)=true:=by rw [g3];rfl
      clear HE g1 g2 g3
      go_wp2
      go_ret
      exact ⟨by rw [HE2.out];rfl,HB3.out⟩
     ·have hpos:=List.length_pos_iff.2 g3
      have d3:((p.ins.length:Int) == 0)=false:=by simp;omega
      have d3n:(p.ins.length == 0)=false:=by simp;omega
      by_cases g4:p.ins.length≤2000
      ·have d4:decide ((2000:Int)<(p.ins.length:Int))=false:=by simp;omega
       by_cases g5:p.vars.length≤4000
       ·have d5:decide ((4000:Int)<(p.vars.length:Int))=false:=by simp;omega
        by_cases g6:p.blocks.length≤2000
        ·have d6:decide ((2000:Int)<(p.blocks.length:Int))=false:=by simp;omega
         have HE2:Hid (Ck.frame p=if Ck.blks p 0 p.blocks=false then 5 else 0):=hide (by rw [HE.out,if_neg (by omega),if_neg g3,if_neg (by omega)])
         clear HE g1 g2 g3 g4 g5 hpos hlt
         go_wp2
         go_loopw [65] (fun iv ws=> ∃ k:Nat,k≤p.blocks.length∧iv= .int .i64 k∧Hid (Below w1.heap.size w1 ws∧Ck.blks p 0 p.blocks=Ck.blks p k (p.blocks.drop k))) (fun iv _=>p.blocks.length - (intOf iv).toNat)
         case atStart=>exact ⟨0,Nat.zero_le _,rfl,hide ⟨HB1.out,rfl⟩⟩
         case round=>
          obtain ⟨k,hk2,rfl,HI⟩:=hrel
          clear t0 t1 t2 t3 t4 t5 HB3 HB1 hk
          by_cases hlt:k<p.blocks.length
          ·obtain ⟨⟨bk,bp,bA,bn⟩,hx⟩: ∃ x,p.blocks[k]? =some x:=⟨_,List.getElem?_eq_getElem hlt⟩
           obtain ⟨g,o,rfl,hc⟩:=HBL.out (List.ne_nil_of_mem (List.mem_of_getElem? hx))
           obtain ⟨c1,c2,c3,c4⟩:=hc k _ hx
           have c1:=bsome (btrans HB.out HI.out.1) c1
           have c2:=bsome (btrans HB.out HI.out.1) c2
           have c3:=bsome (btrans HB.out HI.out.1) c3
           have c4:=bsome (btrans HB.out HI.out.1) c4
           have HN:Hid (Ck.blks p 0 p.blocks=(Ck.blk p k (bk,bp,bA,bn) && Ck.blks p (k+1) (p.blocks.drop (k+1)))):=hide (by
            rw [HI.out.2,List.drop_eq_getElem_cons hlt]
            rw [List.getElem?_eq_getElem hlt,Option.some.injEq] at hx
            rw [hx]
            rfl)
           have hba:=btrans HI.out.1 ((Below.refl _ _).alloc (Nat.le_refl _) (.cells #[.int .i64 bk,.int .i64 bp,.int .i64 bA,.int .i64 bn] 104))
           have HBA:=hide hba
           have CY:=hide (CB.out (bk,bp,bA,bn) k _ (btrans HB.out hba))
           obtain ⟨t0,t1,t2,t3,t4,t5⟩:=HK.out.keep hba
           obtain ⟨b0,b1,b2,b3⟩:=agg_four wr (.int .i64 bk) (.int .i64 bp) (.int .i64 bA) (.int .i64 bn) 104
           clear hx hc HI hba
           generalize Ck.blk p k (bk,bp,bA,bn)=T at *
           cases T with
           |true=>
            go_wp2_with fail
            refine CY.out.mono ?_
            rintro e w3 ⟨rfl,hb3⟩
            have HB3:=hide (btrans HBA.out hb3)
            clear hb3
            go_wp2
            go_roundw
            case rel=>exact ⟨k+1,by omega,by go_num,hide ⟨HB3.out,HN.out⟩⟩
            case measure=>simp [intOf];omega
           |false=>
            have HE:Hid (Ck.frame p=5):=hide (by
             rw [HE2.out,HN.out]
             rfl)
            go_wp2_with fail
            refine CY.out.mono ?_
            rintro e w3 ⟨rfl,hb3⟩
            have HB3:=hide (btrans HB.out (btrans HBA.out hb3))
            clear hb3
            go_wp2
            go_ret
            exact ⟨by rw [HE.out];rfl,HB3.out⟩
          ·obtain rfl:k=p.blocks.length:=by omega
           have HE:Hid (Ck.frame p=0):=hide (by
            rw [HE2.out,HI.out.2,List.drop_length]
            rfl)
           have HB3:=hide (btrans HB.out HI.out.1)
           clear HI
           go_wp2
           go_ret
           exact ⟨by rw [HE.out];rfl,HB3.out⟩
        ·have d6:decide ((2000:Int)<(p.blocks.length:Int))=true:=by simp;omega
         have HE2:Hid (Ck.frame p=8):=hide (by rw [HE.out,if_neg (by omega),if_neg g3,if_pos (by omega)])
         clear HE g1 g2 g3 g4 g5 g6 hpos
         go_wp2
         go_ret
         exact ⟨by rw [HE2.out];rfl,HB3.out⟩
       ·have d5:decide ((4000:Int)<(p.vars.length:Int))=true:=by simp;omega
        have HE2:Hid (Ck.frame p=8):=hide (by rw [HE.out,if_neg (by omega),if_neg g3,if_pos (by omega)])
        clear HE g1 g2 g3 g4 g5 hpos
        go_wp2
        go_ret
        exact ⟨by rw [HE2.out];rfl,HB3.out⟩
      ·have d4:decide ((2000:Int)<(p.ins.length:Int))=true:=by simp;omega
       have HE2:Hid (Ck.frame p=8):=hide (by rw [HE.out,if_neg (by omega),if_neg g3,if_pos (by omega)])
       clear HE g1 g2 g3 g4 hpos
       go_wp2
       go_ret
       exact ⟨by rw [HE2.out];rfl,HB3.out⟩
    ·have d2:decide ((p.vars.length:Int)<p.params)=true:=by simp;omega
     have HE2:Hid (Ck.frame p=15):=hide (by rw [HE.out,if_pos (by omega)])
     clear HE g1 g2
     go_wp2
     go_ret
     exact ⟨by rw [HE2.out];rfl,HB3.out⟩
   ·have d1:decide (p.params<0)=true:=by simp;omega
    have HE2:Hid (Ck.frame p=15):=hide (by rw [HE.out,if_pos (by omega)])
    clear HE g1
    go_wp2
    go_ret
    exact ⟨by rw [HE2.out];rfl,HB3.out⟩
end Go.Proofs.YtbhhkaobkdeolaaGreatDoor
