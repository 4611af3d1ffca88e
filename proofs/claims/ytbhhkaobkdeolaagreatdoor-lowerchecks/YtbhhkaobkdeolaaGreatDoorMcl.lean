import Derived.Test.YtbhhkaobkdeolaaGreatDoorMcj
import Derived.Test.YtbhhkaobkdeolaaGreatDoorMck
import Derived.Test.YtbhhkaobkdeolaaGreatDoorMcf
import Derived.Test.YtbhhkaobkdeolaaGreatDoorMci
import Derived.Deep.RegionHeldLaw
namespace Go.Proofs.YtbhhkaobkdeolaaGreatDoor
open Go.RowKit
theorem rIns_any (l:List Cd.Pr) (m:Int) (ua:Option Addr) (uc k:Nat) (p:Cd.Pr) (x:Cd.In) (ae:Option Addr) (ce:Nat) (aa:Option Addr) (ca:Nat) (w:World) (hu:CoR w (.slice ua l.length uc) l) (hk:l[k]? =some p) (h1:ER w (.slice ae x.e.length ce) x.e) (h2:AgR w (.slice aa x.args.length ca) x.args) (hA:AbOK (l.take k)) (hI:InOK x) (hT:TyOK p) (hty:Ck.types p.vars=true):
  Calls Tryz.prog 26 #[.agg #[.slice ua l.length uc,.int .i64 m],.int .i64 (k:Int),.agg (icl x ae ce aa ca)] w fun e w'=>e= .returned (.bool (Ck.fits (l.take k) p x))∧Below w.heap.size w w':=by
 by_cases h:x.op=10
 ·exact rIns_spawn l m ua uc k p x ae ce aa ca w hu hk h1 h2 hA hI hT hty h
 ·exact rIns_rest l m ua uc k p x ae ce aa ca w hu hk h1 h2 hA hI hT hty h
set_option maxRecDepth 100000 in
set_option maxHeartbeats 1000000 in
theorem rFf_any (c a:Int) (w:World):Calls Tryz.prog 15 #[.int .i64 c,.int .i64 a] w fun e w'=>e= .returned (.agg #[.int .i64 c,.int .i64 a])∧Below w.heap.size w w':=by
 have HB:Hid (Below w.heap.size w (w.alloc (.cells #[.int .i64 c,.int .i64 a] 28))):=hide ((Below.refl _ _).alloc (Nat.le_refl _) _)
 go_enter Tryz.func15,Tryz.ntmps15
 go_wp2
 refine bodyPost_ret (v:= .agg #[.int .i64 c,.int .i64 a]) (by simp [results,Tryz.results15,go_sem]) rfl ⟨rfl,HB.out⟩
def Ck.pf (ab:List Cd.Pr) (p:Cd.Pr) (k:Nat):Int × Int:=if (Ck.fault ab p).1=0 then (0,0) else ((Ck.fault ab p).1,(Ck.fault ab p).2+(k:Int) * 10000)
theorem Ck.pf_frame {ab:List Cd.Pr} {p:Cd.Pr} {k:Nat} (h:Ck.frame p ≠ 0):Ck.pf ab p k=(Ck.frame p,10000 * (k:Int) - 1):=by
 have e:Ck.fault ab p=(Ck.frame p,-1):=by unfold Ck.fault;rw [if_pos h]
 unfold Ck.pf
 rw [e,if_neg h]
 have:(-1+(k:Int) * 10000)=10000 * (k:Int) - 1:=by omega
 rw [this]
theorem Ck.pf_bad {ab:List Cd.Pr} {p:Cd.Pr} {k i:Nat} (h:Ck.frame p=0) (hb:Ck.bad ab p 0 p.ins=some i):Ck.pf ab p k=(16,10000 * (k:Int)+(i:Int)):=by
 have e:Ck.fault ab p=(16,(i:Int)):=by unfold Ck.fault;rw [if_neg (by simpa using h),hb]
 unfold Ck.pf
 rw [e,if_neg (show ¬ (16:Int)=0 by decide)]
 have:((i:Int)+(k:Int) * 10000)=10000 * (k:Int)+(i:Int):=by omega
 rw [this]
theorem Ck.pf_last {ab:List Cd.Pr} {p:Cd.Pr} {k:Nat} (h:Ck.frame p=0) (hb:Ck.bad ab p 0 p.ins=none):Ck.pf ab p k=if Ck.last p ≠ 17∧Ck.last p ≠ 15 then (16,10000 * (k:Int)+(p.ins.length:Int)) else (0,0):=by
 have e:Ck.fault ab p=if Ck.last p ≠ 17∧Ck.last p ≠ 15 then (16,(p.ins.length:Int)) else (0,0):=by unfold Ck.fault;rw [if_neg (by simpa using h),hb]
 unfold Ck.pf
 rw [e]
 by_cases hc:Ck.last p ≠ 17∧Ck.last p ≠ 15
 ·rw [if_pos hc,if_pos hc,if_neg (show ¬ (16:Int)=0 by decide)]
  have:((p.ins.length:Int)+(k:Int) * 10000)=10000 * (k:Int)+(p.ins.length:Int):=by omega
  rw [this]
 ·rw [if_neg hc,if_neg hc]
  rfl
set_option maxRecDepth 100000 in
set_option maxHeartbeats 8000000 in
theorem rProc_any (l:List Cd.Pr) (m:Int) (ua:Option Addr) (uc k:Nat) (p:Cd.Pr) (w:World) (hu:CoR w (.slice ua l.length uc) l) (hk:l[k]? =some p) (hA:AbOK (l.take k)) (hp:PrOK p) (hI: ∀ x ∈ p.ins,InOK x) (hkb:k≤1000000):
  Calls Tryz.prog 16 #[.agg #[.slice ua l.length uc,.int .i64 m],.int .i64 (k:Int)] w fun e w'=>e= .returned (.agg #[.int .i64 (Ck.pf (l.take k) p k).1,.int .i64 (Ck.pf (l.take k) p k).2])∧Below w.heap.size w w':=by
 have hkl:=(List.getElem?_eq_some_iff.1 hk).1
 have HU:=hide hu
 obtain ⟨ua',uc',e1,hr⟩:=hu
 obtain ⟨rfl,rfl⟩:ua=ua'∧uc=uc':=by simpa using e1
 obtain ⟨g,o,rfl,hc⟩:=hr (List.ne_nil_of_mem (List.mem_of_getElem? hk))
 obtain ⟨q,hq,h⟩:=hc k p hk
 have CI:Hid (∀ (x:Cd.In) (ae:Option Addr) (ce:Nat) (aa:Option Addr) (ca:Nat) (w':World),x ∈ p.ins→Ck.types p.vars=true→Below w.heap.size w w'→ER w' (.slice ae x.e.length ce) x.e→AgR w' (.slice aa x.args.length ca) x.args→Calls Tryz.prog 26 #[.agg #[.slice (some ⟨g,o,none⟩) l.length uc,.int .i64 m],.int .i64 (k:Int),.agg (icl x ae ce aa ca)] w' fun e w''=>e= .returned (.bool (Ck.fits (l.take k) p x))∧Below w'.heap.size w' w''):=hide (fun x ae ce aa ca w' hx ht hb he ha=>rIns_any l m _ uc k p x ae ce aa ca w' (HU.out.keep hb) hk he ha hA (hI x hx) hp.1 ht)
 have CB:Hid (∀ (i:Nat) b (w':World),p.blocks[i]? =some b→Ck.types p.vars=true→Below w.heap.size w w'→Calls Tryz.prog 25 #[.agg (q.cells p),.int .i64 (i:Int)] w' fun e w''=>e= .returned (.bool (Ck.blk p i b))∧Below w'.heap.size w' w''):=hide (fun i b w' hx ht hb=>rBlock_any q p i b w' (h.keep hb) hx ht)
 have hb2:=b_two w (.cells #[.slice (some ⟨g,o,none⟩) l.length uc,.int .i64 m] 24) (.cells #[.int .i64 0,.int .i64 0] 28)
 have y0:=bsome hb2 (hq 0 _ rfl)
 have y1:=bsome hb2 (hq 1 _ rfl)
 have y2:=bsome hb2 (hq 2 _ rfl)
 have y3:=bsome hb2 (hq 3 _ rfl)
 have y4:=bsome hb2 (hq 4 _ rfl)
 rw [Nat.add_zero] at y0
 have HB:=hide (b_three w (.cells #[.slice (some ⟨g,o,none⟩) l.length uc,.int .i64 m] 24) (.cells #[.int .i64 0,.int .i64 0] 28) (.cells (q.cells p) 43))
 have hb3:=(Below.refl ((w.alloc (.cells #[.slice (some ⟨g,o,none⟩) l.length uc,.int .i64 m] 24)).alloc (.cells #[.int .i64 0,.int .i64 0] 28)).heap.size ((w.alloc (.cells #[.slice (some ⟨g,o,none⟩) l.length uc,.int .i64 m] 24)).alloc (.cells #[.int .i64 0,.int .i64 0] 28))).alloc (Nat.le_refl _) (.cells (q.cells p) 43)
 have hf:=(FBc.new (w.alloc (.cells #[.slice (some ⟨g,o,none⟩) l.length uc,.int .i64 m] 24)) 0 0 28).keep hb3
 rw [show (w.alloc (.cells #[.slice (some ⟨g,o,none⟩) l.length uc,.int .i64 m] 24)).heap.size=w.heap.size+1 by simp] at hf
 have hcb:=agg_two w (.slice (some ⟨g,o,none⟩) l.length uc) (.int .i64 m) 24
 have hbc:=(Below.refl (w.alloc (.cells #[.slice (some ⟨g,o,none⟩) l.length uc,.int .i64 m] 24)).heap.size (w.alloc (.cells #[.slice (some ⟨g,o,none⟩) l.length uc,.int .i64 m] 24))).alloc (Nat.le_refl _) (.cells #[.int .i64 0,.int .i64 0] 28)
 have k0:=bsome (btrans hbc hb3) hcb.1
 have k1:=bsome (btrans hbc hb3) hcb.2
 have hpc:=cells_at ((w.alloc (.cells #[.slice (some ⟨g,o,none⟩) l.length uc,.int .i64 m] 24)).alloc (.cells #[.int .i64 0,.int .i64 0] 28)) q p 43
 rw [show ((w.alloc (.cells #[.slice (some ⟨g,o,none⟩) l.length uc,.int .i64 m] 24)).alloc (.cells #[.int .i64 0,.int .i64 0] 28)).heap.size=w.heap.size+1+1 by simp] at hpc
 have t0:=hpc 0 _ rfl
 have t1:=hpc 1 _ rfl
 have t2:=hpc 2 _ rfl
 have t3:=hpc 3 _ rfl
 have t4:=hpc 4 _ rfl
 have HF:=hide hf
 obtain ⟨va,vc,e2,hv⟩:=(h.keep HB.out).vars
 obtain ⟨ba,bc,e3,hbl⟩:=h.blocks
 obtain ⟨ia,ic,e4,hin⟩:=(h.keep HB.out).ins
 obtain ⟨qa,qc,qb,qd,qi,qe⟩:=q
 obtain ⟨rfl,rfl⟩:qa=va∧qc=vc:=by simpa using e2
 obtain ⟨rfl,rfl⟩:qb=ba∧qd=bc:=by simpa using e3
 obtain ⟨rfl,rfl⟩:qi=ia∧qe=ic:=by simpa using e4
 have HV:=hide hv
 have HIN:=hide hin
 obtain ⟨hT,hn1,hn2,hn3⟩:=hp
 have HTy:=hide hT
 clear e1 e2 e3 e4 hr hc hq h hb2 hb3 hf hcb hbc hpc hv hbl hin hT hA hI HU hk
 unfold PV.cells at *
 dsimp only at *
 go_enter Tryz.func16,Tryz.ntmps16
 go_wp2
 generalize World.alloc (World.alloc (World.alloc _ _) _) _=w1 at *
 go_loopw [7] (fun iv wr=> ∃ j:Nat,j≤p.vars.length∧iv= .int .i64 j∧wr=w1∧Hid (Ck.types p.vars=Ck.types (p.vars.drop j))) (fun iv _=>p.vars.length - (intOf iv).toNat)
 case atStart=>exact ⟨0,Nat.zero_le _,rfl,rfl,hide rfl⟩
 case round=>
  obtain ⟨j,hj,rfl,hwr,HI⟩:=hrel
  subst wr
  by_cases hlt:j<p.vars.length
  ·obtain ⟨⟨vn,vt⟩,hx⟩: ∃ x,p.vars[j]? =some x:=⟨_,List.getElem?_eq_getElem hlt⟩
   obtain ⟨gv,ov,rfl,hc⟩:=HV.out (List.ne_nil_of_mem (List.mem_of_getElem? hx))
   have c2:=(hc j _ hx).2
   dsimp only at c2
   have HN:Hid (Ck.types p.vars=(Rn.isT vt.data.toList 3 && Ck.types (p.vars.drop (j+1)))):=hide (by
    rw [HI.out,List.drop_eq_getElem_cons hlt]
    rw [List.getElem?_eq_getElem hlt,Option.some.injEq] at hx
    rw [hx]
    rfl)
   have CY:=hide (fun w'=>rIsTy_any vt 3 w' (Nat.le_trans (HTy.out _ (List.mem_of_getElem? hx)) (by decide)))
   clear hx hc HI
   generalize Rn.isT vt.data.toList 3=T at *
   cases T with
   |true=>
    go_wp2_with fail
    refine (CY.out _).mono ?_
    rintro e w3 ⟨rfl,rfl⟩
    go_wp2
    go_roundw
    case rel=>exact ⟨j+1,by omega,by go_num,(by first|rfl|trivial),hide HN.out⟩
    case measure=>simp [intOf];omega
   |false=>
    have HE:Hid (Ck.pf (l.take k) p k=(11,10000 * (k:Int) - 1)):=hide (by
     have e:Ck.frame p=11:=by unfold Ck.frame;rw [HN.out];rfl
     rw [Ck.pf_frame (by rw [e];decide),e])
    go_wp2_with fail
    refine (CY.out _).mono ?_
    rintro e w3 ⟨rfl,rfl⟩
    go_wp2_with fail
    refine (rFf_any 11 (10000 * (k:Int) - 1) _).mono ?_
    rintro e w7 ⟨rfl,hb7⟩
    obtain ⟨s0,s1,z0,z1⟩:=HF.out.keep (btrans (Below.refl _ _) hb7)
    have HB7:=hide (btrans HB.out hb7)
    clear hb7
    go_wp2
    refine bodyPost_ret (v:= .agg #[.int .i64 11,.int .i64 (10000 * (k:Int) - 1)]) (by simp [results,Tryz.results16,go_sem,s0,s1]) rfl ⟨by rw [HE.out],bset (bset HB7.out (Nat.le_succ _) _) (Nat.le_succ _) _⟩
  ·obtain rfl:j=p.vars.length:=by omega
   have hty:Ck.types p.vars=true:=by
    rw [HI.out,List.drop_length]
    rfl
   have HE:Hid (Ck.frame p=if p.params<0∨(p.vars.length:Int)<p.params then 15 else if p.ins=[] then 10 else if 2000<p.ins.length∨4000<p.vars.length∨2000<p.blocks.length then 8 else if Ck.blks p 0 p.blocks=false then 5 else 0):=hide (by
    unfold Ck.frame
    rw [hty]
    rfl)
   have HTT:=hide hty
   clear HI hty
   by_cases g1:0≤p.params
   ·have d1:decide (p.params<0)=false:=by simp;omega
    by_cases g2:p.params≤(p.vars.length:Int)
    ·have d2:decide ((p.vars.length:Int)<p.params)=false:=by simp;omega
     by_cases g3:p.ins=[]
     ·have HE2:Hid (Ck.pf (l.take k) p k=(10,10000 * (k:Int) - 1)):=hide (by
       have e:Ck.frame p=10:=by rw [HE.out,if_neg (by omega),if_pos g3]
       rw [Ck.pf_frame (by rw [e];decide),e])
      have d3:((p.ins.length:Int) == 0)=true:=by rw [g3];rfl
      have d3n:(p.ins.length == 0)=true:=by rw [g3];rfl
      clear HE g1 g2 g3
      go_wp2_with fail
      refine (rFf_any 10 (10000 * (k:Int) - 1) _).mono ?_
      rintro e w7 ⟨rfl,hb7⟩
      obtain ⟨s0,s1,z0,z1⟩:=HF.out.keep (btrans (Below.refl _ _) hb7)
      have HB7:=hide (btrans HB.out hb7)
      clear hb7
      go_wp2
      refine bodyPost_ret (v:= .agg #[.int .i64 10,.int .i64 (10000 * (k:Int) - 1)]) (by simp [results,Tryz.results16,go_sem,s0,s1]) rfl ⟨by rw [HE2.out],bset (bset HB7.out (Nat.le_succ _) _) (Nat.le_succ _) _⟩
     ·have hpos:=List.length_pos_iff.2 g3
      have d3:((p.ins.length:Int) == 0)=false:=by simp;omega
      have d3n:(p.ins.length == 0)=false:=by simp;omega
      by_cases g4:p.ins.length≤2000
      ·have d4:decide ((2000:Int)<(p.ins.length:Int))=false:=by simp;omega
       by_cases g5:p.vars.length≤4000
       ·have d5:decide ((4000:Int)<(p.vars.length:Int))=false:=by simp;omega
        by_cases g6:p.blocks.length≤2000
        ·have d6:decide ((2000:Int)<(p.blocks.length:Int))=false:=by simp;omega
         have HE2:Hid (Ck.frame p=if Ck.blks p 0 p.blocks=false then 5 else 0):=hide (by rw [HE.out,if_neg (by omega),if_neg g3,if_neg (by omega)])
         obtain ⟨gi,oi,rfl,hci⟩:=HIN.out g3
         have HCI:=hide hci
         clear HE g1 g2 g3 g4 g5 hlt hj HIN hci
         go_wp2
         go_loopw [8] (fun iv ws=> ∃ j:Nat,j≤p.blocks.length∧iv= .int .i64 j∧Hid (Below w1.heap.size w1 ws∧Ck.blks p 0 p.blocks=Ck.blks p j (p.blocks.drop j))) (fun iv _=>p.blocks.length - (intOf iv).toNat)
         case atStart=>exact ⟨0,Nat.zero_le _,rfl,hide ⟨Below.refl _ _,rfl⟩⟩
         case round=>
          obtain ⟨j,hj,rfl,HI⟩:=hrel
          have T0:=bsome HI.out.1 t0
          have T1:=bsome HI.out.1 t1
          have T2:=bsome HI.out.1 t2
          have T3:=bsome HI.out.1 t3
          have T4:=bsome HI.out.1 t4
          have HBI:=hide HI.out.1
          have HBW:=hide (btrans HB.out HI.out.1)
          by_cases hlt:j<p.blocks.length
          ·obtain ⟨b,hx⟩: ∃ x,p.blocks[j]? =some x:=⟨_,List.getElem?_eq_getElem hlt⟩
           have HN:Hid (Ck.blks p 0 p.blocks=(Ck.blk p j b && Ck.blks p (j+1) (p.blocks.drop (j+1)))):=hide (by
            rw [HI.out.2,List.drop_eq_getElem_cons hlt]
            rw [List.getElem?_eq_getElem hlt,Option.some.injEq] at hx
            rw [hx]
            rfl)
           have CY:=hide (CB.out j b wr hx HTT.out HBW.out)
           clear hx HI
           generalize Ck.blk p j b=T at *
           cases T with
           |true=>
            go_wp2_with fail
            refine CY.out.mono ?_
            rintro e w3 ⟨rfl,hb3⟩
            have HB3:=hide (btrans HBI.out hb3)
            clear hb3
            go_wp2
            go_roundw
            case rel=>exact ⟨j+1,by omega,by go_num,hide ⟨HB3.out,HN.out⟩⟩
            case measure=>simp [intOf];omega
           |false=>
            have HE:Hid (Ck.pf (l.take k) p k=(5,10000 * (k:Int) - 1)):=hide (by
             have e:Ck.frame p=5:=by rw [HE2.out,HN.out];rfl
             rw [Ck.pf_frame (by rw [e];decide),e])
            go_wp2_with fail
            refine CY.out.mono ?_
            rintro e w3 ⟨rfl,hb3⟩
            have HB3:=hide (btrans HBI.out hb3)
            have HB4:=hide (btrans HBW.out hb3)
            clear hb3
            go_wp2_with fail
            refine (rFf_any 5 (10000 * (k:Int) - 1) _).mono ?_
            rintro e w7 ⟨rfl,hb7⟩
            obtain ⟨s0,s1,z0,z1⟩:=HF.out.keep (btrans HB3.out hb7)
            have HB7:=hide (btrans HB4.out hb7)
            clear hb7
            go_wp2
            refine bodyPost_ret (v:= .agg #[.int .i64 5,.int .i64 (10000 * (k:Int) - 1)]) (by simp [results,Tryz.results16,go_sem,s0,s1]) rfl ⟨by rw [HE.out],bset (bset HB7.out (Nat.le_succ _) _) (Nat.le_succ _) _⟩
          ·obtain rfl:j=p.blocks.length:=by omega
           have hfr:Ck.frame p=0:=by
            rw [HE2.out,HI.out.2,List.drop_length]
            rfl
           have HFR:=hide hfr
           clear HI hfr HE2
           generalize wr=w5 at *
           go_wp2
           go_loopw [9] (fun iv ws=> ∃ j:Nat,j≤p.ins.length∧iv= .int .i64 j∧Hid (Below w5.heap.size w5 ws∧Ck.bad (l.take k) p 0 p.ins=Ck.bad (l.take k) p j (p.ins.drop j))) (fun iv _=>p.ins.length - (intOf iv).toNat)
           case atStart=>exact ⟨0,Nat.zero_le _,rfl,hide ⟨Below.refl _ _,rfl⟩⟩
           case round=>
            obtain ⟨j,hj,rfl,HI⟩:=hrel
            by_cases hlt:j<p.ins.length
            ·obtain ⟨x,hx⟩: ∃ x,p.ins[j]? =some x:=⟨_,List.getElem?_eq_getElem hlt⟩
             obtain ⟨ae,ce,aa,ca,hic⟩:=HCI.out _ x hx
             have hic:=hic.keep (btrans HBI.out HI.out.1)
             have HN:Hid (Ck.bad (l.take k) p 0 p.ins=if (Ck.isB p x.bk && Ck.isB p x.lp && Ck.fits (l.take k) p x) then Ck.bad (l.take k) p (j+1) (p.ins.drop (j+1)) else some j):=hide (by rw [HI.out.2,Ck.bad_at hx];rfl)
             have hba:=(Below.refl wr.heap.size wr).alloc (Nat.le_refl _) (.cells (icl x ae ce aa ca) 47)
             have hix:=IC.new 47 hic.e hic.args
             have HBA:=hide hba
             have HI1:=hide HI.out.1
             have kw:=btrans HBW.out (btrans HI.out.1 hba)
             have C3:=hide (CI.out x ae ce aa ca _ (List.mem_of_getElem? hx) HTT.out kw hix.e hix.args)
             have HPB:Hid (∀ b,Ck.bad (l.take k) p 0 p.ins=some b→Ck.pf (l.take k) p k=(16,10000 * (k:Int)+(b:Int))):=hide (fun b hb=>Ck.pf_bad HFR.out hb)
             have K0:=bsome (btrans HBI.out (btrans HI.out.1 hba)) k0
             have K1:=bsome (btrans HBI.out (btrans HI.out.1 hba)) k1
             have U4:=bsome HI.out.1 T4
             have HBI:=hide (btrans HBI.out HI.out.1)
             have HBW:=hide (btrans HBW.out HI.out.1)
             obtain ⟨y0,y1,y2,y3,y4,y5,y6,y7,y8,y9,y10,-,-⟩:=hic
             obtain ⟨x0,x1,x2,x3,x4,x5,x6,x7,x8,x9,x10,-,-⟩:=hix
             have HB1:Hid (Ck.isB p x.bk=(decide (0≤x.bk) && decide (x.bk<(p.blocks.length:Int)))):=hide rfl
             have HB2:Hid (Ck.isB p x.lp=(decide (0≤x.lp) && decide (x.lp<(p.blocks.length:Int)))):=hide rfl
             generalize Ck.isB p x.bk=B1 at *
             generalize Ck.isB p x.lp=B2 at *
             generalize Ck.fits (l.take k) p x=B3 at *
             clear hx HI hba kw CI CB
             obtain ⟨op,xa,xb,xn,xto,xt,xe,xg,xbk,xlp,xat⟩:=x
             dsimp only at *
             unfold icl at *
             cases B3 with
             |false=>
              have HE3:Hid (Ck.pf (l.take k) p k=(16,10000 * (k:Int)+(j:Int))):=hide (HPB.out j (by rw [HN.out,Bool.and_false];rfl))
              go_wp2_with fail
              refine (C3.out).mono ?_
              rintro e w6 ⟨rfl,hb6⟩
              have kc:=btrans HBA.out hb6
              have HB3:=hide (btrans HBI.out kc)
              have HB4:=hide (btrans HBW.out kc)
              have q3:=bsome (btrans HI1.out kc) T3
              have x8:=bsome hb6 x8
              have x9:=bsome hb6 x9
              clear hb6 kc
              go_wp2_with fail
              refine (rFf_any 16 (10000 * (k:Int)+(j:Int)) _).mono ?_
              rintro e w7 ⟨rfl,hb7⟩
              obtain ⟨s0,s1,z0,z1⟩:=HF.out.keep (btrans HB3.out hb7)
              have HB7:=hide (btrans HB4.out hb7)
              clear hb7
              go_wp2
              refine bodyPost_ret (v:= .agg #[.int .i64 16,.int .i64 (10000 * (k:Int)+(j:Int))]) (by simp [results,Tryz.results16,go_sem,s0,s1]) rfl ⟨by rw [HE3.out],bset (bset HB7.out (Nat.le_succ _) _) (Nat.le_succ _) _⟩
             |true=>
              by_cases g1:0≤xbk
              ·have d1:decide (xbk<0)=false:=by simp;omega
               by_cases g2:xbk<(p.blocks.length:Int)
               ·have d2:decide ((p.blocks.length:Int)≤xbk)=false:=by simp;omega
                rw [decide_eq_true g1,decide_eq_true g2] at HB1
                clear g1 g2
                by_cases g3:0≤xlp
                ·have d3:decide (xlp<0)=false:=by simp;omega
                 by_cases g4:xlp<(p.blocks.length:Int)
                 ·have d4:decide ((p.blocks.length:Int)≤xlp)=false:=by simp;omega
                  rw [decide_eq_true g3,decide_eq_true g4] at HB2
                  have HN2:Hid (Ck.bad (l.take k) p 0 p.ins=Ck.bad (l.take k) p (j+1) (p.ins.drop (j+1))):=hide (by rw [HN.out,HB1.out,HB2.out];rfl)
                  clear g3 g4
                  go_wp2_with fail
                  refine (C3.out).mono ?_
                  rintro e w6 ⟨rfl,hb6⟩
                  have kc:=btrans HBA.out hb6
                  have HB9:=hide (btrans HI1.out kc)
                  have HB3:=hide (btrans HBI.out kc)
                  have HB4:=hide (btrans HBW.out kc)
                  have q3:=bsome (btrans HI1.out kc) T3
                  have x8:=bsome hb6 x8
                  have x9:=bsome hb6 x9
                  clear hb6 kc
                  go_wp2
                  go_roundw
                  case rel=>exact ⟨j+1,by omega,by go_num,hide ⟨HB9.out,HN2.out⟩⟩
                  case measure=>simp [intOf];omega
                 ·have d4:decide ((p.blocks.length:Int)≤xlp)=true:=by simp;omega
                  have HE3:Hid (Ck.pf (l.take k) p k=(16,10000 * (k:Int)+(j:Int))):=hide (HPB.out j (by rw [HN.out,HB2.out,decide_eq_false g4];simp))
                  clear g3 g4
                  go_wp2_with fail
                  refine (C3.out).mono ?_
                  rintro e w6 ⟨rfl,hb6⟩
                  have kc:=btrans HBA.out hb6
                  have HB3:=hide (btrans HBI.out kc)
                  have HB4:=hide (btrans HBW.out kc)
                  have q3:=bsome (btrans HI1.out kc) T3
                  have x8:=bsome hb6 x8
                  have x9:=bsome hb6 x9
                  clear hb6 kc
                  go_wp2_with fail
                  refine (rFf_any 16 (10000 * (k:Int)+(j:Int)) _).mono ?_
                  rintro e w7 ⟨rfl,hb7⟩
                  obtain ⟨s0,s1,z0,z1⟩:=HF.out.keep (btrans HB3.out hb7)
                  have HB7:=hide (btrans HB4.out hb7)
                  clear hb7
                  go_wp2
                  refine bodyPost_ret (v:= .agg #[.int .i64 16,.int .i64 (10000 * (k:Int)+(j:Int))]) (by simp [results,Tryz.results16,go_sem,s0,s1]) rfl ⟨by rw [HE3.out],bset (bset HB7.out (Nat.le_succ _) _) (Nat.le_succ _) _⟩
                ·have d3:decide (xlp<0)=true:=by simp;omega
                 have HE3:Hid (Ck.pf (l.take k) p k=(16,10000 * (k:Int)+(j:Int))):=hide (HPB.out j (by rw [HN.out,HB2.out,decide_eq_false g3];simp))
                 clear g3
                 go_wp2_with fail
                 refine (C3.out).mono ?_
                 rintro e w6 ⟨rfl,hb6⟩
                 have kc:=btrans HBA.out hb6
                 have HB3:=hide (btrans HBI.out kc)
                 have HB4:=hide (btrans HBW.out kc)
                 have q3:=bsome (btrans HI1.out kc) T3
                 have x8:=bsome hb6 x8
                 have x9:=bsome hb6 x9
                 clear hb6 kc
                 go_wp2_with fail
                 refine (rFf_any 16 (10000 * (k:Int)+(j:Int)) _).mono ?_
                 rintro e w7 ⟨rfl,hb7⟩
                 obtain ⟨s0,s1,z0,z1⟩:=HF.out.keep (btrans HB3.out hb7)
                 have HB7:=hide (btrans HB4.out hb7)
                 clear hb7
                 go_wp2
                 refine bodyPost_ret (v:= .agg #[.int .i64 16,.int .i64 (10000 * (k:Int)+(j:Int))]) (by simp [results,Tryz.results16,go_sem,s0,s1]) rfl ⟨by rw [HE3.out],bset (bset HB7.out (Nat.le_succ _) _) (Nat.le_succ _) _⟩
               ·have d2:decide ((p.blocks.length:Int)≤xbk)=true:=by simp;omega
                have HE3:Hid (Ck.pf (l.take k) p k=(16,10000 * (k:Int)+(j:Int))):=hide (HPB.out j (by rw [HN.out,HB1.out,decide_eq_false g2];simp))
                clear g1 g2
                go_wp2_with fail
                refine (C3.out).mono ?_
                rintro e w6 ⟨rfl,hb6⟩
                have kc:=btrans HBA.out hb6
                have HB3:=hide (btrans HBI.out kc)
                have HB4:=hide (btrans HBW.out kc)
                have q3:=bsome (btrans HI1.out kc) T3
                have x8:=bsome hb6 x8
                have x9:=bsome hb6 x9
                clear hb6 kc
                go_wp2_with fail
                refine (rFf_any 16 (10000 * (k:Int)+(j:Int)) _).mono ?_
                rintro e w7 ⟨rfl,hb7⟩
                obtain ⟨s0,s1,z0,z1⟩:=HF.out.keep (btrans HB3.out hb7)
                have HB7:=hide (btrans HB4.out hb7)
                clear hb7
                go_wp2
                refine bodyPost_ret (v:= .agg #[.int .i64 16,.int .i64 (10000 * (k:Int)+(j:Int))]) (by simp [results,Tryz.results16,go_sem,s0,s1]) rfl ⟨by rw [HE3.out],bset (bset HB7.out (Nat.le_succ _) _) (Nat.le_succ _) _⟩
              ·have d1:decide (xbk<0)=true:=by simp;omega
               have HE3:Hid (Ck.pf (l.take k) p k=(16,10000 * (k:Int)+(j:Int))):=hide (HPB.out j (by rw [HN.out,HB1.out,decide_eq_false g1];simp))
               clear g1
               go_wp2_with fail
               refine (C3.out).mono ?_
               rintro e w6 ⟨rfl,hb6⟩
               have kc:=btrans HBA.out hb6
               have HB3:=hide (btrans HBI.out kc)
               have HB4:=hide (btrans HBW.out kc)
               have q3:=bsome (btrans HI1.out kc) T3
               have x8:=bsome hb6 x8
               have x9:=bsome hb6 x9
               clear hb6 kc
               go_wp2_with fail
               refine (rFf_any 16 (10000 * (k:Int)+(j:Int)) _).mono ?_
               rintro e w7 ⟨rfl,hb7⟩
               obtain ⟨s0,s1,z0,z1⟩:=HF.out.keep (btrans HB3.out hb7)
               have HB7:=hide (btrans HB4.out hb7)
               clear hb7
               go_wp2
               refine bodyPost_ret (v:= .agg #[.int .i64 16,.int .i64 (10000 * (k:Int)+(j:Int))]) (by simp [results,Tryz.results16,go_sem,s0,s1]) rfl ⟨by rw [HE3.out],bset (bset HB7.out (Nat.le_succ _) _) (Nat.le_succ _) _⟩
            ·obtain rfl:j=p.ins.length:=by omega
             obtain ⟨x,hx⟩: ∃ x,p.ins[p.ins.length - 1]? =some x:=⟨_,List.getElem?_eq_getElem (by omega)⟩
             obtain ⟨ae,ce,aa,ca,hic⟩:=HCI.out _ x hx
             have hic:=hic.keep (btrans HBI.out HI.out.1)
             have x0:=hic.c0
             have HE2:Hid (Ck.pf (l.take k) p k=if x.op ≠ 17∧x.op ≠ 15 then (16,10000 * (k:Int)+(p.ins.length:Int)) else (0,0)):=hide (by
              rw [Ck.pf_last HFR.out (by rw [HI.out.2,List.drop_length];rfl),←Ck.last_at hx])
             have HB3:=hide (btrans HBI.out HI.out.1)
             have HB4:=hide (btrans HBW.out HI.out.1)
             have U4:=bsome HI.out.1 T4
             obtain ⟨s0,s1,z0,z1⟩:=HF.out.keep HB3.out
             have hls:p.ins.length - 1<p.ins.length:=by omega
             have hlc:((p.ins.length:Int) - 1)=((p.ins.length - 1:Nat):Int):=by omega
             generalize x.op=op at *
             generalize hL:p.ins.length - 1=LL at *
             clear hx hic HI hL
             by_cases g7:op=17
             ·subst g7
              have HE3:Hid (Ck.pf (l.take k) p k=(0,0)):=hide (by rw [HE2.out];rfl)
              go_wp2
              refine bodyPost_ret (v:= .agg #[.int .i64 0,.int .i64 0]) (by simp [results,Tryz.results16,go_sem,s0,s1]) rfl ⟨by rw [HE3.out],bset (bset HB4.out (Nat.le_succ _) _) (Nat.le_succ _) _⟩
             ·have n7:(op !=17)=true:=by simpa using g7
              by_cases g5:op=15
              ·subst g5
               have HE3:Hid (Ck.pf (l.take k) p k=(0,0)):=hide (by rw [HE2.out];rfl)
               go_wp2
               refine bodyPost_ret (v:= .agg #[.int .i64 0,.int .i64 0]) (by simp [results,Tryz.results16,go_sem,s0,s1]) rfl ⟨by rw [HE3.out],bset (bset HB4.out (Nat.le_succ _) _) (Nat.le_succ _) _⟩
              ·have n5:(op !=15)=true:=by simpa using g5
               have HE3:Hid (Ck.pf (l.take k) p k=(16,10000 * (k:Int)+(p.ins.length:Int))):=hide (by rw [HE2.out,if_pos ⟨g7,g5⟩])
               clear g7 g5 HE2
               go_wp2_with fail
               refine (rFf_any 16 (10000 * (k:Int)+(p.ins.length:Int)) _).mono ?_
               rintro e w7 ⟨rfl,hb7⟩
               obtain ⟨s0,s1,z0,z1⟩:=HF.out.keep (btrans HB3.out hb7)
               have HB7:=hide (btrans HB4.out hb7)
               clear hb7
               go_wp2
               refine bodyPost_ret (v:= .agg #[.int .i64 16,.int .i64 (10000 * (k:Int)+(p.ins.length:Int))]) (by simp [results,Tryz.results16,go_sem,s0,s1]) rfl ⟨by rw [HE3.out],bset (bset HB7.out (Nat.le_succ _) _) (Nat.le_succ _) _⟩
        ·have d6:decide ((2000:Int)<(p.blocks.length:Int))=true:=by simp;omega
         have HE2:Hid (Ck.pf (l.take k) p k=(8,10000 * (k:Int) - 1)):=hide (by
          have e:Ck.frame p=8:=by rw [HE.out,if_neg (by omega),if_neg g3,if_pos (by omega)]
          rw [Ck.pf_frame (by rw [e];decide),e])
         clear HE g1 g2 g3 g4 g5 g6 hpos
         go_wp2_with fail
         refine (rFf_any 8 (10000 * (k:Int) - 1) _).mono ?_
         rintro e w7 ⟨rfl,hb7⟩
         obtain ⟨s0,s1,z0,z1⟩:=HF.out.keep (btrans (Below.refl _ _) hb7)
         have HB7:=hide (btrans HB.out hb7)
         clear hb7
         go_wp2
         refine bodyPost_ret (v:= .agg #[.int .i64 8,.int .i64 (10000 * (k:Int) - 1)]) (by simp [results,Tryz.results16,go_sem,s0,s1]) rfl ⟨by rw [HE2.out],bset (bset HB7.out (Nat.le_succ _) _) (Nat.le_succ _) _⟩
       ·have d5:decide ((4000:Int)<(p.vars.length:Int))=true:=by simp;omega
        have HE2:Hid (Ck.pf (l.take k) p k=(8,10000 * (k:Int) - 1)):=hide (by
         have e:Ck.frame p=8:=by rw [HE.out,if_neg (by omega),if_neg g3,if_pos (by omega)]
         rw [Ck.pf_frame (by rw [e];decide),e])
        clear HE g1 g2 g3 g4 g5 hpos
        go_wp2_with fail
        refine (rFf_any 8 (10000 * (k:Int) - 1) _).mono ?_
        rintro e w7 ⟨rfl,hb7⟩
        obtain ⟨s0,s1,z0,z1⟩:=HF.out.keep (btrans (Below.refl _ _) hb7)
        have HB7:=hide (btrans HB.out hb7)
        clear hb7
        go_wp2
        refine bodyPost_ret (v:= .agg #[.int .i64 8,.int .i64 (10000 * (k:Int) - 1)]) (by simp [results,Tryz.results16,go_sem,s0,s1]) rfl ⟨by rw [HE2.out],bset (bset HB7.out (Nat.le_succ _) _) (Nat.le_succ _) _⟩
      ·have d4:decide ((2000:Int)<(p.ins.length:Int))=true:=by simp;omega
       have HE2:Hid (Ck.pf (l.take k) p k=(8,10000 * (k:Int) - 1)):=hide (by
        have e:Ck.frame p=8:=by rw [HE.out,if_neg (by omega),if_neg g3,if_pos (by omega)]
        rw [Ck.pf_frame (by rw [e];decide),e])
       clear HE g1 g2 g3 g4 hpos
       go_wp2_with fail
       refine (rFf_any 8 (10000 * (k:Int) - 1) _).mono ?_
       rintro e w7 ⟨rfl,hb7⟩
       obtain ⟨s0,s1,z0,z1⟩:=HF.out.keep (btrans (Below.refl _ _) hb7)
       have HB7:=hide (btrans HB.out hb7)
       clear hb7
       go_wp2
       refine bodyPost_ret (v:= .agg #[.int .i64 8,.int .i64 (10000 * (k:Int) - 1)]) (by simp [results,Tryz.results16,go_sem,s0,s1]) rfl ⟨by rw [HE2.out],bset (bset HB7.out (Nat.le_succ _) _) (Nat.le_succ _) _⟩
    ·have d2:decide ((p.vars.length:Int)<p.params)=true:=by simp;omega
     have HE2:Hid (Ck.pf (l.take k) p k=(15,10000 * (k:Int) - 1)):=hide (by
      have e:Ck.frame p=15:=by rw [HE.out,if_pos (by omega)]
      rw [Ck.pf_frame (by rw [e];decide),e])
     clear HE g1 g2
     go_wp2_with fail
     refine (rFf_any 15 (10000 * (k:Int) - 1) _).mono ?_
     rintro e w7 ⟨rfl,hb7⟩
     obtain ⟨s0,s1,z0,z1⟩:=HF.out.keep (btrans (Below.refl _ _) hb7)
     have HB7:=hide (btrans HB.out hb7)
     clear hb7
     go_wp2
     refine bodyPost_ret (v:= .agg #[.int .i64 15,.int .i64 (10000 * (k:Int) - 1)]) (by simp [results,Tryz.results16,go_sem,s0,s1]) rfl ⟨by rw [HE2.out],bset (bset HB7.out (Nat.le_succ _) _) (Nat.le_succ _) _⟩
   ·have d1:decide (p.params<0)=true:=by simp;omega
    have HE2:Hid (Ck.pf (l.take k) p k=(15,10000 * (k:Int) - 1)):=hide (by
     have e:Ck.frame p=15:=by rw [HE.out,if_pos (by omega)]
     rw [Ck.pf_frame (by rw [e];decide),e])
    clear HE g1
    go_wp2_with fail
    refine (rFf_any 15 (10000 * (k:Int) - 1) _).mono ?_
    rintro e w7 ⟨rfl,hb7⟩
    obtain ⟨s0,s1,z0,z1⟩:=HF.out.keep (btrans (Below.refl _ _) hb7)
    have HB7:=hide (btrans HB.out hb7)
    clear hb7
    go_wp2
    refine bodyPost_ret (v:= .agg #[.int .i64 15,.int .i64 (10000 * (k:Int) - 1)]) (by simp [results,Tryz.results16,go_sem,s0,s1]) rfl ⟨by rw [HE2.out],bset (bset HB7.out (Nat.le_succ _) _) (Nat.le_succ _) _⟩
set_option maxRecDepth 100000 in
set_option maxHeartbeats 8000000 in
theorem rCode_any (l:List Cd.Pr) (m:Int) (ua:Option Addr) (uc:Nat) (w:World) (hu:CoR w (.slice ua l.length uc) l) (hO:CoOK l):
  Calls Tryz.prog 8 #[.agg #[.slice ua l.length uc,.int .i64 m]] w fun e w'=>e= .returned (.agg #[.int .i64 (Ck.check l m).1,.int .i64 (Ck.check l m).2])∧Below w.heap.size w w':=by
 have hb1:Below w.heap.size w (w.alloc (.cells #[.slice ua l.length uc,.int .i64 m] 24)):=(Below.refl _ _).alloc (Nat.le_refl _) _
 have hb2:=(Below.refl (w.alloc (.cells #[.slice ua l.length uc,.int .i64 m] 24)).heap.size (w.alloc (.cells #[.slice ua l.length uc,.int .i64 m] 24))).alloc (Nat.le_refl _) (.cells #[.int .i64 0,.int .i64 0] 28)
 have HB:=hide (btrans hb1 hb2)
 have hf:=FBc.new (w.alloc (.cells #[.slice ua l.length uc,.int .i64 m] 24)) 0 0 28
 rw [show (w.alloc (.cells #[.slice ua l.length uc,.int .i64 m] 24)).heap.size=w.heap.size+1 by simp] at hf
 have c0:=bsome hb2 (agg_two w (.slice ua l.length uc) (.int .i64 m) 24).1
 have c1:=bsome hb2 (agg_two w (.slice ua l.length uc) (.int .i64 m) 24).2
 have HF:=hide hf
 obtain ⟨s0,s1,z0,z1⟩:=hf
 have HU:=hide hu
 have hsz: ¬ w.heap.size+1=w.heap.size:=by omega
 clear hb1 hb2
 by_cases g0:l=[]
 ·have HE:Hid (Ck.check l m=(10,-1)):=hide (by unfold Ck.check;rw [if_pos g0])
  have d0:((l.length:Int) == 0)=true:=by rw [g0];rfl
  clear hu hO
  subst g0
  go_enter Tryz.func8,Tryz.ntmps8
  go_wp2_with fail
  refine (rFf_any 10 (-1) _).mono ?_
  rintro e w7 ⟨rfl,hb7⟩
  obtain ⟨s0,s1,z0,z1⟩:=HF.out.keep hb7
  have HB7:=hide (btrans HB.out hb7)
  clear hb7
  go_wp2
  refine bodyPost_ret (v:= .agg #[.int .i64 10,.int .i64 (-1)]) (by simp [results,Tryz.results8,go_sem,s0,s1]) rfl ⟨by rw [HE.out],bset (bset HB7.out (Nat.le_succ _) _) (Nat.le_succ _) _⟩
 have hpos:=List.length_pos_iff.2 g0
 have d0:((l.length:Int) == 0)=false:=by simp;omega
 have d0n:(l.length == 0)=false:=by simp;omega
 by_cases g1:10<l.length
 ·have HE:Hid (Ck.check l m=(8,-1)):=hide (by unfold Ck.check;rw [if_neg g0,if_pos g1])
  have d1:decide ((10:Int)<(l.length:Int))=true:=by simp;omega
  clear hu hO g0 g1
  go_enter Tryz.func8,Tryz.ntmps8
  go_wp2_with fail
  refine (rFf_any 8 (-1) _).mono ?_
  rintro e w7 ⟨rfl,hb7⟩
  obtain ⟨s0,s1,z0,z1⟩:=HF.out.keep hb7
  have HB7:=hide (btrans HB.out hb7)
  clear hb7
  go_wp2
  refine bodyPost_ret (v:= .agg #[.int .i64 8,.int .i64 (-1)]) (by simp [results,Tryz.results8,go_sem,s0,s1]) rfl ⟨by rw [HE.out],bset (bset HB7.out (Nat.le_succ _) _) (Nat.le_succ _) _⟩
 have hl10:l.length≤10:=by omega
 have d1:decide ((10:Int)<(l.length:Int))=false:=by simp;omega
 have HE:Hid (Ck.check l m=match Ck.first [] l with
  |some f=>f
  |none=>if Ck.mainOK l m then (0,0) else (13,-1)):=hide (by unfold Ck.check;rw [if_neg g0,if_neg g1];rfl)
 obtain ⟨ua',uc',e1,hr⟩:=hu
 obtain ⟨rfl,rfl⟩:ua=ua'∧uc=uc':=by simpa using e1
 obtain ⟨g,o,rfl,hc⟩:=hr g0
 have HC:=hide hc
 have HO:=hide hO
 clear e1 hr hc g0 g1 hO
 go_enter Tryz.func8,Tryz.ntmps8
 go_wp2
 generalize World.alloc (World.alloc _ _) _=w1 at *
 go_loopw [3] (fun iv wr=> ∃ k:Nat,k≤l.length∧iv= .int .i64 k∧Hid (Below w1.heap.size w1 wr∧Ck.first [] l=Ck.first (l.take k) (l.drop k)∧ ∀ st ∈ l.take k,st.params≤(st.vars.length:Int)∧Ck.frame st=0)) (fun iv _=>l.length - (intOf iv).toNat)
 case atStart=>exact ⟨0,Nat.zero_le _,rfl,hide ⟨Below.refl _ _,rfl,by simp⟩⟩
 case round=>
  obtain ⟨k,hk,rfl,HI⟩:=hrel
  have c0:=bsome HI.out.1 c0
  have c1:=bsome HI.out.1 c1
  by_cases hlt:k<l.length
  ·obtain ⟨p,hx⟩: ∃ p,l[k]? =some p:=⟨_,List.getElem?_eq_getElem hlt⟩
   have HOp:=HO.out p (List.mem_of_getElem? hx)
   have CF:=hide (rProc_any l m (some ⟨g,o,none⟩) uc k p wr (HU.out.keep (btrans HB.out HI.out.1)) hx (fun st hs=>(HI.out.2.2 st hs).1) HOp.1 HOp.2 (by omega))
   have HN:Hid (Ck.first [] l=if (Ck.fault (l.take k) p).1 ≠ 0 then some ((Ck.fault (l.take k) p).1,(Ck.fault (l.take k) p).2+(k:Int) * 10000) else Ck.first (l.take (k+1)) (l.drop (k+1))):=hide (by rw [HI.out.2.1,Ck.first_at hx rfl])
   have HM:Hid ((Ck.fault (l.take k) p).1=0→ ∀ st ∈ l.take (k+1),st.params≤(st.vars.length:Int)∧Ck.frame st=0):=hide (fun h0 st hs=>by
    rw [←List.take_append_getElem hlt,List.mem_append,List.mem_singleton] at hs
    rcases hs with hs|hs
    ·exact HI.out.2.2 st hs
    ·rw [List.getElem?_eq_getElem hlt,Option.some.injEq] at hx
     rw [hs,hx]
     exact Ck.params_of h0)
   have HBI:=hide HI.out.1
   have HBW:=hide (btrans HB.out HI.out.1)
   have HPF:Hid (Ck.pf (l.take k) p k=if (Ck.fault (l.take k) p).1=0 then (0,0) else ((Ck.fault (l.take k) p).1,(Ck.fault (l.take k) p).2+(k:Int) * 10000)):=hide rfl
   generalize Ck.fault (l.take k) p=FA at *
   obtain ⟨fc,fa⟩:=FA
   dsimp only at *
   clear hx HI HOp
   by_cases e0:fc=0
   ·subst e0
    rw [HPF.out,if_pos rfl] at CF
    dsimp only at *
    go_wp2_with fail
    refine CF.out.mono ?_
    rintro e w6 ⟨rfl,hb6⟩
    have HB6:=hide (btrans HBI.out (btrans hb6 ((Below.refl _ _).alloc (Nat.le_refl _) (.cells #[.int .i64 0,.int .i64 0] 28))))
    clear hb6
    go_wp2
    go_roundw
    case rel=>exact ⟨k+1,by omega,by go_num,hide ⟨HB6.out,by rw [HN.out];rfl,HM.out (by first|rfl|trivial)⟩⟩
    case measure=>simp [intOf];omega
   ·rw [HPF.out,if_neg e0] at CF
    dsimp only at *
    have f0:(fc !=0)=true:=by simpa using e0
    have f1:(fc == 0)=false:=by simpa using e0
    have HE3:Hid (Ck.check l m=(fc,fa+(k:Int) * 10000)):=hide (by rw [HE.out,HN.out,if_pos e0])
    generalize fa+(k:Int) * 10000=fz at *
    clear e0
    go_wp2_with fail
    refine CF.out.mono ?_
    rintro e w6 ⟨rfl,hb6⟩
    have kc:=btrans hb6 ((Below.refl _ _).alloc (Nat.le_refl _) (.cells #[.int .i64 fc,.int .i64 fz] 28))
    obtain ⟨s0,s1,z0,z1⟩:=HF.out.keep (btrans HBI.out kc)
    obtain ⟨a0,a1,a2,a3⟩:=FBc.new w6 fc fz 28
    have HB6:=hide (btrans HBW.out kc)
    clear hb6 kc
    go_wp2
    refine bodyPost_ret (v:= .agg #[.int .i64 fc,.int .i64 fz]) (by simp [results,Tryz.results8,go_sem,s0,s1]) rfl ⟨by rw [HE3.out],bset (bset HB6.out (Nat.le_succ _) _) (Nat.le_succ _) _⟩
  ·obtain rfl:k=l.length:=by omega
   have HE2:Hid (Ck.check l m=if Ck.mainOK l m then (0,0) else (13,-1)):=hide (by
    rw [HE.out,HI.out.2.1,List.drop_length]
    rfl)
   have HP:Hid (∀ st ∈ l,st.params≤(st.vars.length:Int)):=hide (fun st hs=>(HI.out.2.2 st (by rw [List.take_length];exact hs)).1)
   obtain ⟨s0,s1,z0,z1⟩:=HF.out.keep HI.out.1
   have HB6:=hide (btrans HB.out HI.out.1)
   have HBI:=hide HI.out.1
   clear HI
   by_cases g2:0≤m
   ·have d2:decide (m<0)=false:=by simp;omega
    by_cases g3:m<(l.length:Int)
    ·obtain ⟨mm,rfl⟩: ∃ mm:Nat,m=(mm:Int):=⟨m.toNat,by omega⟩
     have d3:decide ((l.length:Int)≤(mm:Int))=false:=by simp;omega
     have d3n:decide (l.length≤mm)=false:=by simp;omega
     have d2n:decide ((mm:Int)<0)=false:=by simp
     have hml:mm<l.length:=by omega
     obtain ⟨p,hx⟩: ∃ p,l[mm]? =some p:=⟨_,List.getElem?_eq_getElem hml⟩
     obtain ⟨q,hq,hpc⟩:=HC.out mm p hx
     have y0:wr.cell? ⟨g,o+mm * 5,none⟩=some (.string p.name):=bsome HB6.out (hq 0 _ rfl)
     have y1:=bsome HB6.out (hq 1 _ rfl)
     have y2:=bsome HB6.out (hq 2 _ rfl)
     have y3:=bsome HB6.out (hq 3 _ rfl)
     have y4:=bsome HB6.out (hq 4 _ rfl)
     have hba:=(Below.refl wr.heap.size wr).alloc (Nat.le_refl _) (.cells (q.cells p) 43)
     obtain ⟨t0,t1,t2,t3,t4⟩:(wr.alloc (.cells (q.cells p) 43)).cell? ⟨wr.heap.size,0,none⟩=some (.string p.name)∧(wr.alloc (.cells (q.cells p) 43)).cell? ⟨wr.heap.size,1,none⟩=some (.slice q.av p.vars.length q.cv)∧(wr.alloc (.cells (q.cells p) 43)).cell? ⟨wr.heap.size,2,none⟩=some (.int .i64 p.params)∧(wr.alloc (.cells (q.cells p) 43)).cell? ⟨wr.heap.size,3,none⟩=some (.slice q.ab p.blocks.length q.cb)∧(wr.alloc (.cells (q.cells p) 43)).cell? ⟨wr.heap.size,4,none⟩=some (.slice q.ai p.ins.length q.ci):=
      ⟨cells_at wr q p 43 0 _ rfl,cells_at wr q p 43 1 _ rfl,cells_at wr q p 43 2 _ rfl,cells_at wr q p 43 3 _ rfl,cells_at wr q p 43 4 _ rfl⟩
     have HBA:=hide hba
     have HE3:Hid (Ck.check l (mm:Int)=if Ck.begins p then (0,0) else (13,-1)):=hide (by
      rw [HE2.out]
      unfold Ck.mainOK
      rw [decide_eq_true g2,Int.toNat_natCast,hx]
      rfl)
     have hpv:p.params≤(p.vars.length:Int):=HP.out p (List.mem_of_getElem? hx)
     obtain ⟨va,vc,e2,hv⟩:=(hpc.keep (btrans HB6.out hba)).vars
     obtain ⟨qa,qc,qb,qd,qi,qe⟩:=q
     obtain ⟨rfl,rfl⟩:qa=va∧qc=vc:=by simpa using e2
     unfold PV.cells at *
     dsimp only at *
     obtain ⟨s0,s1,z0,z1⟩:=HF.out.keep (btrans HBI.out hba)
     have HB8:=hide (btrans HB6.out hba)
     clear hx hq hpc HE2 g2 g3 hba e2
     by_cases g4:p.params=1
     ·have hl:0<p.vars.length:=by omega
      obtain ⟨⟨vn,vt⟩,hvx⟩: ∃ x,p.vars[0]? =some x:=⟨_,List.getElem?_eq_getElem hl⟩
      obtain ⟨gv,ov,rfl,hvc⟩:=hv (List.ne_nil_of_length_pos hl)
      have v2:=(hvc 0 _ hvx).2
      rw [Nat.zero_mul,Nat.add_zero] at v2
      have HBg:Hid (Ck.begins p=(vt.toList == [114,105])):=hide (by
       unfold Ck.begins
       rw [g4,hvx,←show _=(vt.toList == [114,105]) from Ck.eqT_lit vt #[114,105]]
       rfl)
      rw [HBg.out] at HE3
      rw [g4] at t0 t1 t2 t3 t4 y2 v2 s0 s1 z0 z1 HB8 HBA
      clear hv hvc hvx HBg g4
      cases dt:(vt.toList == [114,105]) with
      |true=>
       have dn:(vt.toList !=[114,105])=false:=by simp [bne,dt]
       rw [dt] at HE3
       go_wp2
       refine bodyPost_ret (v:= .agg #[.int .i64 0,.int .i64 0]) (by simp [results,Tryz.results8,go_sem,s0,s1]) rfl ⟨by rw [HE3.out];rfl,bset (bset HB8.out (Nat.le_succ _) _) (Nat.le_succ _) _⟩
      |false=>
       have dn:(vt.toList !=[114,105])=true:=by simp [bne,dt]
       rw [dt] at HE3
       go_wp2_with fail
       refine (rFf_any 13 (-1) _).mono ?_
       rintro e w7 ⟨rfl,hb7⟩
       obtain ⟨s0,s1,z0,z1⟩:=HF.out.keep (btrans (btrans HBI.out HBA.out) hb7)
       have HB7:=hide (btrans HB8.out hb7)
       clear hb7
       go_wp2
       refine bodyPost_ret (v:= .agg #[.int .i64 13,.int .i64 (-1)]) (by simp [results,Tryz.results8,go_sem,s0,s1]) rfl ⟨by rw [HE3.out];rfl,bset (bset HB7.out (Nat.le_succ _) _) (Nat.le_succ _) _⟩
     ·have d4:(p.params !=1)=true:=by simpa using g4
      have d4':(p.params == 1)=false:=by simpa using g4
      have HE4:Hid (Ck.check l (mm:Int)=(13,-1)):=hide (by rw [HE3.out];unfold Ck.begins;rw [d4'];rfl)
      clear HE3 g4
      go_wp2_with fail
      refine (rFf_any 13 (-1) _).mono ?_
      rintro e w7 ⟨rfl,hb7⟩
      obtain ⟨s0,s1,z0,z1⟩:=HF.out.keep (btrans (btrans HBI.out HBA.out) hb7)
      have HB7:=hide (btrans HB8.out hb7)
      clear hb7
      go_wp2
      refine bodyPost_ret (v:= .agg #[.int .i64 13,.int .i64 (-1)]) (by simp [results,Tryz.results8,go_sem,s0,s1]) rfl ⟨by rw [HE4.out],bset (bset HB7.out (Nat.le_succ _) _) (Nat.le_succ _) _⟩
    ·have d3:decide ((l.length:Int)≤m)=true:=by simp;omega
     have HE3:Hid (Ck.check l m=(13,-1)):=hide (by
      rw [HE2.out]
      unfold Ck.mainOK
      rw [decide_eq_true g2,List.getElem?_eq_none (by omega)]
      rfl)
     clear g2 g3
     go_wp2_with fail
     refine (rFf_any 13 (-1) _).mono ?_
     rintro e w7 ⟨rfl,hb7⟩
     obtain ⟨s0,s1,z0,z1⟩:=HF.out.keep (btrans HBI.out hb7)
     have HB7:=hide (btrans HB6.out hb7)
     clear hb7
     go_wp2
     refine bodyPost_ret (v:= .agg #[.int .i64 13,.int .i64 (-1)]) (by simp [results,Tryz.results8,go_sem,s0,s1]) rfl ⟨by rw [HE3.out],bset (bset HB7.out (Nat.le_succ _) _) (Nat.le_succ _) _⟩
   ·have d2:decide (m<0)=true:=by simp;omega
    have HE3:Hid (Ck.check l m=(13,-1)):=hide (by
     rw [HE2.out]
     unfold Ck.mainOK
     rw [decide_eq_false g2]
     rfl)
    clear g2
    go_wp2_with fail
    refine (rFf_any 13 (-1) _).mono ?_
    rintro e w7 ⟨rfl,hb7⟩
    obtain ⟨s0,s1,z0,z1⟩:=HF.out.keep (btrans HBI.out hb7)
    have HB7:=hide (btrans HB6.out hb7)
    clear hb7
    go_wp2
    refine bodyPost_ret (v:= .agg #[.int .i64 13,.int .i64 (-1)]) (by simp [results,Tryz.results8,go_sem,s0,s1]) rfl ⟨by rw [HE3.out],bset (bset HB7.out (Nat.le_succ _) _) (Nat.le_succ _) _⟩
set_option maxRecDepth 100000 in
set_option maxHeartbeats 4000000 in
theorem lchecks_law (l:List Cd.Pr) (m:Int) (ua:Option Addr) (uc:Nat) (w:World) (hu:CoR w (.slice ua l.length uc) l) (hBg: ∀ w',Below w.heap.size w w'→Calls Tryz.prog 4 #[] w' fun e w''=>e= .returned (.bool true)∧Below w'.heap.size w' w''):
  Calls Tryz.prog 3 #[.agg #[.slice ua l.length uc,.int .i64 m]] w fun e w'=>e= .returned (.bool true)∧Below w.heap.size w w':=by
 have hb1:Below w.heap.size w (w.alloc (.cells #[.slice ua l.length uc,.int .i64 m] 24)):=(Below.refl _ _).alloc (Nat.le_refl _) _
 have HB:=hide hb1
 obtain ⟨x0,x1⟩:=agg_two w (.slice ua l.length uc) (.int .i64 m) 24
 have HBG:=hide (hBg _ hb1)
 have HU:=hide hu
 clear hu hBg hb1
 go_enter Tryz.func3,Tryz.ntmps3
 go_wp2_with fail
 refine HBG.out.mono ?_
 rintro e w3 ⟨rfl,hb3⟩
 have x0:=bsome hb3 x0
 have x1:=bsome hb3 x1
 have HB3:=hide (btrans HB.out hb3)
 have CG:=hide (rGreatCode_any l m ua uc w3 (HU.out.keep (btrans HB.out hb3)))
 clear hb3 HBG HB
 go_wp2_with fail
 refine CG.out.mono ?_
 rintro e w4 ⟨b,rfl,hb,hb4⟩
 have x0:=bsome hb4 x0
 have x1:=bsome hb4 x1
 have HB4:=hide (btrans HB3.out hb4)
 have HOK:=hide hb
 clear hb hb4 CG HB3
 cases b with
 |true=>
  go_wp2
  go_ret
  exact ⟨rfl,HB4.out⟩
 |false=>
  have hok:=HOK.out rfl
  have HDR:Hid (Below w4.heap.size w4 w4.drew):=hide (below_drewN (Below.refl _ _) 1)
  have CY:Hid (∀ w',Below w4.heap.size w4 w'→Calls Tryz.prog 7 #[.agg #[.slice ua l.length uc,.int .i64 m]] w' fun e w''=> ∃ ap cp,e= .returned (.agg #[.slice ap l.length cp,.int .i64 m])∧CoR w'' (.slice ap l.length cp) l∧l.length≤cp∧Below w'.heap.size w' w''):=hide (fun w' hb=>rCopyCode_any l m ua uc w' (HU.out.keep (btrans HB4.out hb)) hok.2 (by have:=hok.1;omega))
  have CF:Hid (∀ w',Below w4.heap.size w4 w'→Calls Tryz.prog 8 #[.agg #[.slice ua l.length uc,.int .i64 m]] w' fun e w''=>e= .returned (.agg #[.int .i64 (Ck.check l m).1,.int .i64 (Ck.check l m).2])∧Below w'.heap.size w' w''):=hide (fun w' hb=>rCode_any l m ua uc w' (HU.out.keep (btrans HB4.out hb)) hok.2)
  have CK:Hid (∀ (ap:Option Addr) (cp:Nat) (w':World),CoR w' (.slice ap l.length cp) l→l.length≤cp→Calls Tryz.prog 6 #[.agg #[.slice ap l.length cp,.int .i64 m]] w' fun e w''=>e= .returned (.agg #[.int .i64 (Ck.check l m).1,.int .i64 (Ck.check l m).2])∧Below w'.heap.size w' w''):=hide (fun ap cp w' hc hl=>ckCheck_any l m ap cp w' hc hok.2 (by omega))
  generalize Ck.check l m=FF at *
  obtain ⟨fc,fa⟩:=FF
  dsimp only at *
  clear hok HOK
  have k1:Hid (Below w4.heap.size w4 w4.drew):=HDR
  go_wp2
  go_region_held_law (fun w'=>w'.cell? ⟨w.heap.size,0,none⟩=some (.slice ua l.length uc)∧w'.cell? ⟨w.heap.size,1,none⟩=some (.int .i64 m)) (first|exact ⟨by assumption,by assumption⟩|go_keep)
   (first
    |(go_at_call 7;refine (CY.out _ (by first|exact k2.out|exact k1.out)).mono ?_;rintro e w6 ⟨ap,cp,rfl,hco,hcp,hb6⟩;have k2:=hide (btrans (by first|exact k2.out|exact k1.out) hb6);have x0:=bsome hb6 x0;have x1:=bsome hb6 x1;have HCO:=hide hco;have HCP:=hide hcp;clear hco hcp hb6)
    |(go_at_call 6;refine (CK.out ap cp _ (by exact HCO.out) HCP.out).mono ?_;rintro e w6 ⟨rfl,hb6⟩;have k2:=hide (btrans (by first|exact k2.out|exact k1.out) hb6);have x0:=bsome hb6 x0;have x1:=bsome hb6 x1;clear hb6)
    |(go_at_call 8;refine (CF.out _ (by first|exact k2.out|exact k1.out)).mono ?_;rintro e w6 ⟨rfl,hb6⟩;have k2:=hide (btrans (by first|exact k2.out|exact k1.out) hb6);have x0:=bsome hb6 x0;have x1:=bsome hb6 x1;(try (have HCO:=hide (HCO.out.keep hb6)));clear hb6))
  all_goals
   go_wp2
   go_ret
   exact ⟨rfl,btrans HB4.out k2.out⟩
end Go.Proofs.YtbhhkaobkdeolaaGreatDoor
