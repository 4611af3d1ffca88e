import Derived.Test.YtbhhkaobkdeolaaGreatDoorMcc
import Derived.Test.YtbhhkaobkdeolaaGreatDoorMca
import Derived.BigQuiet
namespace Go.Proofs.YtbhhkaobkdeolaaGreatDoor
open Go.RowKit
set_option maxRecDepth 100000 in
set_option maxHeartbeats 1000000 in
theorem rBegins_any (t:ByteArray) (b:UInt8) (w:World):Calls Tryz.prog 49 #[.string t,.string ⟨#[b]⟩] w fun e w'=>e= .returned (.bool (decide (1<t.size) && Ck.pfx b t))∧w'=w:=by
 have HE:=hide (pre_head t b)
 unfold Ck.pfx
 generalize decide (t.data.toList.head? =some b)=D at *
 by_cases h:1<t.size
 ·have d1:decide ((1:Int)<(t.size:Int))=true:=by simp;omega
  have h1:1≤t.size:=by omega
  rw [decide_eq_true h]
  go_enter Tryz.func49,Tryz.ntmps49
  go_wp2
  go_ret
  exact ⟨by rw [←HE.out];rfl,rfl⟩
 ·have d1:decide ((1:Int)<(t.size:Int))=false:=by simp;omega
  rw [decide_eq_false h]
  clear HE
  go_enter Tryz.func49,Tryz.ntmps49
  go_wp2
  go_ret
  exact ⟨rfl,rfl⟩
set_option maxRecDepth 100000 in
set_option maxHeartbeats 4000000 in
theorem rStack_any (q:PV) (p:Cd.Pr) (v:Value) (L:List (Int × Int)) (w:World) (h:PC q p w) (hL:ER w v L) (hn:L.length≤1000000):
  Calls Tryz.prog 51 #[.agg (q.cells p),v] w fun e w'=>e= .returned (.bool (Ck.num p 0 L))∧Below w.heap.size w w':=by
 have hb:Below w.heap.size w (w.alloc (.cells (q.cells p) 43)):=(Below.refl _ _).alloc (Nat.le_refl _) _
 have HB:=hide hb
 obtain ⟨av,cv,rfl,hr⟩:=hL.keep hb
 obtain ⟨va,vc,e1,hv⟩:=(h.keep hb).vars
 obtain ⟨qa,qc,qb,qd,qi,qe⟩:=q
 obtain ⟨rfl,rfl⟩:qa=va∧qc=vc:=by simpa using e1
 have HR:=hide hr
 have HV:=hide hv
 have k1:(w.alloc (.cells (PV.cells ⟨qa,qc,qb,qd,qi,qe⟩ p) 43)).cell? ⟨w.heap.size,1,none⟩=some (.slice qa p.vars.length qc):=by simp [go_sem,PV.cells]
 clear h hL hr hv hb e1
 unfold PV.cells at *
 dsimp only at *
 go_enter Tryz.func51,Tryz.ntmps51
 go_wp2
 generalize w.alloc _=w1 at *
 go_loopw [5,6] (fun hv iv wr=> ∃ k h:Nat,k≤L.length∧h≤k∧iv= .int .i64 k∧hv= .int .i64 h∧(∃ n,wr=w1.drewN n)∧Hid (Ck.num p 0 L=Ck.num p h (L.drop k))) (fun hv iv _=>L.length - (intOf iv).toNat)
 case atStart=>exact ⟨0,0,Nat.zero_le _,Nat.le_refl _,rfl,rfl,⟨0,rfl⟩,hide rfl⟩
 case round=>
  obtain ⟨k,h,hk,hhk,rfl,rfl,⟨n,rfl⟩,HI⟩:=hrel
  by_cases hlt:k<L.length
  ·obtain ⟨⟨op,nn⟩,hx⟩: ∃ x,L[k]? =some x:=⟨_,List.getElem?_eq_getElem hlt⟩
   obtain ⟨g,o,rfl,hc⟩:=HR.out (List.ne_nil_of_mem (List.mem_of_getElem? hx))
   obtain ⟨c1,c2⟩:=hc k _ hx
   dsimp only at c1 c2
   have HN:Hid (Ck.num p 0 L=Ck.num p h ((op,nn)::L.drop (k+1))):=hide (by
    rw [HI.out,List.drop_eq_getElem_cons hlt]
    rw [List.getElem?_eq_getElem hlt,Option.some.injEq] at hx
    rw [hx])
   have dh:decide ((h:Int)<0)=false:=by simp
   clear hx hc HI
   by_cases e1:op=1
   ·subst e1
    go_wp2
    go_roundw
    case rel=>exact ⟨k+1,h+1,by omega,by omega,by go_num,by go_num,⟨_,rfl⟩,hide HN.out⟩
    case measure=>simp [intOf];omega
   by_cases e2:op=2
   ·subst e2
    have HM:Hid (Ck.num p h ((2,nn)::L.drop (k+1))=(Ck.eqT (Cd.typ p nn) Ck.ti && Ck.num p (h+1) (L.drop (k+1)))):=hide rfl
    by_cases g1:0≤nn
    ·have d1:decide (nn<0)=false:=by simp;omega
     by_cases g2:nn<(p.vars.length:Int)
     ·obtain ⟨m,rfl⟩: ∃ m:Nat,nn=(m:Int):=⟨nn.toNat,by omega⟩
      have hm:m<p.vars.length:=by omega
      have d2:decide ((p.vars.length:Int)≤(m:Int))=false:=by simp;omega
      have d2n:decide (p.vars.length≤m)=false:=by simp;omega
      have d1n:decide ((m:Int)<0)=false:=by simp
      obtain ⟨⟨vn,vt⟩,hvx⟩: ∃ x,p.vars[m]? =some x:=⟨_,List.getElem?_eq_getElem hm⟩
      obtain ⟨gv,ov,rfl,hvc⟩:=HV.out (List.ne_nil_of_mem (List.mem_of_getElem? hvx))
      have v2:=(hvc m _ hvx).2
      dsimp only at v2
      have HS:Hid (Ck.eqT (Cd.typ p (m:Int)) Ck.ti=(vt.toList == [105])):=hide (by rw [Cd.typ_in hvx];exact Ck.eqT_lit _ _)
      clear hvx hvc g1 g2
      cases dt:(vt.toList == [105]) with
      |true=>
       have dt':(vt.toList !=[105])=false:=by simp [bne,dt]
       go_wp2
       go_quiet (fail)
       go_wp2
       refine ⟨⟨k+1,h+1,by omega,by omega,by go_num,by go_num,⟨_,rfl⟩,hide (by rw [HN.out,HM.out,HS.out,dt];rfl)⟩,?_⟩
       simp [intOf];omega
      |false=>
       have dt':(vt.toList !=[105])=true:=by simp [bne,dt]
       have HE:Hid (Ck.num p 0 L=false):=hide (by rw [HN.out,HM.out,HS.out,dt];rfl)
       go_wp2
       go_quiet (fail)
       go_wp2
       go_ret
       exact ⟨by rw [HE.out];rfl,(by first|exact below_drewN HB.out _|exact below_drewN (below_drewN HB.out _) _)⟩
     ·have d2:decide ((p.vars.length:Int)≤nn)=true:=by simp;omega
      have HE:Hid (Ck.num p 0 L=false):=hide (by
       rw [HN.out,HM.out,Cd.typ_out (fun hh=>g2 hh.2)]
       rw [show Ck.eqT (⟨#[]⟩:ByteArray) Ck.ti=false from Ck.eqT_false.2 (by decide)]
       rfl)
      clear g1 g2
      go_wp2
      go_quiet (fail)
      go_wp2
      go_ret
      exact ⟨by rw [HE.out];rfl,(by first|exact below_drewN HB.out _|exact below_drewN (below_drewN HB.out _) _)⟩
    ·have d1:decide (nn<0)=true:=by simp;omega
     have HE:Hid (Ck.num p 0 L=false):=hide (by
      rw [HN.out,HM.out,Cd.typ_out (fun hh=>g1 hh.1)]
      rw [show Ck.eqT (⟨#[]⟩:ByteArray) Ck.ti=false from Ck.eqT_false.2 (by decide)]
      rfl)
     clear g1
     go_wp2
     go_quiet (fail)
     go_wp2
     go_ret
     exact ⟨by rw [HE.out];rfl,(by first|exact below_drewN HB.out _|exact below_drewN (below_drewN HB.out _) _)⟩
   by_cases e3:op=3
   ·subst e3
    have HM:Hid (Ck.num p h ((3,nn)::L.drop (k+1))=(decide (1≤h) && Ck.num p h (L.drop (k+1)))):=hide rfl
    by_cases h1:1≤h
    ·have d1:decide ((h:Int)<1)=false:=by simp;omega
     have d2:decide (h<1)=false:=by simp;omega
     go_wp2
     refine ⟨⟨k+1,h,by omega,by omega,by go_num,by go_num,⟨_,rfl⟩,hide (by rw [HN.out,HM.out,decide_eq_true h1];rfl)⟩,?_⟩
     simp [intOf];omega
    ·have d1:decide ((h:Int)<1)=true:=by simp;omega
     have d2:decide (h<1)=true:=by simp;omega
     go_wp2
     go_ret
     exact ⟨by rw [HN.out,HM.out,decide_eq_false h1];rfl,below_drewN HB.out _⟩
   by_cases e4:4≤op∧op≤8
   ·have HM:Hid (Ck.num p h ((op,nn)::L.drop (k+1))=(decide (2≤h) && Ck.num p (h - 1) (L.drop (k+1)))):=hide (by
     show (if op=1 then _ else _)=_
     rw [if_neg e1,if_neg e2,if_neg e3,if_pos e4])
    have f1:(op == 1)=false:=by simpa using e1
    have f2:(op == 2)=false:=by simpa using e2
    have f3:(op == 3)=false:=by simpa using e3
    have f4:decide (op<1)=false:=by simp;omega
    have f5:decide ((8:Int)<op)=false:=by simp;omega
    clear e1 e2 e3 e4
    by_cases h1:2≤h
    ·have d1:decide ((h:Int)<2)=false:=by simp;omega
     have d2:decide (h<2)=false:=by simp;omega
     go_wp2
     refine ⟨⟨k+1,h - 1,by omega,by omega,by go_num,by go_num,⟨_,rfl⟩,hide (by rw [HN.out,HM.out,decide_eq_true h1];rfl)⟩,?_⟩
     simp [intOf];omega
    ·have d1:decide ((h:Int)<2)=true:=by simp;omega
     have d2:decide (h<2)=true:=by simp;omega
     go_wp2
     go_ret
     exact ⟨by rw [HN.out,HM.out,decide_eq_false h1];rfl,below_drewN HB.out _⟩
   ·have HM:Hid (Ck.num p h ((op,nn)::L.drop (k+1))=false):=hide (by
     show (if op=1 then _ else _)=_
     rw [if_neg e1,if_neg e2,if_neg e3,if_neg e4])
    have f1:(op == 1)=false:=by simpa using e1
    have f2:(op == 2)=false:=by simpa using e2
    have f3:(op == 3)=false:=by simpa using e3
    by_cases g5:op<1
    ·have f4:decide (op<1)=true:=by simp;omega
     clear e1 e2 e3 e4 g5
     go_wp2
     go_ret
     exact ⟨by rw [HN.out,HM.out];rfl,below_drewN HB.out _⟩
    ·have f4:decide (op<1)=false:=by simp;omega
     have f5:decide ((8:Int)<op)=true:=by simp;omega
     clear e1 e2 e3 e4 g5
     go_wp2
     go_ret
     exact ⟨by rw [HN.out,HM.out];rfl,below_drewN HB.out _⟩
  ·obtain rfl:k=L.length:=by omega
   have HE:Hid (Ck.num p 0 L=(h == 1)):=hide (by
    rw [HI.out,List.drop_length]
    rfl)
   have ds:((h:Int) == 1)=(h == 1):=by
    by_cases e:h=1
    ·subst e;rfl
    ·rw [beq_false_of_ne e,beq_false_of_ne (by omega)]
   clear HI HR
   go_wp2
   go_ret
   exact ⟨by rw [HE.out];rfl,(by first|exact below_drewN HB.out _|exact below_drewN (below_drewN HB.out _) _)⟩
def Ck.Ty (t:ByteArray):Prop:=t=⟨#[]⟩∨Rn.isT t.data.toList 3=true
theorem Ck.types_typ {p:Cd.Pr} (h:Ck.types p.vars=true) (v:Int):Ck.Ty (Cd.typ p v):=by
 unfold Cd.typ
 split
 ·cases hx:p.vars[v.toNat]? with
  |none=>exact .inl rfl
  |some x=>exact .inr (List.all_eq_true.1 h x (List.mem_of_getElem? hx))
 ·exact .inl rfl
theorem Ck.ty_list {t:ByteArray} (h:Rn.isT t.data.toList 3=true):Rn.sides t.data.toList=true∧t.data.toList.length≤4:=by
 unfold Rn.isT at h
 rw [Bool.and_eq_true,decide_eq_true_eq] at h
 exact ⟨h.1,by omega⟩
theorem Ck.beg {t:ByteArray} (ht:Ck.Ty t) (b:UInt8) (hb:b ≠ 105):(decide (1<t.size) && Ck.pfx b t)=Ck.pfx b t:=by
 have hs:t.size=t.data.toList.length:=by simp
 rcases ht with rfl|ht
 ·rfl
 ·have h:=(Ck.ty_list ht).1
  unfold Ck.pfx
  rw [hs]
  match t.data.toList,h with
  |[c],h=>
   have:c=105:=by simpa [Rn.sides] using h
   subst this
   have:decide (List.head? [(105:UInt8)]=some b)=false:=decide_eq_false (fun e=>hb (by simpa using e.symm))
   rw [this]
   rfl
  |c::d::r,_=>simp
set_option maxRecDepth 100000 in
set_option maxHeartbeats 4000000 in
theorem rBlock_any (q:PV) (p:Cd.Pr) (i:Nat) (b:Int × Int × Int × Int) (w:World) (h:PC q p w) (hx:p.blocks[i]? =some b) (ht:Ck.types p.vars=true):
  Calls Tryz.prog 25 #[.agg (q.cells p),.int .i64 (i:Int)] w fun e w'=>e= .returned (.bool (Ck.blk p i b))∧Below w.heap.size w w':=by
 obtain ⟨bk,bp,ba,bn⟩:=b
 have hi:i<p.blocks.length:=(List.getElem?_eq_some_iff.1 hx).1
 have hb1:Below w.heap.size w (w.alloc (.cells (q.cells p) 43)):=(Below.refl _ _).alloc (Nat.le_refl _) _
 have hb2:=(Below.refl (w.alloc (.cells (q.cells p) 43)).heap.size (w.alloc (.cells (q.cells p) 43))).alloc (Nat.le_refl _) (.cells #[.int .i64 bk,.int .i64 bp,.int .i64 ba,.int .i64 bn] 104)
 have HB:=hide (btrans hb1 hb2)
 have CT:=hide (typ_any q p ba _ (h.keep (btrans hb1 hb2)))
 have CR:=hide (fun w'=>rBegins_any (Cd.typ p ba) 114 w')
 rw [Ck.beg (Ck.types_typ ht ba) 114 (by decide)] at CR
 obtain ⟨aa,ac,e1,hr⟩:=(h.keep hb1).blocks
 obtain ⟨qa,qc,qb,qd,qi,qe⟩:=q
 obtain ⟨rfl,rfl⟩:qb=aa∧qd=ac:=by simpa using e1
 obtain ⟨g,o,rfl,hc⟩:=hr (List.ne_nil_of_mem (List.mem_of_getElem? hx))
 obtain ⟨y0,y1,y2,y3⟩:=hc i _ hx
 have p0:=bsome hb2 (cells_at w ⟨qa,qc,some ⟨g,o,none⟩,qd,qi,qe⟩ p 43 0 _ rfl)
 have p1:=bsome hb2 (cells_at w ⟨qa,qc,some ⟨g,o,none⟩,qd,qi,qe⟩ p 43 1 _ rfl)
 have p2:=bsome hb2 (cells_at w ⟨qa,qc,some ⟨g,o,none⟩,qd,qi,qe⟩ p 43 2 _ rfl)
 have p3:=bsome hb2 (cells_at w ⟨qa,qc,some ⟨g,o,none⟩,qd,qi,qe⟩ p 43 3 _ rfl)
 have p4:=bsome hb2 (cells_at w ⟨qa,qc,some ⟨g,o,none⟩,qd,qi,qe⟩ p 43 4 _ rfl)
 obtain ⟨b0,b1,b2,b3⟩:=agg_four (w.alloc (.cells (PV.cells ⟨qa,qc,some ⟨g,o,none⟩,qd,qi,qe⟩ p) 43)) (.int .i64 bk) (.int .i64 bp) (.int .i64 ba) (.int .i64 bn) 104
 have HE:Hid (Ck.blk p i (bk,bp,ba,bn)=((decide (0≤bn) && decide (bn≤6)) && if i=0 then bk == 1 else (decide (0≤bp) && decide (bp<(i:Int))) && if bk=2 then Ck.pfx 114 (Cd.typ p ba) else decide (3≤bk) && decide (bk≤5))):=hide rfl
 generalize Ck.blk p i (bk,bp,ba,bn)=R at *
 generalize Ck.pfx 114 (Cd.typ p ba)=D at *
 generalize Cd.typ p ba=T at *
 clear h hx ht hb1 hb2 e1 hr hc
 unfold PV.v PV.cells at *
 dsimp only at *
 by_cases a1:bk<1
 ·have d1:decide (bk<1)=true:=by simp;omega
  have HE2:Hid (R=false):=hide (by
   rw [HE.out]
   have x1:(bk == 1)=false:=by simp;omega
   have x2: ¬ bk=2:=by omega
   have x3:decide (3≤bk)=false:=by simp;omega
   rw [x1,if_neg x2,x3]
   simp)
  clear HE a1
  go_enter Tryz.func25,Tryz.ntmps25
  go_wp2
  go_ret
  exact ⟨by rw [HE2.out];rfl,HB.out⟩
 have d1:decide (bk<1)=false:=by simp;omega
 by_cases a2:5<bk
 ·have d2:decide ((5:Int)<bk)=true:=by simp;omega
  have HE2:Hid (R=false):=hide (by
   rw [HE.out]
   have x1:(bk == 1)=false:=by simp;omega
   have x2: ¬ bk=2:=by omega
   have x3:decide (bk≤5)=false:=by simp;omega
   rw [x1,if_neg x2,x3]
   simp)
  clear HE a1 a2
  go_enter Tryz.func25,Tryz.ntmps25
  go_wp2
  go_ret
  exact ⟨by rw [HE2.out];rfl,HB.out⟩
 have d2:decide ((5:Int)<bk)=false:=by simp;omega
 by_cases e0:i=0
 ·subst e0
  simp only [Nat.zero_mul,Nat.add_zero] at y0 y1 y2 y3
  by_cases e1:bk=1
  ·subst e1
   by_cases a4:0≤bn
   ·have d4:decide (bn<0)=false:=by simp;omega
    by_cases a5:bn≤6
    ·have d5:decide ((6:Int)<bn)=false:=by simp;omega
     rw [decide_eq_true a4,decide_eq_true a5] at HE
     clear a4 a5
     have HE2:Hid (R=true):=hide (by rw [HE.out];rfl)
     clear HE
     go_enter Tryz.func25,Tryz.ntmps25
     go_wp2
     go_ret
     exact ⟨by rw [HE2.out];rfl,HB.out⟩
    ·have d5:decide ((6:Int)<bn)=true:=by simp;omega
     have HE2:Hid (R=false):=hide (by rw [HE.out,decide_eq_false a5];simp)
     clear HE a4 a5
     go_enter Tryz.func25,Tryz.ntmps25
     go_wp2
     go_ret
     exact ⟨by rw [HE2.out];rfl,HB.out⟩
   ·have d4:decide (bn<0)=true:=by simp;omega
    have HE2:Hid (R=false):=hide (by rw [HE.out,decide_eq_false a4];simp)
    clear HE a4
    go_enter Tryz.func25,Tryz.ntmps25
    go_wp2
    go_ret
    exact ⟨by rw [HE2.out];rfl,HB.out⟩
  ·have x1:(bk == 1)=false:=by simpa using e1
   have HE2:Hid (R=false):=hide (by rw [HE.out,if_pos rfl,x1];simp)
   clear HE a1 a2 e1
   go_enter Tryz.func25,Tryz.ntmps25
   go_wp2
   go_ret
   exact ⟨by rw [HE2.out];rfl,HB.out⟩
 ·have x2:((i:Int) == 0)=false:=by simp;omega
  have x2n:(i == 0)=false:=by simpa using e0
  have x3:decide ((0:Int)<(i:Int))=true:=by simp;omega
  have x3n:decide (0<i)=true:=by simp;omega
  by_cases e1:bk=1
  ·subst e1
   have HE2:Hid (R=false):=hide (by rw [HE.out,if_neg e0];simp)
   clear HE a1 a2 e0
   go_enter Tryz.func25,Tryz.ntmps25
   go_wp2
   go_ret
   exact ⟨by rw [HE2.out];rfl,HB.out⟩
  ·have x1:(bk == 1)=false:=by simpa using e1
   by_cases a4:0≤bn
   ·have d4:decide (bn<0)=false:=by simp;omega
    by_cases a5:bn≤6
    ·have d5:decide ((6:Int)<bn)=false:=by simp;omega
     rw [decide_eq_true a4,decide_eq_true a5] at HE
     clear a4 a5
     by_cases a6:0≤bp
     ·have d6:decide (bp<0)=false:=by simp;omega
      by_cases a7:bp<(i:Int)
      ·have d7:decide ((i:Int)≤bp)=false:=by simp;omega
       rw [decide_eq_true a6,decide_eq_true a7,if_neg e0] at HE
       clear a6 a7
       by_cases a8:bk=2
       ·subst a8
        have HE2:Hid (R=D):=hide (by rw [HE.out];rfl)
        clear HE
        go_enter Tryz.func25,Tryz.ntmps25
        go_wp2_with fail
        refine CT.out.mono ?_
        rintro e w3 ⟨rfl,hb3⟩
        have HB3:=hide (btrans HB.out hb3)
        clear hb3
        go_wp2_with fail
        refine (CR.out _).mono ?_
        rintro e w4 ⟨rfl,rfl⟩
        go_wp2
        go_ret
        exact ⟨by rw [HE2.out];rfl,HB3.out⟩
       ·have f2:(bk == 2)=false:=by simpa using a8
        have f3:(bk !=2)=true:=by simpa using a8
        have HE2:Hid (R=true):=hide (by rw [HE.out,if_neg a8,decide_eq_true (by omega:3≤bk),decide_eq_true (by omega:bk≤5)];rfl)
        clear HE a8
        go_enter Tryz.func25,Tryz.ntmps25
        go_wp2
        go_ret
        exact ⟨by rw [HE2.out];rfl,HB.out⟩
      ·have d7:decide ((i:Int)≤bp)=true:=by simp;omega
       have HE2:Hid (R=false):=hide (by rw [HE.out,if_neg e0,decide_eq_false a7];simp)
       clear HE a6 a7
       go_enter Tryz.func25,Tryz.ntmps25
       go_wp2
       go_ret
       exact ⟨by rw [HE2.out];rfl,HB.out⟩
     ·have d6:decide (bp<0)=true:=by simp;omega
      have HE2:Hid (R=false):=hide (by rw [HE.out,if_neg e0,decide_eq_false a6];simp)
      clear HE a6
      go_enter Tryz.func25,Tryz.ntmps25
      go_wp2
      go_ret
      exact ⟨by rw [HE2.out];rfl,HB.out⟩
    ·have d5:decide ((6:Int)<bn)=true:=by simp;omega
     have HE2:Hid (R=false):=hide (by rw [HE.out,decide_eq_false a5];simp)
     clear HE a4 a5
     go_enter Tryz.func25,Tryz.ntmps25
     go_wp2
     go_ret
     exact ⟨by rw [HE2.out];rfl,HB.out⟩
   ·have d4:decide (bn<0)=true:=by simp;omega
    have HE2:Hid (R=false):=hide (by rw [HE.out,decide_eq_false a4];simp)
    clear HE a4
    go_enter Tryz.func25,Tryz.ntmps25
    go_wp2
    go_ret
    exact ⟨by rw [HE2.out];rfl,HB.out⟩
end Go.Proofs.YtbhhkaobkdeolaaGreatDoor
namespace Go.Proofs.YtbhhkaobkdeolaaGreatDoor
namespace Ck
theorem cons_list (b:UInt8) (t:ByteArray):((⟨#[b]⟩:ByteArray)++t).data.toList=b::t.data.toList:=by
 simp [ByteArray.data_append]
theorem eqT_list (a b:ByteArray):eqT a b=decide (a.data.toList=b.data.toList):=by
 unfold eqT
 rw [Lib.toList_data,Lib.toList_data]
 by_cases h:a.data.toList=b.data.toList
 ·rw [h];simp
 ·rw [beq_false_of_ne h,decide_eq_false h]
theorem tail_list (t:ByteArray):(t.extract 1 t.size).data.toList=t.data.toList.drop 1:=by
 have:t.size=t.data.toList.length:=by simp
 rw [this]
 simp only [ByteArray.data_extract,Array.toList_extract,List.extract_eq_take_drop]
 exact List.take_of_length_le (by rw [List.length_drop];omega)
theorem tail_eq (a t:ByteArray):(a.toList == (t.extract 1 t.size).toList)=decide (a.data.toList=t.data.toList.drop 1):=by
 have:=eqT_list a (t.extract 1 t.size)
 rw [tail_list] at this
 exact this
theorem give_eq {A B:ByteArray} (ha:Ty A):(pfx 115 A && (!eqT A ⟨#[115,105]⟩) && (B.toList == (A.extract 1 A.size).toList))=(Cd.endT B && eqT A (⟨#[115]⟩++B)):=by
 rw [tail_eq,eqT_list,eqT_list,cons_list]
 unfold pfx Cd.endT
 have h0:A.data.toList=[]∨Rn.sides A.data.toList=true:=by
  rcases ha with rfl|ha
  ·exact .inl rfl
  ·exact .inr (ty_list ha).1
 generalize A.data.toList=a at *
 generalize B.data.toList=b at *
 match a,h0 with
 |[],_=>simp
 |[c],h0=>
  have:c=105:=by simpa [Rn.sides] using h0
  subst this
  simp
 |c::d::r,h0=>
  have h1:(c=115∨c=114)∧Rn.sides (d::r)=true:=by simpa [Rn.sides] using h0
  by_cases hc:c=115
  ·subst hc
   by_cases hb:b=d::r
   ·subst hb
    match r,h1.2 with
    |[],h2=>
     have:d=105:=by simpa [Rn.sides] using h2
     subst this
     simp
    |e::r,h2=>
     have h3:d=115∨d=114:=by
      have:(d=115∨d=114)∧Rn.sides (e::r)=true:=by simpa [Rn.sides] using h2
      exact this.1
     rcases h3 with rfl|rfl<;> simp
   ·have: ¬ (d::r=b):=fun e=>hb e.symm
    simp [hb,this]
  ·simp [hc]
theorem take_eq (A B:ByteArray):(pfx 114 B && (A.toList == (B.extract 1 B.size).toList))=eqT B (⟨#[114]⟩++A):=by
 rw [tail_eq,eqT_list,cons_list]
 unfold pfx
 generalize A.data.toList=a
 generalize B.data.toList=b
 match b with
 |[]=>simp
 |c::r=>
  by_cases hc:c=114
  ·subst hc
   by_cases hb:a=r
   ·simp [hb]
   ·have: ¬ (r=a):=fun e=>hb e.symm
    simp [hb,this]
  ·simp [hc]
theorem over_eq {A:ByteArray} (ha:Ty A):decide (1<A.size)=Cd.endT A:=by
 have hs:A.size=A.data.toList.length:=by simp
 rw [hs]
 unfold Cd.endT
 have h0:A.data.toList=[]∨Rn.sides A.data.toList=true:=by
  rcases ha with rfl|ha
  ·exact .inl rfl
  ·exact .inr (ty_list ha).1
 generalize A.data.toList=a at *
 match a,h0 with
 |[],_=>simp
 |[c],h0=>
  have:c=105:=by simpa [Rn.sides] using h0
  subst this
  simp
 |c::d::r,h0=>
  have h1:(c=115∨c=114)∧Rn.sides (d::r)=true:=by simpa [Rn.sides] using h0
  rcases h1.1 with rfl|rfl<;> simp
theorem chan_eq {p:Cd.Pr} {xa xb xn:Int} {xt:ByteArray} (ha:Ty (Cd.typ p xa)):((decide (1≤xn) && decide (xn≤5)) && eqT (Cd.typ p xa) (⟨#[115]⟩++xt) && eqT (Cd.typ p xb) (⟨#[114]⟩++xt))=
  ((xa !=xb) && Rn.isT xt.data.toList 2 && eqT (Cd.typ p xa) (⟨#[115]⟩++xt) && eqT (Cd.typ p xb) (⟨#[114]⟩++xt) && decide (1≤xn) && decide (xn≤5)):=by
 by_cases h1:eqT (Cd.typ p xa) (⟨#[115]⟩++xt)=true
 ·by_cases h2:eqT (Cd.typ p xb) (⟨#[114]⟩++xt)=true
  ·have e1:=eqT_iff.1 h1
   have e2:=eqT_iff.1 h2
   have hne:(xa !=xb)=true:=by
    rw [bne_iff_ne]
    rintro rfl
    rw [e1] at e2
    have:=congrArg (fun t:ByteArray=>t.data.toList) e2
    simp only [cons_list] at this
    cases this
   have hT:Rn.isT xt.data.toList 2=true:=by
    rcases ha with ha|ha
    ·rw [e1] at ha
     have:=congrArg (fun t:ByteArray=>t.data.toList) ha
     simp only [cons_list] at this
     cases this
    ·rw [e1,cons_list] at ha
     unfold Rn.isT at *
     rw [Bool.and_eq_true,decide_eq_true_eq] at *
     refine ⟨?_,?_⟩
     ·match xt.data.toList,ha.1 with
      |c::r,h=>simpa [Rn.sides] using h
     ·have:=ha.2
      simp only [List.length_cons] at this
      omega
   rw [h1,h2,hne,hT]
   simp
  ·have h2':eqT (Cd.typ p xb) (⟨#[114]⟩++xt)=false:=by simpa using h2
   rw [h2']
   simp
 ·have h1':eqT (Cd.typ p xa) (⟨#[115]⟩++xt)=false:=by simpa using h1
  rw [h1']
  simp
end Ck
end Go.Proofs.YtbhhkaobkdeolaaGreatDoor
