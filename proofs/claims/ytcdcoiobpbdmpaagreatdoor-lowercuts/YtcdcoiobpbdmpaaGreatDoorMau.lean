import Derived.Test.YtcdcoiobpbdmpaaGreatDoorMah
import Derived.Test.YtcdcoiobpbdmpaaGreatDoorMae
import Derived.Test.YtcdcoiobpbdmpaaGreatDoorMat
import Derived.Test.YtcdcoiobpbdmpaaGreatDoorMag
import Derived.Deep.RegionHeldLaw
namespace Go.Proofs.YtcdcoiobpbdmpaaGreatDoor
namespace Ck
def eqT (a b:ByteArray):Bool:=a.toList == b.toList
theorem eqT_iff {a b:ByteArray}:eqT a b=true ↔ a=b:=by
 unfold eqT
 rw [Lib.toList_data,Lib.toList_data]
 constructor
 ·intro h
  have h1:a.data.toList=b.data.toList:=by simpa using h
  cases a;cases b
  simp only [ByteArray.mk.injEq]
  exact Array.toList_inj.1 h1
 ·rintro rfl;simp
theorem eqT_false {a b:ByteArray}:eqT a b=false ↔ a ≠ b:=by
 rw [←Bool.not_eq_true,eqT_iff]
theorem eqT_lit (a:ByteArray) (l:Array UInt8):eqT a ⟨l⟩=(a.toList == l.toList):=by
 unfold eqT
 rw [Lib.toList_data ⟨l⟩]
def ti:ByteArray:=⟨#[105]⟩
def num (p:Cd.Pr):Nat→List (Int × Int)→Bool
 |h,[]=>h == 1
 |h,(op,n)::r=>
  if op=1 then num p (h+1) r
  else if op=2 then eqT (Cd.typ p n) ti && num p (h+1) r
  else if op=3 then decide (1≤h) && num p h r
  else if 4≤op∧op≤8 then decide (2≤h) && num p (h - 1) r
  else false
def arg (p:Cd.Pr) (y:List (Int × Int) × Int) (t:ByteArray):Bool:=if eqT t ti then num p 0 y.1 else y.1.isEmpty && eqT (Cd.typ p y.2) t
def args (p:Cd.Pr):List (List (Int × Int) × Int)→List (ByteArray × ByteArray)→Bool
 |[],_=>true
 |_::_,[]=>false
 |y::r,v::s=>arg p y v.2 && args p r s
def spawn (ab:List Cd.Pr) (p:Cd.Pr) (x:Cd.In):Bool:=
 decide (0≤x.a) && match ab[x.a.toNat]? with
  |none=>false
  |some st=>decide ((x.args.length:Int)=st.params) && args p x.args st.vars
def isI (p:Cd.Pr) (n:Int):Bool:=decide (0≤n) && decide (n<(p.ins.length:Int))
def isB (p:Cd.Pr) (n:Int):Bool:=decide (0≤n) && decide (n<(p.blocks.length:Int))
def pfx (b:UInt8) (t:ByteArray):Bool:=decide (t.data.toList.head? =some b)
def fits (ab:List Cd.Pr) (p:Cd.Pr) (x:Cd.In):Bool:=
 if x.op=1∨x.op=12 then eqT (Cd.typ p x.a) ti && num p 0 x.e
 else if x.op=2 then num p 0 x.e
 else if x.op=3 then (decide (1≤x.n) && decide (x.n≤5)) && eqT (Cd.typ p x.a) (⟨#[115]⟩++x.t) && eqT (Cd.typ p x.b) (⟨#[114]⟩++x.t)
 else if x.op=4 then (x.a !=x.b) && eqT (Cd.typ p x.a) (Cd.typ p x.b) && pfx 115 (Cd.typ p x.b)
 else if x.op=5 then eqT (Cd.typ p x.a) ⟨#[115,105]⟩ && num p 0 x.e
 else if x.op=6 then Cd.endT (Cd.typ p x.b) && eqT (Cd.typ p x.a) (⟨#[115]⟩++Cd.typ p x.b)
 else if x.op=7 then pfx 115 (Cd.typ p x.a)
 else if x.op=8∨x.op=9 then pfx 114 (Cd.typ p x.a)
 else if x.op=10 then spawn ab p x
 else if x.op=11 then eqT (Cd.typ p x.b) (⟨#[114]⟩++Cd.typ p x.a) && isI p x.to
 else if x.op=13 then eqT (Cd.typ p x.a) ti && isI p x.to
 else if x.op=14 then num p 0 x.e && isI p x.to
 else if x.op=15 then isI p x.to
 else if x.op=16 then Cd.endT (Cd.typ p x.a)
 else x.op == 17
def blk (p:Cd.Pr) (i:Nat) (b:Int × Int × Int × Int):Bool:=
 (decide (0≤b.2.2.2) && decide (b.2.2.2≤6)) &&
  if i=0 then b.1 == 1
  else (decide (0≤b.2.1) && decide (b.2.1<(i:Int))) && if b.1=2 then pfx 114 (Cd.typ p b.2.2.1) else decide (3≤b.1) && decide (b.1≤5)
def blks (p:Cd.Pr):Nat→List (Int × Int × Int × Int)→Bool
 |_,[]=>true
 |i,b::r=>blk p i b && blks p (i+1) r
def types (l:List (ByteArray × ByteArray)):Bool:=l.all fun v=>Rn.isT v.2.data.toList 3
def frame (p:Cd.Pr):Int:=
 if types p.vars=false then 11
 else if p.params<0∨(p.vars.length:Int)<p.params then 15
 else if p.ins=[] then 10
 else if 2000<p.ins.length∨4000<p.vars.length∨2000<p.blocks.length then 8
 else if blks p 0 p.blocks=false then 5
 else 0
def ins (ab:List Cd.Pr) (p:Cd.Pr) (x:Cd.In):Bool:=isB p x.bk && isB p x.lp && fits ab p x
def bad (ab:List Cd.Pr) (p:Cd.Pr):Nat→List Cd.In→Option Nat
 |_,[]=>none
 |i,x::r=>if ins ab p x then bad ab p (i+1) r else some i
def last (p:Cd.Pr):Int:=(p.ins.getLast?.map (·.op)).getD 0
def fault (ab:List Cd.Pr) (p:Cd.Pr):Int × Int:=
 if frame p ≠ 0 then (frame p,-1)
 else match bad ab p 0 p.ins with
  |some i=>(16,(i:Int))
  |none=>if last p ≠ 17∧last p ≠ 15 then (16,(p.ins.length:Int)) else (0,0)
def first:List Cd.Pr→List Cd.Pr→Option (Int × Int)
 |_,[]=>none
 |ab,p::r=>if (fault ab p).1 ≠ 0 then some ((fault ab p).1,(fault ab p).2+(ab.length:Int) * 10000) else first (ab++[p]) r
def mainOK (l:List Cd.Pr) (m:Int):Bool:=
 decide (0≤m) && match l[m.toNat]? with
  |none=>false
  |some p=>(p.params == 1) && eqT ((p.vars[0]?.map (·.2)).getD ⟨#[]⟩) ⟨#[114,105]⟩
def check (l:List Cd.Pr) (m:Int):Int × Int:=
 if l=[] then (10,-1)
 else if 10<l.length then (8,-1)
 else match first [] l with
  |some f=>f
  |none=>if mainOK l m then (0,0) else (13,-1)
end Ck
end Go.Proofs.YtcdcoiobpbdmpaaGreatDoor

namespace Go.Proofs.YtcdcoiobpbdmpaaGreatDoor
open Go.RowKit
def PV.ck (q:PV) (p:Cd.Pr) (ua:Option Addr) (n uc:Nat):Array Value:= #[.string p.name,.slice q.av p.vars.length q.cv,.int .i64 p.params,.slice q.ab p.blocks.length q.cb,.slice q.ai p.ins.length q.ci,.slice ua n uc]
set_option maxRecDepth 100000 in
set_option maxHeartbeats 1000000 in
theorem ckTypeOf_any (q:PV) (p:Cd.Pr) (ua:Option Addr) (n uc:Nat) (v:Int) (w:World) (h:PC q p w):
  Calls Tryz.prog 51 #[.agg (q.ck p ua n uc),.int .i64 v] w fun e w'=>e= .returned (.string (Cd.typ p v))∧Below w.heap.size w w':=by
 have hb:Below w.heap.size w (w.alloc (.cells (q.ck p ua n uc) 62)):=(Below.refl _ _).alloc (Nat.le_refl _) _
 have HB:=hide hb
 obtain ⟨a,c,h1,h2⟩:=(h.keep hb).vars
 obtain ⟨qa,qc,qb,qd,qi,qe⟩:=q
 obtain ⟨rfl,-,rfl⟩:qa=a∧True∧qc=c:=by simpa using h1
 have HV:=hide h2
 clear h h1 h2 hb
 unfold PV.ck at *
 dsimp only at *
 by_cases h0:0≤v
 ·have d0:decide (v<0)=false:=by simp;omega
  by_cases hlt:v<(p.vars.length:Int)
  ·obtain ⟨k,rfl⟩: ∃ k:Nat,v=(k:Int):=⟨v.toNat,by omega⟩
   obtain ⟨x,hx⟩: ∃ x,p.vars[k]? =some x:=⟨_,List.getElem?_eq_getElem (by omega)⟩
   obtain ⟨g,o,rfl,hc⟩:=HV.out (List.ne_nil_of_mem (List.mem_of_getElem? hx))
   obtain ⟨c1,c2⟩:=hc k x hx
   have HE:=hide (Cd.typ_in hx)
   have d1:decide ((p.vars.length:Int)≤(k:Int))=false:=by simp;omega
   clear hx hc HV
   go_enter Tryz.func51,Tryz.ntmps51
   go_wp2
   go_ret
   exact ⟨by rw [HE.out];rfl,HB.out⟩
  ·have d1:decide ((p.vars.length:Int)≤v)=true:=by simp;omega
   have HE:=hide (Cd.typ_out (p:=p) (v:=v) (fun hh=>hlt hh.2))
   clear HV
   go_enter Tryz.func51,Tryz.ntmps51
   go_wp2
   go_ret
   exact ⟨by rw [HE.out];rfl,HB.out⟩
 ·have d0:decide (v<0)=true:=by simp;omega
  have HE:=hide (Cd.typ_out (p:=p) (v:=v) (fun hh=>h0 hh.1))
  clear HV
  go_enter Tryz.func51,Tryz.ntmps51
  go_wp2
  go_ret
  exact ⟨by rw [HE.out];rfl,HB.out⟩
set_option maxRecDepth 100000 in
set_option maxHeartbeats 1000000 in
theorem ckIsIns_any (q:PV) (p:Cd.Pr) (ua:Option Addr) (n uc:Nat) (v:Int) (w:World):
  Calls Tryz.prog 56 #[.agg (q.ck p ua n uc),.int .i64 v] w fun e w'=>e= .returned (.bool (Ck.isI p v))∧Below w.heap.size w w':=by
 have HB:Hid (Below w.heap.size w (w.alloc (.cells (q.ck p ua n uc) 62))):=hide ((Below.refl _ _).alloc (Nat.le_refl _) _)
 unfold PV.ck at *
 have HE:Hid (Ck.isI p v=(decide (0≤v) && decide (v<(p.ins.length:Int)))):=hide rfl
 generalize Ck.isI p v=E at *
 cases d0:decide (0≤v) with
 |true=>
  go_enter Tryz.func56,Tryz.ntmps56
  go_wp2
  go_ret
  exact ⟨by rw [HE.out,d0];simp,HB.out⟩
 |false=>
  go_enter Tryz.func56,Tryz.ntmps56
  go_wp2
  go_ret
  exact ⟨by rw [HE.out,d0];simp,HB.out⟩
set_option maxRecDepth 100000 in
set_option maxHeartbeats 1000000 in
theorem ckIsBlock_any (q:PV) (p:Cd.Pr) (ua:Option Addr) (n uc:Nat) (v:Int) (w:World):
  Calls Tryz.prog 32 #[.agg (q.ck p ua n uc),.int .i64 v] w fun e w'=>e= .returned (.bool (Ck.isB p v))∧Below w.heap.size w w':=by
 have HB:Hid (Below w.heap.size w (w.alloc (.cells (q.ck p ua n uc) 62))):=hide ((Below.refl _ _).alloc (Nat.le_refl _) _)
 unfold PV.ck at *
 have HE:Hid (Ck.isB p v=(decide (0≤v) && decide (v<(p.blocks.length:Int)))):=hide rfl
 generalize Ck.isB p v=E at *
 cases d0:decide (0≤v) with
 |true=>
  go_enter Tryz.func32,Tryz.ntmps32
  go_wp2
  go_ret
  exact ⟨by rw [HE.out,d0];simp,HB.out⟩
 |false=>
  go_enter Tryz.func32,Tryz.ntmps32
  go_wp2
  go_ret
  exact ⟨by rw [HE.out,d0];simp,HB.out⟩
end Go.Proofs.YtcdcoiobpbdmpaaGreatDoor
namespace Go.Proofs.YtcdcoiobpbdmpaaGreatDoor
open Go.RowKit
structure KB (q:PV) (p:Cd.Pr) (ua:Option Addr) (n uc:Nat) (b:Nat) (w:World):Prop where
 c0:w.cell? ⟨b,0,none⟩=some (.string p.name)
 c1:w.cell? ⟨b,1,none⟩=some (.slice q.av p.vars.length q.cv)
 c2:w.cell? ⟨b,2,none⟩=some (.int .i64 p.params)
 c3:w.cell? ⟨b,3,none⟩=some (.slice q.ab p.blocks.length q.cb)
 c4:w.cell? ⟨b,4,none⟩=some (.slice q.ai p.ins.length q.ci)
 c5:w.cell? ⟨b,5,none⟩=some (.slice ua n uc)
theorem KB.new (q:PV) (p:Cd.Pr) (ua:Option Addr) (n uc:Nat) (w:World):KB q p ua n uc w.heap.size (w.alloc (.cells (q.ck p ua n uc) 62)):=by
 unfold PV.ck
 constructor<;> simp [go_sem]
theorem KB.keep {q:PV} {p:Cd.Pr} {ua:Option Addr} {n uc b:Nat} {w w':World} (h:KB q p ua n uc b w) (hb:Below w.heap.size w w'):KB q p ua n uc b w':=
 ⟨bsome hb h.c0,bsome hb h.c1,bsome hb h.c2,bsome hb h.c3,bsome hb h.c4,bsome hb h.c5⟩
theorem two_at (w:World) (x y:Int) (t:TypeId):(w.alloc (.cells #[.int .i64 x,.int .i64 y] t)).cell? ⟨w.heap.size,0,none⟩=some (.int .i64 x)∧(w.alloc (.cells #[.int .i64 x,.int .i64 y] t)).cell? ⟨w.heap.size,1,none⟩=some (.int .i64 y):=by
 constructor<;> simp [go_sem]
set_option maxRecDepth 100000 in
set_option maxHeartbeats 2000000 in
theorem ckIsNumber_any (q:PV) (p:Cd.Pr) (ua:Option Addr) (n uc:Nat) (v:Value) (L:List (Int × Int)) (w:World) (h:PC q p w) (hL:ER w v L) (hn:L.length≤1000000):
  Calls Tryz.prog 52 #[.agg (q.ck p ua n uc),v] w fun e w'=>e= .returned (.bool (Ck.num p 0 L))∧Below w.heap.size w w':=by
 have HT:Hid (∀ (x:Int) (w':World),Below w.heap.size w w'→Calls Tryz.prog 51 #[.agg (q.ck p ua n uc),.int .i64 x] w' fun e w''=>e= .returned (.string (Cd.typ p x))∧Below w'.heap.size w' w''):=hide (fun x w' hb=>ckTypeOf_any q p ua n uc x w' (h.keep hb))
 obtain ⟨av,cv,rfl,hr⟩:=hL
 have HR:=hide hr
 have HK:=hide (KB.new q p ua n uc w)
 have HB:Hid (Below w.heap.size w (w.alloc (.cells (q.ck p ua n uc) 62))):=hide ((Below.refl _ _).alloc (Nat.le_refl _) _)
 clear h hr
 unfold PV.ck at *
 go_enter Tryz.func52,Tryz.ntmps52
 go_wp2
 generalize w.alloc _=w1 at *
 go_loopw [5,11] (fun hv iv wr=> ∃ k h:Nat,k≤L.length∧h≤k∧iv= .int .i64 k∧hv= .int .i64 h∧Hid (Below w1.heap.size w1 wr∧Ck.num p 0 L=Ck.num p h (L.drop k))) (fun hv iv _=>L.length - (intOf iv).toNat)
 case atStart=>exact ⟨0,0,Nat.zero_le _,Nat.le_refl _,rfl,rfl,hide ⟨Below.refl _ _,rfl⟩⟩
 case round=>
  obtain ⟨k,h,hk,hhk,rfl,rfl,HI⟩:=hrel
  by_cases hlt:k<L.length
  ·obtain ⟨⟨op,nn⟩,hx⟩: ∃ x,L[k]? =some x:=⟨_,List.getElem?_eq_getElem hlt⟩
   obtain ⟨g,o,rfl,hc⟩:=HR.out (List.ne_nil_of_mem (List.mem_of_getElem? hx))
   have hbw:Below w.heap.size w wr:=btrans HB.out HI.out.1
   obtain ⟨c1,c2⟩:=hc k _ hx
   have c1:=bsome hbw c1
   have c2:=bsome hbw c2
   have HN:Hid (Ck.num p 0 L=Ck.num p h ((op,nn)::L.drop (k+1))):=hide (by
    rw [HI.out.2,List.drop_eq_getElem_cons hlt]
    rw [List.getElem?_eq_getElem hlt,Option.some.injEq] at hx
    rw [hx])
   have hkb:=HK.out.keep HI.out.1
   have hba:Below w1.heap.size w1 (wr.alloc (.cells #[.int .i64 op,.int .i64 nn] 161)):=btrans HI.out.1 ((Below.refl _ _).alloc (Nat.le_refl _) _)
   have HBA:=hide hba
   have HC2:=hide (HT.out nn (wr.alloc (.cells #[.int .i64 op,.int .i64 nn] 161)) (btrans HB.out hba))
   have hk2:=hkb.keep ((Below.refl wr.heap.size wr).alloc (Nat.le_refl _) (.cells #[.int .i64 op,.int .i64 nn] 161))
   obtain ⟨t0,t1,t2,t3,t4,t5⟩:=hk2
   have b1:=(two_at wr op nn 161).1
   have b2:=(two_at wr op nn 161).2
   clear hx hc hbw hba hkb HI
   have dh:decide ((h:Int)<0)=false:=by simp
   by_cases e1:op=1
   ·subst e1
    go_wp2
    refine ⟨⟨k+1,h+1,by omega,by omega,by go_num,by go_num,hide ⟨HBA.out,HN.out⟩⟩,?_⟩
    simp [intOf];omega
   by_cases e2:op=2
   ·subst e2
    have HM:Hid (Ck.num p h ((2,nn)::L.drop (k+1))=(Ck.eqT (Cd.typ p nn) Ck.ti && Ck.num p (h+1) (L.drop (k+1)))):=hide rfl
    have HS:Hid (Ck.eqT (Cd.typ p nn) Ck.ti=((Cd.typ p nn).toList == [105])):=hide (Ck.eqT_lit _ _)
    generalize Cd.typ p nn=T at *
    cases dt:(T.toList == [105]) with
    |true=>
     go_wp2_with fail
     refine HC2.out.mono ?_
     rintro e w3 ⟨rfl,hb3⟩
     have HB3:=hide (btrans HBA.out hb3)
     clear hb3
     go_wp2
     refine ⟨⟨k+1,h+1,by omega,by omega,by go_num,by go_num,hide ⟨HB3.out,by rw [HN.out,HM.out,HS.out,dt];rfl⟩⟩,?_⟩
     simp [intOf];omega
    |false=>
     go_wp2_with fail
     refine HC2.out.mono ?_
     rintro e w3 ⟨rfl,hb3⟩
     have HB3:=hide (btrans HB.out (btrans HBA.out hb3))
     clear hb3
     go_wp2
     go_ret
     exact ⟨by rw [HN.out,HM.out,HS.out,dt];rfl,HB3.out⟩
   by_cases e3:op=3
   ·subst e3
    have HM:Hid (Ck.num p h ((3,nn)::L.drop (k+1))=(decide (1≤h) && Ck.num p h (L.drop (k+1)))):=hide rfl
    by_cases h1:1≤h
    ·have d1:decide ((h:Int)<1)=false:=by simp;omega
     have d2:decide (h<1)=false:=by simp;omega
     go_wp2
     refine ⟨⟨k+1,h,by omega,by omega,by go_num,by go_num,hide ⟨HBA.out,by rw [HN.out,HM.out,decide_eq_true h1];rfl⟩⟩,?_⟩
     simp [intOf];omega
    ·have d1:decide ((h:Int)<1)=true:=by simp;omega
     have d2:decide (h<1)=true:=by simp;omega
     go_wp2
     go_ret
     exact ⟨by rw [HN.out,HM.out,decide_eq_false h1];rfl,btrans HB.out HBA.out⟩
   by_cases e4:4≤op∧op≤8
   ·have HM:Hid (Ck.num p h ((op,nn)::L.drop (k+1))=(decide (2≤h) && Ck.num p (h - 1) (L.drop (k+1)))):=hide (by
     show (if op=1 then _ else _)=_
     rw [if_neg e1,if_neg e2,if_neg e3,if_pos e4])
    have e5:op=4∨op=5∨op=6∨op=7∨op=8:=by omega
    clear e1 e2 e3 e4
    by_cases h1:2≤h
    ·have d1:decide ((h:Int)<2)=false:=by simp;omega
     have d2:decide (h<2)=false:=by simp;omega
     rcases e5 with rfl|rfl|rfl|rfl|rfl
     all_goals
      go_wp2
      refine ⟨⟨k+1,h - 1,by omega,by omega,by go_num,by go_num,hide ⟨HBA.out,by rw [HN.out,HM.out,decide_eq_true h1];rfl⟩⟩,?_⟩
      simp [intOf];omega
    ·have d1:decide ((h:Int)<2)=true:=by simp;omega
     have d2:decide (h<2)=true:=by simp;omega
     rcases e5 with rfl|rfl|rfl|rfl|rfl
     all_goals
      go_wp2
      go_ret
      exact ⟨by rw [HN.out,HM.out,decide_eq_false h1];rfl,btrans HB.out HBA.out⟩
   ·have HM:Hid (Ck.num p h ((op,nn)::L.drop (k+1))=false):=hide (by
     show (if op=1 then _ else _)=_
     rw [if_neg e1,if_neg e2,if_neg e3,if_neg e4])
    have f1:(op == 1)=false:=by simpa using e1
    have f2:(op == 2)=false:=by simpa using e2
    have f3:(op == 3)=false:=by simpa using e3
    have f4:(op == 4)=false:=by simp;omega
    have f5:(op == 5)=false:=by simp;omega
    have f6:(op == 6)=false:=by simp;omega
    have f7:(op == 7)=false:=by simp;omega
    have f8:(op == 8)=false:=by simp;omega
    clear e1 e2 e3 e4
    go_wp2
    go_ret
    exact ⟨by rw [HN.out,HM.out];rfl,btrans HB.out HBA.out⟩
  ·obtain rfl:k=L.length:=by omega
   have HE:Hid (Ck.num p 0 L=(h == 1)):=hide (by
    rw [HI.out.2,List.drop_length]
    rfl)
   have HBE:=hide (btrans HB.out HI.out.1)
   have ds:((h:Int) == 1)=(h == 1):=by
    by_cases e:h=1
    ·subst e;rfl
    ·rw [beq_false_of_ne e,beq_false_of_ne (by omega)]
   clear HI HR
   go_wp2
   go_ret
   exact ⟨by rw [HE.out];rfl,HBE.out⟩
end Go.Proofs.YtcdcoiobpbdmpaaGreatDoor
namespace Go.Proofs.YtcdcoiobpbdmpaaGreatDoor
open Go.RowKit
theorem agg_two (w:World) (x y:Value) (t:TypeId):(w.alloc (.cells #[x,y] t)).cell? ⟨w.heap.size,0,none⟩=some x∧(w.alloc (.cells #[x,y] t)).cell? ⟨w.heap.size,1,none⟩=some y:=by
 constructor<;> simp [go_sem]
set_option maxRecDepth 100000 in
set_option maxHeartbeats 2000000 in
theorem ckArgFits_any (q:PV) (p:Cd.Pr) (ua:Option Addr) (n uc:Nat) (y:List (Int × Int) × Int) (ae:Option Addr) (ce:Nat) (t:ByteArray) (w:World) (h:PC q p w) (hy:ER w (.slice ae y.1.length ce) y.1) (hn:y.1.length≤1000000):
  Calls Tryz.prog 85 #[.agg (q.ck p ua n uc),.agg #[.slice ae y.1.length ce,.int .i64 y.2],.string t] w fun e w'=>e= .returned (.bool (Ck.arg p y t))∧Below w.heap.size w w':=by
 have hb:Below w.heap.size w ((w.alloc (.cells (q.ck p ua n uc) 62)).alloc (.cells #[.slice ae y.1.length ce,.int .i64 y.2] 100)):=((Below.refl _ _).alloc (Nat.le_refl _) _).alloc (by simp) _
 have CN:=hide (ckIsNumber_any q p ua n uc (.slice ae y.1.length ce) y.1 _ (h.keep hb) (hy.keep hb) hn)
 have CT:=hide (ckTypeOf_any q p ua n uc y.2 _ (h.keep hb))
 have hk:=(KB.new q p ua n uc w).keep (((Below.refl _ _).alloc (Nat.le_refl _) (.cells #[.slice ae y.1.length ce,.int .i64 y.2] 100)))
 obtain ⟨b1,b2⟩:=agg_two (w.alloc (.cells (q.ck p ua n uc) 62)) (.slice ae y.1.length ce) (.int .i64 y.2) 100
 have HB:=hide hb
 have HE:Hid (Ck.arg p y t=if Ck.eqT t Ck.ti then Ck.num p 0 y.1 else y.1.isEmpty && Ck.eqT (Cd.typ p y.2) t):=hide rfl
 have HS:Hid (Ck.eqT t Ck.ti=(t.toList == [105])):=hide (Ck.eqT_lit _ _)
 have HS2:Hid (Ck.eqT (Cd.typ p y.2) t=((Cd.typ p y.2).toList == t.toList)):=hide rfl
 generalize Ck.arg p y t=R at *
 generalize Ck.num p 0 y.1=N at *
 generalize Cd.typ p y.2=T at *
 obtain ⟨t0,t1,t2,t3,t4,t5⟩:=hk
 clear h hy hb
 unfold PV.ck at *
 cases dt:(t.toList == [105]) with
 |true=>
  go_enter Tryz.func85,Tryz.ntmps85
  go_wp2_with fail
  refine CN.out.mono ?_
  rintro e w3 ⟨rfl,hb3⟩
  have HB3:=hide (btrans HB.out hb3)
  clear hb3
  go_wp2
  go_ret
  exact ⟨by rw [HE.out,HS.out,dt];rfl,HB3.out⟩
 |false=>
  cases de:y.1.isEmpty with
  |true=>
   have d0:((y.1.length:Int) == 0)=true:=by
    have:y.1=[]:=List.isEmpty_iff.1 de
    rw [this];rfl
   go_enter Tryz.func85,Tryz.ntmps85
   go_wp2_with fail
   refine CT.out.mono ?_
   rintro e w3 ⟨rfl,hb3⟩
   have HB3:=hide (btrans HB.out hb3)
   clear hb3
   go_wp2
   go_ret
   exact ⟨by rw [HE.out,HS.out,dt,de,HS2.out];rfl,HB3.out⟩
  |false=>
   have d0:((y.1.length:Int) == 0)=false:=by
    have:y.1 ≠ []:=by intro e;rw [e] at de;cases de
    have:=List.length_pos_iff.2 this
    simp;omega
   go_enter Tryz.func85,Tryz.ntmps85
   go_wp2
   go_ret
   exact ⟨by rw [HE.out,HS.out,dt,de];rfl,HB.out⟩
end Go.Proofs.YtcdcoiobpbdmpaaGreatDoor
