import Derived.Test.YtcdcoiobpbdmpaaGreatDoorProg
import Derived.Test.YtcdcoiobpbdmpaaGreatDoorMad
import Derived.Test.YtcdcoiobpbdmpaaGreatDoorMae
import Derived.WalkKit
import Derived.WalkSpells
import Derived.WalkLawsBesides
import Derived.Deep.QuietTactic
import Derived.BigQuiet
import Derived.Deep.AppendLies
import Derived.Lib.Strings
import Derived.BigRegion
import Derived.Deep.RegionLaw
namespace Go.Proofs.YtcdcoiobpbdmpaaGreatDoor
open Go.RowKit
structure Kx (X:Nat→Prop) (w w':World):Prop where
 os:w'.os=w.os
 tape:w'.tape=w.tape
 output:w'.output=w.output
 size:w.heap.size≤w'.heap.size
 block: ∀ k,k<w.heap.size→X k→w'.heap[k]? =w.heap[k]?
theorem Kx.refl (X:Nat→Prop) (w:World):Kx X w w:=⟨rfl,rfl,rfl,Nat.le_refl _,fun _ _ _=>rfl⟩
theorem Kx.trans {X:Nat→Prop} {a b c:World} (h:Kx X a b) (k:Kx X b c):Kx X a c:=
 ⟨k.os.trans h.os,k.tape.trans h.tape,k.output.trans h.output,Nat.le_trans h.size k.size,fun i hi hn=>(k.block i (Nat.lt_of_lt_of_le hi h.size) hn).trans (h.block i hi hn)⟩
theorem Kx.mono {X Y:Nat→Prop} {a b:World} (h:Kx X a b) (hs: ∀ k,k<a.heap.size→Y k→X k):Kx Y a b:=
 ⟨h.os,h.tape,h.output,h.size,fun i hi hn=>h.block i hi (hs i hi hn)⟩
theorem Kx.of_below {X:Nat→Prop} {w w':World} (h:Below w.heap.size w w'):Kx X w w':=⟨h.os,h.tape,h.output,h.size,fun k hk _=>h.block k hk⟩
theorem Kx.below {w w':World} (h:Kx (fun _=>True) w w'):Below w.heap.size w w':=⟨h.os,h.tape,h.output,h.size,fun k hk=>h.block k hk trivial⟩
theorem Kx.cell {X:Nat→Prop} {w w':World} (h:Kx X w w') {p:Addr} {v:Value} (hv:w.cell? p=some v) (hX:X p.block):w'.cell? p=some v:=
 (World.cell?_of_block (w:=w) (h.block p.block (World.block_lt_of_cell? w p hv) hX)).trans hv
theorem Kx.frozen {X:Nat→Prop} {w w':World} (h:Kx X w w') {p:Addr} (hp:p.block<w.heap.size) (hX:X p.block):w'.frozen? p=w.frozen? p:=World.frozen?_of_block (w:=w) (h.block p.block hp hX)
theorem Kx.alloc {X:Nat→Prop} {a w:World} (h:Kx X a w) (o:Obj):Kx X a (w.alloc o):=
 h.trans ⟨rfl,rfl,rfl,by simp,fun k hk _=>Below.heap_alloc _ _ _ hk⟩
theorem Kx.drewN {X:Nat→Prop} {a w:World} (h:Kx X a w) (n:Nat):Kx X a (w.drewN n):=⟨h.os,h.tape,h.output,h.size,h.block⟩
theorem Kx.set {X:Nat→Prop} {a w:World} (h:Kx X a w) {p:Addr} (hp:a.heap.size≤p.block∨ ¬ X p.block) (u:Value):Kx X a (w.setCell p u):=
 ⟨h.os,h.tape,h.output,by simpa [World.setCell] using h.size,fun k hk hn=>(Below.heap_setCell _ _ _ _ (fun e=>by
  subst e
  rcases hp with hp|hp
  ·omega
  ·exact hp hn)).trans (h.block k hk hn)⟩
theorem Kx.grown {X:Nat→Prop} {a w w':World} {row:Option Nat} (h:Kx X a w) (hg:w.grownBy w' row) (hr: ∀ k,row=some k→a.heap.size≤k∨ ¬ X k):Kx X a w':=
 ⟨hg.os.trans h.os,hg.tape.trans h.tape,hg.output.trans h.output,Nat.le_trans h.size hg.size,fun k hk hn=>(hg.block k (Nat.lt_of_lt_of_le hk h.size) (fun e=>by
  rcases hr k e.symm with h1|h1
  ·omega
  ·exact h1 hn)).trans (h.block k hk hn)⟩
theorem btrans {a b c:World} (h:Below a.heap.size a b) (k:Below b.heap.size b c):Below a.heap.size a c:=h.trans (k.mono h.size)
theorem bsome {w w':World} (h:Below w.heap.size w w') {p:Addr} {v:Value} (hv:w.cell? p= .some v):w'.cell? p= .some v:=
 (h.cell (World.block_lt_of_cell? w p hv)).trans hv
theorem add_off (g k:Nat):(⟨g,0,none⟩:Addr).add k=⟨g,k,none⟩:=by unfold Addr.add;split<;> simp_all
def ER (w:World) (v:Value) (E:List (Int × Int)):Prop:=
 ∃ a c,v= .slice a E.length c∧(E ≠ []→ ∃ g o,a=some ⟨g,o,none⟩∧ ∀ (k:Nat) x,E[k]? =some x→w.cell? ⟨g,o+k * 2,none⟩=some (.int .i64 x.1)∧w.cell? ⟨g,o+k * 2+1,none⟩=some (.int .i64 x.2))
theorem ER.keepX {X:Nat→Prop} {w w':World} {v:Value} {E:List (Int × Int)} (h:ER w v E) (hb:Kx X w w') (hX: ∀ g,v.ownBlock=some g→X g):ER w' v E:=by
 obtain ⟨a,c,h1,h2⟩:=h
 refine ⟨a,c,h1,fun hn=> ?_⟩
 obtain ⟨g,o,h3,h4⟩:=h2 hn
 have hg:X g:=hX g (by rw [h1,h3];rfl)
 exact ⟨g,o,h3,fun k x hx=>⟨hb.cell (h4 k x hx).1 hg,hb.cell (h4 k x hx).2 hg⟩⟩
theorem ER.keep {w w':World} {v:Value} {E:List (Int × Int)} (h:ER w v E) (hb:Below w.heap.size w w'):ER w' v E:=h.keepX (X:=fun _=>True) (Kx.of_below hb) (fun _ _=>trivial)
namespace Cd
structure In where
 op:Int
 a:Int
 b:Int
 n:Int
 to:Int
 t:ByteArray
 e:List (Int × Int)
 args:List (List (Int × Int) × Int)
 bk:Int
 lp:Int
 at':Int
structure Pr where
 name:ByteArray
 vars:List (ByteArray × ByteArray)
 params:Int
 blocks:List (Int × Int × Int × Int)
 ins:List In
def typ (p:Pr) (v:Int):ByteArray:=if 0≤v∧v<(p.vars.length:Int) then (p.vars[v.toNat]?.map (·.2)).getD ⟨#[]⟩ else ⟨#[]⟩
theorem typ_in {p:Pr} {k:Nat} {x:ByteArray × ByteArray} (h:p.vars[k]? =some x):typ p (k:Int)=x.2:=by
 have hk:=(List.getElem?_eq_some_iff.1 h).1
 unfold typ
 rw [if_pos ⟨by omega,by omega⟩,Int.toNat_natCast,h]
 rfl
theorem typ_out {p:Pr} {v:Int} (h: ¬ (0≤v∧v<(p.vars.length:Int))):typ p v=⟨#[]⟩:=if_neg h
end Cd
def VaR (w:World) (v:Value) (l:List (ByteArray × ByteArray)):Prop:=
 ∃ a c,v= .slice a l.length c∧(l ≠ []→ ∃ g o,a=some ⟨g,o,none⟩∧ ∀ (k:Nat) x,l[k]? =some x→w.cell? ⟨g,o+k * 2,none⟩=some (.string x.1)∧w.cell? ⟨g,o+k * 2+1,none⟩=some (.string x.2))
theorem VaR.keep {w w':World} {v:Value} {l:List (ByteArray × ByteArray)} (h:VaR w v l) (hb:Below w.heap.size w w'):VaR w' v l:=by
 obtain ⟨a,c,h1,h2⟩:=h
 refine ⟨a,c,h1,fun hn=> ?_⟩
 obtain ⟨g,o,h3,h4⟩:=h2 hn
 exact ⟨g,o,h3,fun k x hx=>⟨bsome hb (h4 k x hx).1,bsome hb (h4 k x hx).2⟩⟩
def BlR (w:World) (v:Value) (l:List (Int × Int × Int × Int)):Prop:=
 ∃ a c,v= .slice a l.length c∧(l ≠ []→ ∃ g o,a=some ⟨g,o,none⟩∧ ∀ (k:Nat) x,l[k]? =some x→w.cell? ⟨g,o+k * 4,none⟩=some (.int .i64 x.1)∧w.cell? ⟨g,o+k * 4+1,none⟩=some (.int .i64 x.2.1)∧w.cell? ⟨g,o+k * 4+2,none⟩=some (.int .i64 x.2.2.1)∧w.cell? ⟨g,o+k * 4+3,none⟩=some (.int .i64 x.2.2.2))
theorem BlR.keep {w w':World} {v:Value} {l:List (Int × Int × Int × Int)} (h:BlR w v l) (hb:Below w.heap.size w w'):BlR w' v l:=by
 obtain ⟨a,c,h1,h2⟩:=h
 refine ⟨a,c,h1,fun hn=> ?_⟩
 obtain ⟨g,o,h3,h4⟩:=h2 hn
 exact ⟨g,o,h3,fun k x hx=>⟨bsome hb (h4 k x hx).1,bsome hb (h4 k x hx).2.1,bsome hb (h4 k x hx).2.2.1,bsome hb (h4 k x hx).2.2.2⟩⟩
def AgR (w:World) (v:Value) (l:List (List (Int × Int) × Int)):Prop:=
 ∃ a c,v= .slice a l.length c∧(l ≠ []→ ∃ g o,a=some ⟨g,o,none⟩∧ ∀ (k:Nat) x,l[k]? =some x→(∃ ae ce,w.cell? ⟨g,o+k * 2,none⟩=some (.slice ae x.1.length ce)∧ER w (.slice ae x.1.length ce) x.1)∧w.cell? ⟨g,o+k * 2+1,none⟩=some (.int .i64 x.2))
theorem AgR.keep {w w':World} {v:Value} {l:List (List (Int × Int) × Int)} (h:AgR w v l) (hb:Below w.heap.size w w'):AgR w' v l:=by
 obtain ⟨a,c,h1,h2⟩:=h
 refine ⟨a,c,h1,fun hn=> ?_⟩
 obtain ⟨g,o,h3,h4⟩:=h2 hn
 refine ⟨g,o,h3,fun k x hx=> ?_⟩
 obtain ⟨⟨ae,ce,h5,h6⟩,h7⟩:=h4 k x hx
 exact ⟨⟨ae,ce,bsome hb h5,h6.keep hb⟩,bsome hb h7⟩
structure IC (w:World) (g o:Nat) (x:Cd.In) (ae:Option Addr) (ce:Nat) (aa:Option Addr) (ca:Nat):Prop where
 c0:w.cell? ⟨g,o,none⟩=some (.int .i64 x.op)
 c1:w.cell? ⟨g,o+1,none⟩=some (.int .i64 x.a)
 c2:w.cell? ⟨g,o+2,none⟩=some (.int .i64 x.b)
 c3:w.cell? ⟨g,o+3,none⟩=some (.int .i64 x.n)
 c4:w.cell? ⟨g,o+4,none⟩=some (.int .i64 x.to)
 c5:w.cell? ⟨g,o+5,none⟩=some (.string x.t)
 c6:w.cell? ⟨g,o+6,none⟩=some (.slice ae x.e.length ce)
 c7:w.cell? ⟨g,o+7,none⟩=some (.slice aa x.args.length ca)
 c8:w.cell? ⟨g,o+8,none⟩=some (.int .i64 x.bk)
 c9:w.cell? ⟨g,o+9,none⟩=some (.int .i64 x.lp)
 c10:w.cell? ⟨g,o+10,none⟩=some (.int .i64 x.at')
 e:ER w (.slice ae x.e.length ce) x.e
 args:AgR w (.slice aa x.args.length ca) x.args
theorem IC.keep {w w':World} {g o:Nat} {x:Cd.In} {ae:Option Addr} {ce:Nat} {aa:Option Addr} {ca:Nat} (h:IC w g o x ae ce aa ca) (hb:Below w.heap.size w w'):IC w' g o x ae ce aa ca:=
 ⟨bsome hb h.c0,bsome hb h.c1,bsome hb h.c2,bsome hb h.c3,bsome hb h.c4,bsome hb h.c5,bsome hb h.c6,bsome hb h.c7,bsome hb h.c8,bsome hb h.c9,bsome hb h.c10,h.e.keep hb,h.args.keep hb⟩
def IV (x:Cd.In) (ae:Option Addr) (ce:Nat) (aa:Option Addr) (ca:Nat):Value:= .agg #[.int .i64 x.op,.int .i64 x.a,.int .i64 x.b,.int .i64 x.n,.int .i64 x.to,.string x.t,.slice ae x.e.length ce,.slice aa x.args.length ca,.int .i64 x.bk,.int .i64 x.lp,.int .i64 x.at']
def InR (w:World) (v:Value) (l:List Cd.In):Prop:=
 ∃ a c,v= .slice a l.length c∧(l ≠ []→ ∃ g o,a=some ⟨g,o,none⟩∧ ∀ (k:Nat) x,l[k]? =some x→ ∃ ae ce aa ca,IC w g (o+k * 11) x ae ce aa ca)
theorem InR.keep {w w':World} {v:Value} {l:List Cd.In} (h:InR w v l) (hb:Below w.heap.size w w'):InR w' v l:=by
 obtain ⟨a,c,h1,h2⟩:=h
 refine ⟨a,c,h1,fun hn=> ?_⟩
 obtain ⟨g,o,h3,h4⟩:=h2 hn
 refine ⟨g,o,h3,fun k x hx=> ?_⟩
 obtain ⟨ae,ce,aa,ca,h5⟩:=h4 k x hx
 exact ⟨ae,ce,aa,ca,h5.keep hb⟩
structure PV where
 av:Option Addr
 cv:Nat
 ab:Option Addr
 cb:Nat
 ai:Option Addr
 ci:Nat
def PV.cells (q:PV) (p:Cd.Pr):Array Value:= #[.string p.name,.slice q.av p.vars.length q.cv,.int .i64 p.params,.slice q.ab p.blocks.length q.cb,.slice q.ai p.ins.length q.ci]
def PV.v (q:PV) (p:Cd.Pr):Value:= .agg (q.cells p)
structure PC (q:PV) (p:Cd.Pr) (w:World):Prop where
 vars:VaR w (.slice q.av p.vars.length q.cv) p.vars
 blocks:BlR w (.slice q.ab p.blocks.length q.cb) p.blocks
 ins:InR w (.slice q.ai p.ins.length q.ci) p.ins
theorem PC.keep {q:PV} {p:Cd.Pr} {w w':World} (h:PC q p w) (hb:Below w.heap.size w w'):PC q p w':=⟨h.vars.keep hb,h.blocks.keep hb,h.ins.keep hb⟩
end Go.Proofs.YtcdcoiobpbdmpaaGreatDoor
namespace Go.Proofs.YtcdcoiobpbdmpaaGreatDoor
open Go.RowKit
def Cd.nmb (vs:List (ByteArray × ByteArray)) (nm:ByteArray):Int:=match vs.findIdx? (fun v=>decide (v.1=nm)) with
 |some k=>(k:Int)
 |none=> -1
theorem Cd.nmb_at {vs:List (ByteArray × ByteArray)} {nm:ByteArray} {i:Nat} {x:ByteArray × ByteArray} (hx:vs[i]? =some x) (he:x.1=nm) (hn: ∀ j y,j<i→vs[j]? =some y→y.1 ≠ nm):Cd.nmb vs nm=(i:Int):=by
 have h:vs.findIdx? (fun v=>decide (v.1=nm))=some i:=by
  rw [List.findIdx?_eq_some_iff_getElem]
  obtain ⟨hi,h1⟩:=List.getElem?_eq_some_iff.1 hx
  refine ⟨hi,by rw [h1];simpa using he,fun j hj=> ?_⟩
  simpa using hn j _ hj (List.getElem?_eq_getElem (by omega))
 unfold Cd.nmb
 rw [h]
theorem Cd.nmb_none {vs:List (ByteArray × ByteArray)} {nm:ByteArray} (hn: ∀ j y,j<vs.length→vs[j]? =some y→y.1 ≠ nm):Cd.nmb vs nm= -1:=by
 have h:vs.findIdx? (fun v=>decide (v.1=nm))=none:=by
  rw [List.findIdx?_eq_none_iff]
  intro x hx
  obtain ⟨j,hj,he⟩:=List.mem_iff_getElem.1 hx
  simpa using hn j x hj (by rw [←he];exact List.getElem?_eq_getElem hj)
 unfold Cd.nmb
 rw [h]
theorem ba_beq (a b:ByteArray):(a.toList == b.toList)=decide (a=b):=by
 rw [Lib.toList_data,Lib.toList_data]
 by_cases h:a=b
 ·subst h;simp
 ·have h2: ¬ a.data=b.data:=fun e=>h (by obtain ⟨x⟩:=a;obtain ⟨y⟩:=b;simp at e;rw [e])
  simp [h,h2]
set_option maxHeartbeats 400000 in
theorem numC_any (a t b:ByteArray) (x:Nat) (w:World) (hx:w.cell? ⟨x,0,none⟩=some (.string b)):
  Calls Tryz.prog 81 #[.agg #[.string a,.string t],.pointer (some ⟨x,0,none⟩)] w fun e w'=>e= .returned (.bool (decide (a=b)))∧Below w.heap.size w w':=by
 have hb:Below w.heap.size w (w.alloc (.cells #[.string a,.string t] 98)):=(Below.refl _ _).alloc (Nat.le_refl _) _
 have h1:=bsome hb hx
 have HB:=hide hb
 have hE:=ba_beq a b
 clear hb
 go_enter Tryz.func81,Tryz.ntmps81
 go_wp2
 go_ret
 exact ⟨by first|rfl|(rw [←hE];rfl),HB.out⟩
set_option maxRecDepth 100000 in
set_option maxHeartbeats 1000000 in
theorem idxV_any (vs:List (ByteArray × ByteArray)) (nm:ByteArray) (a:Option Addr) (c x:Nat) (w:World) (h:VaR w (.slice a vs.length c) vs) (hx:w.cell? ⟨x,0,none⟩=some (.string nm)) (hl:vs.length≤1000000):
  Calls Tryz.prog 80 #[.slice a vs.length c,.func (.func 81) #[] #[.pointer (some ⟨x,0,none⟩)]] w fun e w'=>e= .returned (.int .i64 (Cd.nmb vs nm))∧Below w.heap.size w w':=by
 have HV:=hide h
 have HX:=hide hx
 clear h hx
 have HN:Hid (∀ z,Cd.nmb vs nm=z→Cd.nmb vs nm=z):=hide (fun _ h=>h)
 have HN1:Hid (∀ (i:Nat) y,vs[i]? =some y→y.1=nm→(∀ j y,j<i→vs[j]? =some y→y.1 ≠ nm)→Cd.nmb vs nm=(i:Int)):=hide (fun i y h1 h2 h3=>Cd.nmb_at h1 h2 h3)
 have HN2:Hid ((∀ j y,j<vs.length→vs[j]? =some y→y.1 ≠ nm)→Cd.nmb vs nm= -1):=hide Cd.nmb_none
 generalize Cd.nmb vs nm=R at *
 go_enter Tryz.func80,Tryz.ntmps80
 go_wp2
 go_loopw [8] (fun iv wr=> ∃ i:Nat,i≤vs.length∧iv= .int .i64 i∧Hid (∀ j y,j<i→vs[j]? =some y→y.1 ≠ nm)∧Hid (Below w.heap.size w wr)) (fun iv _=>vs.length - (intOf iv).toNat)
 case atStart=>exact ⟨0,Nat.zero_le _,rfl,hide (fun j y hj=>absurd hj (Nat.not_lt_zero _)),hide (Below.refl _ _)⟩
 case round=>
  obtain ⟨i,hi,rfl,HF,HB⟩:=hrel
  by_cases hlt:i<vs.length
  ·have d1:decide ((i:Int)<(vs.length:Int))=true:=by simp;omega
   obtain ⟨y,hy⟩: ∃ y,vs[i]? =some y:=⟨_,List.getElem?_eq_getElem hlt⟩
   obtain ⟨a2,c2,e2,h2⟩:=HV.out.keep HB.out
   obtain ⟨rfl,-,rfl⟩:a=a2∧True∧c=c2:=by simpa using e2
   obtain ⟨g,o,rfl,hc⟩:=h2 (List.ne_nil_of_mem (List.mem_of_getElem? hy))
   obtain ⟨x0,x1⟩:=hc i y hy
   have HY:=hide hy
   obtain ⟨ya,yt⟩:=y
   dsimp only at x0 x1
   have CM:=hide (numC_any ya yt nm x wr (bsome HB.out HX.out))
   have hk0:(0:Int)≤(i:Int):=by omega
   have hk1:(i:Int)<(vs.length:Int):=by omega
   clear hc h2 e2 hy
   by_cases he:ya=nm
   ·have HR:Hid (R=(i:Int)):=hide (HN1.out i _ HY.out he HF.out)
    have he':decide (ya=nm)=true:=by simpa using he
    rw [he'] at CM
    clear he he' HN HN1 HN2 HY HF
    go_wp2_with fail
    refine CM.out.mono ?_
    rintro e w1 ⟨rfl,hb1⟩
    have HB1:=hide (btrans HB.out hb1)
    clear hb1
    go_wp2
    go_ret
    exact ⟨by rw [HR.out];rfl,HB1.out⟩
   ·have HF2:Hid (∀ j y,j<i+1→vs[j]? =some y→y.1 ≠ nm):=hide (fun j y hj hy'=>by
     by_cases hji:j=i
     ·subst hji;rw [HY.out] at hy';cases hy';exact he
     ·exact HF.out j y (by omega) hy')
    have he':decide (ya=nm)=false:=by simpa using he
    rw [he'] at CM
    clear he he' HN HN1 HN2 HY HF
    go_wp2_with fail
    refine CM.out.mono ?_
    rintro e w1 ⟨rfl,hb1⟩
    have HB1:=hide (btrans HB.out hb1)
    clear hb1
    go_wp2
    go_roundw
    case rel=>exact ⟨i+1,by omega,by go_num,HF2,HB1⟩
    case measure=>simp [intOf];omega
  ·obtain rfl:i=vs.length:=by omega
   have d1:decide ((vs.length:Int)<(vs.length:Int))=false:=by simp
   have HR:Hid (R= -1):=hide (HN2.out HF.out)
   clear HN HN1 HN2 HF
   go_wp2
   go_ret
   exact ⟨by rw [HR.out];rfl,HB.out⟩
set_option maxHeartbeats 400000 in
theorem lNumber_any (vs:List (ByteArray × ByteArray)) (nm:ByteArray) (a:Option Addr) (c g:Nat) (w:World) (hg:w.cell? ⟨g,1,none⟩=some (.slice a vs.length c)) (h:VaR w (.slice a vs.length c) vs) (hl:vs.length≤1000000):
  Calls Tryz.prog 47 #[.pointer (some ⟨g,0,none⟩),.string nm] w fun e w'=>e= .returned (.int .i64 (Cd.nmb vs nm))∧Below w.heap.size w w':=by
 have hb:Below w.heap.size w (w.alloc (.cells #[.string nm] 9)):=(Below.refl _ _).alloc (Nat.le_refl _) _
 have h1:=bsome hb hg
 have CI:=hide (idxV_any vs nm a c w.heap.size (w.alloc (.cells #[.string nm] 9)) (h.keep hb) (by simp [go_sem]) hl)
 have HB:=hide hb
 clear h hb hg
 generalize Cd.nmb vs nm=R at *
 go_enter Tryz.func47,Tryz.ntmps47
 go_wp2_with fail
 refine CI.out.mono ?_
 rintro e w1 ⟨rfl,hb1⟩
 have HB1:=hide (btrans HB.out hb1)
 clear hb1
 go_wp2
 go_ret
 exact ⟨rfl,HB1.out⟩
end Go.Proofs.YtcdcoiobpbdmpaaGreatDoor
namespace Go.Proofs.YtcdcoiobpbdmpaaGreatDoor
open Go.RowKit
theorem pre_head (t:ByteArray) (b:UInt8):((t.extract 0 1).toList == [b])=decide (t.data.toList.head? =some b):=by
 rw [Lib.toList_data]
 have h:(t.extract 0 1).data.toList=t.data.toList.take 1:=by simp [ByteArray.data_extract,Array.toList_extract,List.extract_eq_take_drop]
 rw [h]
 cases t.data.toList with
 |nil=>simp
 |cons x l=>by_cases e:x=b<;> simp [e]
set_option maxHeartbeats 400000 in
theorem hasP_any (t:ByteArray) (b:UInt8) (w:World):
  Calls Tryz.prog 123 #[.string t,.string ⟨#[b]⟩] w fun e w'=>e= .returned (.bool (decide (t.data.toList.head? =some b)))∧w'=w:=by
 have HE:=hide (pre_head t b)
 by_cases h:1≤t.size
 ·have d1:decide ((1:Int)≤(t.size:Int))=true:=by simp;omega
  generalize decide (t.data.toList.head? =some b)=D at *
  go_enter Tryz.func123,Tryz.ntmps123
  go_wp2
  go_ret
  exact ⟨by rw [←HE.out];rfl,rfl⟩
 ·have d1:decide ((1:Int)≤(t.size:Int))=false:=by simp;omega
  have hD:decide (t.data.toList.head? =some b)=false:=by
   have:t.data.toList=[]:=by
    apply List.eq_nil_of_length_eq_zero
    have:t.data.toList.length=t.size:=by simp
    omega
   rw [this];rfl
  rw [hD]
  clear HE hD
  go_enter Tryz.func123,Tryz.ntmps123
  go_wp2
  go_ret
  exact ⟨rfl,rfl⟩
set_option maxHeartbeats 400000 in
theorem hasPx_any (t:ByteArray) (b:UInt8) (w:World):
  Calls Tryz.prog 84 #[.string t,.string ⟨#[b]⟩] w fun e w'=>e= .returned (.bool (decide (t.data.toList.head? =some b)))∧w'=w:=by
 have HP:=hide (hasP_any t b w)
 generalize decide (t.data.toList.head? =some b)=D at *
 go_enter Tryz.func84,Tryz.ntmps84
 go_wp2_with fail
 refine HP.out.mono ?_
 rintro e w1 ⟨rfl,rfl⟩
 go_wp2
 go_ret
 exact ⟨rfl,rfl⟩
set_option maxHeartbeats 400000 in
theorem lSends_any (t:ByteArray) (w:World):
  Calls Tryz.prog 53 #[.string t] w fun e w'=>e= .returned (.bool (decide (t.data.toList.head? =some 115)))∧w'=w:=by
 have HP:=hide (hasPx_any t 115 w)
 generalize decide (t.data.toList.head? =some 115)=D at *
 go_enter Tryz.func53,Tryz.ntmps53
 go_wp2_with fail
 refine HP.out.mono ?_
 rintro e w1 ⟨rfl,rfl⟩
 go_wp2
 go_ret
 exact ⟨rfl,rfl⟩
set_option maxHeartbeats 400000 in
theorem lReceives_any (t:ByteArray) (w:World):
  Calls Tryz.prog 54 #[.string t] w fun e w'=>e= .returned (.bool (decide (t.data.toList.head? =some 114)))∧w'=w:=by
 have HP:=hide (hasPx_any t 114 w)
 generalize decide (t.data.toList.head? =some 114)=D at *
 go_enter Tryz.func54,Tryz.ntmps54
 go_wp2_with fail
 refine HP.out.mono ?_
 rintro e w1 ⟨rfl,rfl⟩
 go_wp2
 go_ret
 exact ⟨rfl,rfl⟩
def Cd.endT (t:ByteArray):Bool:=decide (t.data.toList.head? =some 115) || decide (t.data.toList.head? =some 114)
set_option maxHeartbeats 400000 in
theorem lIsEnd_any (t:ByteArray) (w:World):
  Calls Tryz.prog 48 #[.string t] w fun e w'=>e= .returned (.bool (Cd.endT t))∧w'=w:=by
 have H1:=hide (lSends_any t w)
 have H2:=hide (lReceives_any t w)
 have HD:Hid (Cd.endT t=(decide (t.data.toList.head? =some 115) || decide (t.data.toList.head? =some 114))):=hide rfl
 generalize Cd.endT t=E at *
 generalize decide (t.data.toList.head? =some 115)=D1 at *
 generalize decide (t.data.toList.head? =some 114)=D2 at *
 cases D1 with
 |true=>
  go_enter Tryz.func48,Tryz.ntmps48
  go_wp2_with fail
  refine H1.out.mono ?_
  rintro e w1 ⟨rfl,rfl⟩
  go_wp2
  go_ret
  exact ⟨by rw [HD.out];rfl,rfl⟩
 |false=>
  go_enter Tryz.func48,Tryz.ntmps48
  go_wp2_with fail
  refine H1.out.mono ?_
  rintro e w1 ⟨rfl,rfl⟩
  go_wp2_with fail
  refine H2.out.mono ?_
  rintro e w1 ⟨rfl,rfl⟩
  go_wp2
  go_ret
  exact ⟨by rw [HD.out];rfl,rfl⟩
end Go.Proofs.YtcdcoiobpbdmpaaGreatDoor
namespace Go.Proofs.YtcdcoiobpbdmpaaGreatDoor
open Go.RowKit
theorem Tryz.infoI:(Tryz.prog.info? 44).map (fun i=>(i.zero,i.size,i.bytes))=some (some (.agg #[.int .i64 0,.int .i64 0,.int .i64 0,.int .i64 0,.int .i64 0,.string ⟨#[]⟩,.slice none 0 0,.slice none 0 0,.int .i64 0,.int .i64 0,.int .i64 0]),11,128):=by kernel_rfl
theorem eleven_new (w:World) (v0 v1 v2 v3 v4 v5 v6 v7 v8 v9 v10:Value) (t:TypeId): ∀ (j:Nat) (u:Value),[v0,v1,v2,v3,v4,v5,v6,v7,v8,v9,v10][j]? =some u→(w.alloc (.cells #[v0,v1,v2,v3,v4,v5,v6,v7,v8,v9,v10] t)).cell? ((⟨w.heap.size,0,none⟩:Addr).add j)=some u:=by
 intro j u hj
 have e:(⟨w.heap.size,0,none⟩:Addr).add j=⟨w.heap.size,j,none⟩:=by simp [Addr.add];exact fun h=>h.symm
 rw [e]
 match j,hj with
 |0,hj=>simp at hj;subst hj;simp [go_sem]
 |1,hj=>simp at hj;subst hj;simp [go_sem]
 |2,hj=>simp at hj;subst hj;simp [go_sem]
 |3,hj=>simp at hj;subst hj;simp [go_sem]
 |4,hj=>simp at hj;subst hj;simp [go_sem]
 |5,hj=>simp at hj;subst hj;simp [go_sem]
 |6,hj=>simp at hj;subst hj;simp [go_sem]
 |7,hj=>simp at hj;subst hj;simp [go_sem]
 |8,hj=>simp at hj;subst hj;simp [go_sem]
 |9,hj=>simp at hj;subst hj;simp [go_sem]
 |10,hj=>simp at hj;subst hj;simp [go_sem]
def Cd.pcl (x:Cd.In) (ae:Option Addr) (ce:Nat) (aa:Option Addr) (ca:Nat) (bk at':Int):List Value:=[.int .i64 x.op,.int .i64 x.a,.int .i64 x.b,.int .i64 x.n,.int .i64 x.to,.string x.t,.slice ae x.e.length ce,.slice aa x.args.length ca,.int .i64 bk,.int .i64 x.lp,.int .i64 at']
theorem own_keepI {B:Nat} {w w':World} {v:Value} {n:Nat} {xs:List Value} (h:w.ownsRow B 44 11 v n xs) (hk: ∀ g,v.ownBlock=some g→w'.heap[g]? =w.heap[g]?):w'.ownsRow B 44 11 v n xs:=by
 refine ⟨h.1,?_⟩
 rcases h.2 with h|⟨g,cap,cur,hv,hb,hg,rest⟩
 ·exact .inl h
 ·exact .inr ⟨g,cap,cur,hv,hb,by rw [hk g (by rw [hv];rfl)];exact hg,rest⟩
structure KM (g:Nat) (v:Value) (w w':World):Prop where
 kx:Kx (fun j=>j ≠ g∧v.ownBlock ≠ some j) w w'
 cell: ∀ k,k ≠ 4→w'.cell? ⟨g,k,none⟩=w.cell? ⟨g,k,none⟩
 thaw: ∀ k,w'.frozen? ⟨g,k,none⟩=w.frozen? ⟨g,k,none⟩
set_option maxRecDepth 100000 in
set_option maxHeartbeats 4000000 in
theorem put_any (x:Cd.In) (ae:Option Addr) (ce:Nat) (aa:Option Addr) (ca:Nat) (B g:Nat) (ai:Option Addr) (n ci:Nat) (cs:List Value) (bk at':Int) (w:World)
  (h4:w.cell? ⟨g,4,none⟩=some (.slice ai n ci)) (h6:w.cell? ⟨g,6,none⟩=some (.int .i64 bk)) (h7:w.cell? ⟨g,7,none⟩=some (.int .i64 at')) (hf:w.frozen? ⟨g,4,none⟩=false) (hg:g<B) (hB:B≤w.heap.size) (hn:n≤1000000)
  (ho:w.ownsRow B 44 11 (.slice ai n ci) n cs):
  Calls Tryz.prog 30 #[.pointer (some ⟨g,0,none⟩),IV x ae ce aa ca] w fun e w'=>e= .returned (.int .i64 n)∧ ∃ gn cap,w'.cell? ⟨g,4,none⟩=some (.slice (some ⟨gn,0,none⟩) (n+1) cap)∧w'.ownsRow B 44 11 (.slice (some ⟨gn,0,none⟩) (n+1) cap) (n+1) (cs++Cd.pcl x ae ce aa ca bk at')∧((Value.slice ai n ci).ownBlock=some gn∨w.heap.size≤gn)∧KM g (.slice ai n ci) w w':=by
 obtain ⟨i0,hi0,hz0,hz1,hz2⟩:=info_parts Tryz.infoI
 obtain ⟨xop,xa,xb,xn,xto,xt,xe,xargs,xbk,xlp,xat⟩:=x
 unfold IV Cd.pcl
 dsimp only at *
 have hb:Below w.heap.size w (w.alloc (.cells #[.int .i64 xop,.int .i64 xa,.int .i64 xb,.int .i64 xn,.int .i64 xto,.string xt,.slice ae xe.length ce,.slice aa xargs.length ca,.int .i64 xbk,.int .i64 xlp,.int .i64 xat] 44)):=(Below.refl _ _).alloc (Nat.le_refl _) _
 have c4:=bsome hb h4
 have c6:=bsome hb h6
 have c7:=bsome hb h7
 have k8:(w.alloc (.cells #[.int .i64 xop,.int .i64 xa,.int .i64 xb,.int .i64 xn,.int .i64 xto,.string xt,.slice ae xe.length ce,.slice aa xargs.length ca,.int .i64 xbk,.int .i64 xlp,.int .i64 xat] 44)).cell? ⟨w.heap.size,8,none⟩=some (.int .i64 xbk):=by simp [go_sem]
 have k10:(w.alloc (.cells #[.int .i64 xop,.int .i64 xa,.int .i64 xb,.int .i64 xn,.int .i64 xto,.string xt,.slice ae xe.length ce,.slice aa xargs.length ca,.int .i64 xbk,.int .i64 xlp,.int .i64 xat] 44)).cell? ⟨w.heap.size,10,none⟩=some (.int .i64 xat):=by simp [go_sem]
 have f8:(w.alloc (.cells #[.int .i64 xop,.int .i64 xa,.int .i64 xb,.int .i64 xn,.int .i64 xto,.string xt,.slice ae xe.length ce,.slice aa xargs.length ca,.int .i64 xbk,.int .i64 xlp,.int .i64 xat] 44)).frozen? ⟨w.heap.size,8,none⟩=false:=by simp [go_sem]
 have f10:(w.alloc (.cells #[.int .i64 xop,.int .i64 xa,.int .i64 xb,.int .i64 xn,.int .i64 xto,.string xt,.slice ae xe.length ce,.slice aa xargs.length ca,.int .i64 xbk,.int .i64 xlp,.int .i64 xat] 44)).frozen? ⟨w.heap.size,10,none⟩=false:=by simp [go_sem]
 have HQ:Hid (∀ W2,W2=(((w.alloc (.cells #[.int .i64 xop,.int .i64 xa,.int .i64 xb,.int .i64 xn,.int .i64 xto,.string xt,.slice ae xe.length ce,.slice aa xargs.length ca,.int .i64 xbk,.int .i64 xlp,.int .i64 xat] 44)).setCell ⟨w.heap.size,8,none⟩ (.int .i64 bk)).setCell ⟨w.heap.size,10,none⟩ (.int .i64 at')).drew→Below w.heap.size w W2∧W2.cell? ⟨w.heap.size,0,none⟩=some (.int .i64 xop)∧W2.cell? ⟨w.heap.size,1,none⟩=some (.int .i64 xa)∧W2.cell? ⟨w.heap.size,2,none⟩=some (.int .i64 xb)∧W2.cell? ⟨w.heap.size,3,none⟩=some (.int .i64 xn)∧W2.cell? ⟨w.heap.size,4,none⟩=some (.int .i64 xto)∧W2.cell? ⟨w.heap.size,5,none⟩=some (.string xt)∧W2.cell? ⟨w.heap.size,6,none⟩=some (.slice ae xe.length ce)∧W2.cell? ⟨w.heap.size,7,none⟩=some (.slice aa xargs.length ca)∧W2.cell? ⟨w.heap.size,8,none⟩=some (.int .i64 bk)∧W2.cell? ⟨w.heap.size,9,none⟩=some (.int .i64 xlp)∧W2.cell? ⟨w.heap.size,10,none⟩=some (.int .i64 at')):=hide (by
  rintro W2 rfl
  refine ⟨?_,?_⟩
  ·exact below_drewN (((((Below.refl _ _).alloc (Nat.le_refl _) _).setCell (Nat.le_refl _) _).setCell (Nat.le_refl _) _)) 1
  ·refine ⟨?_,?_,?_,?_,?_,?_,?_,?_,?_,?_,?_⟩<;> simp [go_sem])
 clear hb
 go_enter Tryz.func30,Tryz.ntmps30
 go_wp2
 obtain ⟨W,hW⟩: ∃ W,w.alloc (.cells #[.int .i64 xop,.int .i64 xa,.int .i64 xb,.int .i64 xn,.int .i64 xto,.string xt,.slice ae xe.length ce,.slice aa xargs.length ca,.int .i64 xbk,.int .i64 xlp,.int .i64 xat] 44)=W:=⟨_,rfl⟩
 rw [hW] at HQ c4 c6 c7 k8 k10 f8 f10 ⊢
 clear hW
 go_region
 obtain ⟨W2,hW2⟩: ∃ W2,((W.setCell ⟨w.heap.size,8,none⟩ (.int .i64 bk)).setCell ⟨w.heap.size,10,none⟩ (.int .i64 at')).drew=W2:=⟨_,rfl⟩
 obtain ⟨hb2,q0,q1,q2,q3,q4,q5,q6,q7,q8,q9,q10⟩:=HQ.out W2 hW2.symm
 rw [hW2]
 clear hW2 HQ c4 c6 c7 k8 k10 f8 f10
 have hs2:=hb2.size
 have p4:=bsome hb2 h4
 have p4f:W2.frozen? ⟨g,4,none⟩=false:=(World.frozen?_of_block (w:=w) (a:=⟨g,4,none⟩) (hb2.block g (by omega))).trans hf
 have HB2:=hide hb2
 have HNE:Hid (some g ≠ (Value.slice ai n ci).ownBlock):=hide (fun e=>by have:=(ho.lt g e.symm).1;omega)
 have HOW:Hid ((W2.alloc (.cells #[.int .i64 xop,.int .i64 xa,.int .i64 xb,.int .i64 xn,.int .i64 xto,.string xt,.slice ae xe.length ce,.slice aa xargs.length ca,.int .i64 bk,.int .i64 xlp,.int .i64 at'] 44)).drew.ownsRow B 44 11 (.slice ai n ci) n cs):=hide ((own_keepI ho (fun j hj=>hb2.block j (ho.lt j hj).2)).alloc _)
 have HCN:Hid (∀ (j:Nat) (u:Value),([.int .i64 xop,.int .i64 xa,.int .i64 xb,.int .i64 xn,.int .i64 xto,.string xt,.slice ae xe.length ce,.slice aa xargs.length ca,.int .i64 bk,.int .i64 xlp,.int .i64 at']:List Value)[j]? =some u→(W2.alloc (.cells #[.int .i64 xop,.int .i64 xa,.int .i64 xb,.int .i64 xn,.int .i64 xto,.string xt,.slice ae xe.length ce,.slice aa xargs.length ca,.int .i64 bk,.int .i64 xlp,.int .i64 at'] 44)).drew.cell? ((⟨W2.heap.size,0,none⟩:Addr).add j)=some u):=hide (eleven_new W2 (.int .i64 xop) (.int .i64 xa) (.int .i64 xb) (.int .i64 xn) (.int .i64 xto) (.string xt) (.slice ae xe.length ce) (.slice aa xargs.length ca) (.int .i64 bk) (.int .i64 xlp) (.int .i64 at') 44)
 have p4a:(W2.alloc (.cells #[.int .i64 xop,.int .i64 xa,.int .i64 xb,.int .i64 xn,.int .i64 xto,.string xt,.slice ae xe.length ce,.slice aa xargs.length ca,.int .i64 bk,.int .i64 xlp,.int .i64 at'] 44)).cell? ⟨g,4,none⟩=some (.slice ai n ci):=bsome ((Below.refl W2.heap.size W2).alloc (Nat.le_refl _) _) p4
 have p4b:(W2.alloc (.cells #[.int .i64 xop,.int .i64 xa,.int .i64 xb,.int .i64 xn,.int .i64 xto,.string xt,.slice ae xe.length ce,.slice aa xargs.length ca,.int .i64 bk,.int .i64 xlp,.int .i64 at'] 44)).drew.cell? ⟨g,4,none⟩=some (.slice ai n ci):=p4a
 clear ho hb2
 go_wp2
 go_region_law ((refine step_append_lies _ rfl _ _ 37 rfl B 44 i0 (.agg #[.int .i64 0,.int .i64 0,.int .i64 0,.int .i64 0,.int .i64 0,.string ⟨#[]⟩,.slice none 0 0,.slice none 0 0,.int .i64 0,.int .i64 0,.int .i64 0]) 11 128 Tryz.underlying37 hi0 hz0 hz1 hz2 rfl (by decide) (.slice ai n ci) n cs (by rfl) (by exact HOW.out) ⟨W2.heap.size,0,none⟩ 1 1 [.int .i64 xop,.int .i64 xa,.int .i64 xb,.int .i64 xn,.int .i64 xto,.string xt,.slice ae xe.length ce,.slice aa xargs.length ca,.int .i64 bk,.int .i64 xlp,.int .i64 at'] (by rfl) rfl (by exact HCN.out) (by intro u hu;simp at hu;rcases hu with rfl|rfl|rfl|rfl|rfl|rfl|rfl|rfl|rfl|rfl|rfl<;> rfl) (by decide) (by unfold maxLen;omega) (by omega) (by simp;omega) _ rfl ?_;intro gn cap2 w7 hown hgrow hat hlt7;have hb7:w7.heap[g]? =W2.heap[g]? :=(hgrow.block g (by simp;omega) HNE.out).trans (((Below.refl W2.heap.size W2).alloc (Nat.le_refl _) _).block g (by omega));have z7:w7.cell? ⟨g,4,none⟩=some (.slice ai n ci):=(World.cell?_of_block (w:=W2) (a:=⟨g,4,none⟩) hb7).trans p4;have y7:w7.frozen? ⟨g,4,none⟩=false:=(World.frozen?_of_block (w:=W2) (a:=⟨g,4,none⟩) hb7).trans p4f;have HOWN:=hide hown;have HGRO:=hide hgrow;have HAT:=hide hat;clear hown hgrow hat hb7))
 all_goals
  have r4:(w7.setCell ⟨g,4,none⟩ (.slice (some ⟨gn,0,none⟩) (n+1) cap2)).cell? ⟨g,4,none⟩=some (.slice (some ⟨gn,0,none⟩) (n+1) cap2):=World.cell?_setCell_same _ _ _ z7
  have HE:Hid ((w7.setCell ⟨g,4,none⟩ (.slice (some ⟨gn,0,none⟩) (n+1) cap2)).ownsRow B 44 11 (.slice (some ⟨gn,0,none⟩) (n+1) cap2) (n+1) (cs++[.int .i64 xop,.int .i64 xa,.int .i64 xb,.int .i64 xn,.int .i64 xto,.string xt,.slice ae xe.length ce,.slice aa xargs.length ca,.int .i64 bk,.int .i64 xlp,.int .i64 at'])):=hide (ownsRow_setCell_below HOWN.out hg _)
  have HM:Hid (KM g (.slice ai n ci) w (w7.setCell ⟨g,4,none⟩ (.slice (some ⟨gn,0,none⟩) (n+1) cap2))):=hide (by
   have hw: ∀ j,j<w.heap.size→(Value.slice ai n ci).ownBlock ≠ some j→w7.heap[j]? =w.heap[j]? :=fun j hj hne=>(HGRO.out.block j (by simp;omega) (fun e=>hne e.symm)).trans ((((Below.refl W2.heap.size W2).alloc (Nat.le_refl _) _).block j (by omega)).trans (HB2.out.block j hj))
   have hgw:=hw g (by omega) (fun e=>HNE.out e.symm)
   refine ⟨(((((Kx.of_below HB2.out).alloc _).drewN 1).grown HGRO.out (fun k hk=> .inr (fun h=>h.2 hk))).set (.inr (fun h=>h.1 rfl)) _),fun k hk=> ?_,fun k=> ?_⟩
   ·rw [World.cell?_setCell_other _ _ _ _ (fun e'=>by injection e' with e1 e2;omega)]
    exact World.cell?_of_block (w:=w) (a:=⟨g,k,none⟩) hgw
   ·rw [World.frozen?_setCell]
    exact World.frozen?_of_block (w:=w) (a:=⟨g,k,none⟩) hgw)
  have HA2:Hid ((Value.slice ai n ci).ownBlock=some gn∨w.heap.size≤gn):=hide (HAT.out.imp id (fun e=>by rw [e];simp;omega))
  clear HOWN HGRO HAT HOW HCN HNE HB2
  go_wp2
  go_ret
  exact ⟨by simp,gn,cap2,r4,HE.out,HA2.out,HM.out⟩
end Go.Proofs.YtcdcoiobpbdmpaaGreatDoor
namespace Go.Proofs.YtcdcoiobpbdmpaaGreatDoor
open Go.RowKit
def Cd.most (op k:Int):Int:=if op=1 then min k 6 else 6
set_option maxHeartbeats 1000000 in
theorem most_any (op:Int) (nm:ByteArray) (k:Int) (al:Option Addr) (nl cl:Nat) (w:World):
  Calls Tryz.prog 114 #[.agg #[.int .i64 op,.string nm,.int .i64 k,.slice al nl cl]] w fun e w'=>e= .returned (.int .i64 (Cd.most op k))∧Below w.heap.size w w':=by
 have HB:Hid (Below w.heap.size w (w.alloc (.cells #[.int .i64 op,.string nm,.int .i64 k,.slice al nl cl] 112))):=hide ((Below.refl _ _).alloc (Nat.le_refl _) _)
 by_cases h1:op=1
 ·subst h1
  have HS:Hid (Cd.most 1 k=min k 6):=hide (by unfold Cd.most;rw [if_pos rfl])
  rw [HS.out]
  clear HS
  go_enter Tryz.func114,Tryz.ntmps114
  go_wp2
  go_ret
  exact ⟨rfl,HB.out⟩
 ·have HS:Hid (Cd.most op k=6):=hide (by unfold Cd.most;rw [if_neg h1])
  rw [HS.out]
  have b2:(op == 1)=false:=by simpa using h1
  have d2:decide (op=1)=false:=by simpa using h1
  clear h1 HS
  go_enter Tryz.func114,Tryz.ntmps114
  go_wp2
  go_ret
  exact ⟨rfl,HB.out⟩
def TxR (w:World) (v:Value) (l:List ByteArray):Prop:=
 ∃ a c,v= .slice a l.length c∧(l ≠ []→ ∃ g o,a=some ⟨g,o,none⟩∧ ∀ (k:Nat) x,l[k]? =some x→w.cell? ⟨g,o+k,none⟩=some (.string x))
def Cd.bnd (d:Int) (A B:ByteArray):List ByteArray:=if d=5 then [A] else if d=4 then [A,B] else []
set_option maxHeartbeats 1000000 in
theorem bound_any (d p:Int) (A B T:ByteArray) (k:Int) (vE vB vO:Value) (w:World):
  Calls Tryz.prog 46 #[.agg #[.int .i64 d,.int .i64 p,.string A,.string B,.string T,.int .i64 k,vE,vB,vO]] w fun e w'=> ∃ an cn,e= .returned (.slice an (Cd.bnd d A B).length cn)∧TxR w' (.slice an (Cd.bnd d A B).length cn) (Cd.bnd d A B)∧(∀ j,(Value.slice an (Cd.bnd d A B).length cn).ownBlock=some j→w.heap.size≤j)∧Below w.heap.size w w':=by
 have hb:Below w.heap.size w (w.alloc (.cells #[.int .i64 d,.int .i64 p,.string A,.string B,.string T,.int .i64 k,vE,vB,vO] 75)):=(Below.refl _ _).alloc (Nat.le_refl _) _
 have HB:=hide hb
 clear hb
 by_cases h5:d=5
 ·subst h5
  have HS:Hid (Cd.bnd 5 A B=[A]):=hide rfl
  rw [HS.out]
  go_enter Tryz.func46,Tryz.ntmps46
  go_wp2
  go_ret
  refine ⟨_,_,rfl,⟨_,1,rfl,fun _=>⟨_,0,rfl,fun j x hx=> ?_⟩⟩,fun j hj=>by simp [Value.ownBlock] at hj;omega,btrans HB.out ((Below.refl _ _).alloc (Nat.le_refl _) _)⟩
  match j,hx with
  |0,hx=>simp at hx;subst hx;simp [go_sem]
 ·have b5:(d == 5)=false:=by simpa using h5
  have e5:decide (d=5)=false:=by simpa using h5
  by_cases h4:d=4
  ·subst h4
   have HS:Hid (Cd.bnd 4 A B=[A,B]):=hide rfl
   rw [HS.out]
   go_enter Tryz.func46,Tryz.ntmps46
   go_wp2
   go_ret
   refine ⟨_,_,rfl,⟨_,2,rfl,fun _=>⟨_,0,rfl,fun j x hx=> ?_⟩⟩,fun j hj=>by simp [Value.ownBlock] at hj;omega,btrans HB.out ((Below.refl _ _).alloc (Nat.le_refl _) _)⟩
   match j,hx with
   |0,hx=>simp at hx;subst hx;simp [go_sem]
   |1,hx=>simp at hx;subst hx;simp [go_sem]
  ·have b4:(d == 4)=false:=by simpa using h4
   have e4:decide (d=4)=false:=by simpa using h4
   have HS:Hid (Cd.bnd d A B=[]):=hide (by unfold Cd.bnd;rw [if_neg h5,if_neg h4])
   rw [HS.out]
   clear HS h5 h4
   go_enter Tryz.func46,Tryz.ntmps46
   go_wp2
   go_ret
   exact ⟨none,0,rfl,⟨none,0,rfl,fun h=>absurd rfl h⟩,fun j hj=>absurd hj (by simp [Value.ownBlock]),HB.out⟩
end Go.Proofs.YtcdcoiobpbdmpaaGreatDoor
