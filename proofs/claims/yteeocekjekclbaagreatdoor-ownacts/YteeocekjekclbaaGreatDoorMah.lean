import Derived.Test.YteeocekjekclbaaGreatDoorProg
import Derived.Test.YteeocekjekclbaaGreatDoorMad
import Derived.Test.YteeocekjekclbaaGreatDoorMae
import Derived.WalkKit
import Derived.WalkSpells
import Derived.WalkLawsBesides
import Derived.Deep.QuietTactic
import Derived.BigQuiet
import Derived.Deep.AppendLies
import Derived.Deep.RegionHeld3
namespace Go.Proofs.YteeocekjekclbaaGreatDoor
open Go.RowKit
structure Kx (X:Nat→Prop) (w w':World):Prop where
 os:w'.os=w.os
 tape:w'.tape=w.tape
 output:w'.output=w.output
 size:w.heap.size≤w'.heap.size
 block: ∀ k,k<w.heap.size→X k→w'.heap[k]? =w.heap[k]?
theorem Kx.refl (X:Nat→Prop) (w:World):Kx X w w:=⟨rfl,rfl,rfl,Nat.le_refl _,fun _ _ _=>rfl⟩
theorem Kx.trans {X:Nat→Prop} {a b c:World} (h:Kx X a b) (k:Kx X b c):Kx X a c:=
 ⟨k.os.trans h.os,k.tape.trans h.tape,k.output.trans h.output,Nat.le_trans h.size k.size,fun i hi hn=>(k.block i (Nat.lt_of_lt_of_le hi h.size) hn).trans (h.block i hi hn)⟩
theorem Kx.mono {X Y:Nat→Prop} {a b:World} (h:Kx X a b) (hs: ∀ k,k<a.heap.size→Y k→X k):Kx Y a b:=
 ⟨h.os,h.tape,h.output,h.size,fun i hi hn=>h.block i hi (hs i hi hn)⟩
theorem Kx.of_below {X:Nat→Prop} {w w':World} (h:Below w.heap.size w w'):Kx X w w':=⟨h.os,h.tape,h.output,h.size,fun k hk _=>h.block k hk⟩
theorem Kx.below {w w':World} (h:Kx (fun _=>True) w w'):Below w.heap.size w w':=⟨h.os,h.tape,h.output,h.size,fun k hk=>h.block k hk trivial⟩
theorem Kx.cell {X:Nat→Prop} {w w':World} (h:Kx X w w') {p:Addr} {v:Value} (hv:w.cell? p=some v) (hX:X p.block):w'.cell? p=some v:=
 (World.cell?_of_block (w:=w) (h.block p.block (World.block_lt_of_cell? w p hv) hX)).trans hv
theorem Kx.frozen {X:Nat→Prop} {w w':World} (h:Kx X w w') {p:Addr} (hp:p.block<w.heap.size) (hX:X p.block):w'.frozen? p=w.frozen? p:=World.frozen?_of_block (w:=w) (h.block p.block hp hX)
theorem Kx.alloc {X:Nat→Prop} {a w:World} (h:Kx X a w) (o:Obj):Kx X a (w.alloc o):=
 h.trans ⟨rfl,rfl,rfl,by simp,fun k hk _=>Below.heap_alloc _ _ _ hk⟩
theorem Kx.drewN {X:Nat→Prop} {a w:World} (h:Kx X a w) (n:Nat):Kx X a (w.drewN n):=⟨h.os,h.tape,h.output,h.size,h.block⟩
theorem Kx.set {X:Nat→Prop} {a w:World} (h:Kx X a w) {p:Addr} (hp:a.heap.size≤p.block∨ ¬ X p.block) (u:Value):Kx X a (w.setCell p u):=
 ⟨h.os,h.tape,h.output,by simpa [World.setCell] using h.size,fun k hk hn=>(Below.heap_setCell _ _ _ _ (fun e=>by
  subst e
  rcases hp with hp|hp
  ·omega
  ·exact hp hn)).trans (h.block k hk hn)⟩
theorem Kx.grown {X:Nat→Prop} {a w w':World} {row:Option Nat} (h:Kx X a w) (hg:w.grownBy w' row) (hr: ∀ k,row=some k→a.heap.size≤k∨ ¬ X k):Kx X a w':=
 ⟨hg.os.trans h.os,hg.tape.trans h.tape,hg.output.trans h.output,Nat.le_trans h.size hg.size,fun k hk hn=>(hg.block k (Nat.lt_of_lt_of_le hk h.size) (fun e=>by
  rcases hr k e.symm with h1|h1
  ·omega
  ·exact h1 hn)).trans (h.block k hk hn)⟩
theorem btrans {a b c:World} (h:Below a.heap.size a b) (k:Below b.heap.size b c):Below a.heap.size a c:=h.trans (k.mono h.size)
theorem bsome {w w':World} (h:Below w.heap.size w w') {p:Addr} {v:Value} (hv:w.cell? p= .some v):w'.cell? p= .some v:=
 (h.cell (World.block_lt_of_cell? w p hv)).trans hv
theorem add_off (g k:Nat):(⟨g,0,none⟩:Addr).add k=⟨g,k,none⟩:=by unfold Addr.add;split<;> simp_all
def ER (w:World) (v:Value) (E:List (Int × Int)):Prop:=
 ∃ a c,v= .slice a E.length c∧(E ≠ []→ ∃ g o,a=some ⟨g,o,none⟩∧ ∀ (k:Nat) x,E[k]? =some x→w.cell? ⟨g,o+k * 2,none⟩=some (.int .i64 x.1)∧w.cell? ⟨g,o+k * 2+1,none⟩=some (.int .i64 x.2))
theorem ER.keepX {X:Nat→Prop} {w w':World} {v:Value} {E:List (Int × Int)} (h:ER w v E) (hb:Kx X w w') (hX: ∀ g,v.ownBlock=some g→X g):ER w' v E:=by
 obtain ⟨a,c,h1,h2⟩:=h
 refine ⟨a,c,h1,fun hn=> ?_⟩
 obtain ⟨g,o,h3,h4⟩:=h2 hn
 have hg:X g:=hX g (by rw [h1,h3];rfl)
 exact ⟨g,o,h3,fun k x hx=>⟨hb.cell (h4 k x hx).1 hg,hb.cell (h4 k x hx).2 hg⟩⟩
theorem ER.keep {w w':World} {v:Value} {E:List (Int × Int)} (h:ER w v E) (hb:Below w.heap.size w w'):ER w' v E:=h.keepX (X:=fun _=>True) (Kx.of_below hb) (fun _ _=>trivial)
namespace Cd
structure In where
 op:Int
 a:Int
 b:Int
 n:Int
 to:Int
 t:ByteArray
 e:List (Int × Int)
 args:List (List (Int × Int) × Int)
 bk:Int
 lp:Int
 at':Int
structure Pr where
 name:ByteArray
 vars:List (ByteArray × ByteArray)
 params:Int
 blocks:List (Int × Int × Int × Int)
 ins:List In
def typ (p:Pr) (v:Int):ByteArray:=if 0≤v∧v<(p.vars.length:Int) then (p.vars[v.toNat]?.map (·.2)).getD ⟨#[]⟩ else ⟨#[]⟩
def isEnd (p:Pr) (v:Int):Bool:=decide (1<(typ p v).size)
theorem typ_in {p:Pr} {k:Nat} {x:ByteArray × ByteArray} (h:p.vars[k]? =some x):typ p (k:Int)=x.2:=by
 have hk:=(List.getElem?_eq_some_iff.1 h).1
 unfold typ
 rw [if_pos ⟨by omega,by omega⟩,Int.toNat_natCast,h]
 rfl
theorem typ_out {p:Pr} {v:Int} (h: ¬ (0≤v∧v<(p.vars.length:Int))):typ p v=⟨#[]⟩:=if_neg h
def acts0 (x:In):List (Int × Int):=
 if x.op=3 then [(3,x.a),(3,x.b)] else if x.op=4∨x.op=11 then [(1,x.b),(3,x.a)] else if x.op=5 then [(1,x.a)] else if x.op=6 then [(1,x.a),(2,x.b)]
 else if x.op=7∨x.op=8∨x.op=9 then [(2,x.a)] else if x.op=10 then (x.args.filter fun y=>y.1.isEmpty).map (fun y=>(2,y.2)) else if x.op=16 then [(4,x.a)] else []
def deeds (p:Pr) (x:In):List (Int × Int):=(acts0 x).filter fun y=>isEnd p y.2
def acts (p:Pr) (i:Int):List (Int × Int):=if 0≤i∧i<(p.ins.length:Int) then (p.ins[i.toNat]?.map (deeds p)).getD [] else []
end Cd
def VaR (w:World) (v:Value) (l:List (ByteArray × ByteArray)):Prop:=
 ∃ a c,v= .slice a l.length c∧(l ≠ []→ ∃ g o,a=some ⟨g,o,none⟩∧ ∀ (k:Nat) x,l[k]? =some x→w.cell? ⟨g,o+k * 2,none⟩=some (.string x.1)∧w.cell? ⟨g,o+k * 2+1,none⟩=some (.string x.2))
theorem VaR.keep {w w':World} {v:Value} {l:List (ByteArray × ByteArray)} (h:VaR w v l) (hb:Below w.heap.size w w'):VaR w' v l:=by
 obtain ⟨a,c,h1,h2⟩:=h
 refine ⟨a,c,h1,fun hn=> ?_⟩
 obtain ⟨g,o,h3,h4⟩:=h2 hn
 exact ⟨g,o,h3,fun k x hx=>⟨bsome hb (h4 k x hx).1,bsome hb (h4 k x hx).2⟩⟩
def BlR (w:World) (v:Value) (l:List (Int × Int × Int × Int)):Prop:=
 ∃ a c,v= .slice a l.length c∧(l ≠ []→ ∃ g o,a=some ⟨g,o,none⟩∧ ∀ (k:Nat) x,l[k]? =some x→w.cell? ⟨g,o+k * 4,none⟩=some (.int .i64 x.1)∧w.cell? ⟨g,o+k * 4+1,none⟩=some (.int .i64 x.2.1)∧w.cell? ⟨g,o+k * 4+2,none⟩=some (.int .i64 x.2.2.1)∧w.cell? ⟨g,o+k * 4+3,none⟩=some (.int .i64 x.2.2.2))
theorem BlR.keep {w w':World} {v:Value} {l:List (Int × Int × Int × Int)} (h:BlR w v l) (hb:Below w.heap.size w w'):BlR w' v l:=by
 obtain ⟨a,c,h1,h2⟩:=h
 refine ⟨a,c,h1,fun hn=> ?_⟩
 obtain ⟨g,o,h3,h4⟩:=h2 hn
 exact ⟨g,o,h3,fun k x hx=>⟨bsome hb (h4 k x hx).1,bsome hb (h4 k x hx).2.1,bsome hb (h4 k x hx).2.2.1,bsome hb (h4 k x hx).2.2.2⟩⟩
def AgR (w:World) (v:Value) (l:List (List (Int × Int) × Int)):Prop:=
 ∃ a c,v= .slice a l.length c∧(l ≠ []→ ∃ g o,a=some ⟨g,o,none⟩∧ ∀ (k:Nat) x,l[k]? =some x→(∃ ae ce,w.cell? ⟨g,o+k * 2,none⟩=some (.slice ae x.1.length ce)∧ER w (.slice ae x.1.length ce) x.1)∧w.cell? ⟨g,o+k * 2+1,none⟩=some (.int .i64 x.2))
theorem AgR.keep {w w':World} {v:Value} {l:List (List (Int × Int) × Int)} (h:AgR w v l) (hb:Below w.heap.size w w'):AgR w' v l:=by
 obtain ⟨a,c,h1,h2⟩:=h
 refine ⟨a,c,h1,fun hn=> ?_⟩
 obtain ⟨g,o,h3,h4⟩:=h2 hn
 refine ⟨g,o,h3,fun k x hx=> ?_⟩
 obtain ⟨⟨ae,ce,h5,h6⟩,h7⟩:=h4 k x hx
 exact ⟨⟨ae,ce,bsome hb h5,h6.keep hb⟩,bsome hb h7⟩
structure IC (w:World) (g o:Nat) (x:Cd.In) (ae:Option Addr) (ce:Nat) (aa:Option Addr) (ca:Nat):Prop where
 c0:w.cell? ⟨g,o,none⟩=some (.int .i64 x.op)
 c1:w.cell? ⟨g,o+1,none⟩=some (.int .i64 x.a)
 c2:w.cell? ⟨g,o+2,none⟩=some (.int .i64 x.b)
 c3:w.cell? ⟨g,o+3,none⟩=some (.int .i64 x.n)
 c4:w.cell? ⟨g,o+4,none⟩=some (.int .i64 x.to)
 c5:w.cell? ⟨g,o+5,none⟩=some (.string x.t)
 c6:w.cell? ⟨g,o+6,none⟩=some (.slice ae x.e.length ce)
 c7:w.cell? ⟨g,o+7,none⟩=some (.slice aa x.args.length ca)
 c8:w.cell? ⟨g,o+8,none⟩=some (.int .i64 x.bk)
 c9:w.cell? ⟨g,o+9,none⟩=some (.int .i64 x.lp)
 c10:w.cell? ⟨g,o+10,none⟩=some (.int .i64 x.at')
 e:ER w (.slice ae x.e.length ce) x.e
 args:AgR w (.slice aa x.args.length ca) x.args
theorem IC.keep {w w':World} {g o:Nat} {x:Cd.In} {ae:Option Addr} {ce:Nat} {aa:Option Addr} {ca:Nat} (h:IC w g o x ae ce aa ca) (hb:Below w.heap.size w w'):IC w' g o x ae ce aa ca:=
 ⟨bsome hb h.c0,bsome hb h.c1,bsome hb h.c2,bsome hb h.c3,bsome hb h.c4,bsome hb h.c5,bsome hb h.c6,bsome hb h.c7,bsome hb h.c8,bsome hb h.c9,bsome hb h.c10,h.e.keep hb,h.args.keep hb⟩
def IV (x:Cd.In) (ae:Option Addr) (ce:Nat) (aa:Option Addr) (ca:Nat):Value:= .agg #[.int .i64 x.op,.int .i64 x.a,.int .i64 x.b,.int .i64 x.n,.int .i64 x.to,.string x.t,.slice ae x.e.length ce,.slice aa x.args.length ca,.int .i64 x.bk,.int .i64 x.lp,.int .i64 x.at']
def InR (w:World) (v:Value) (l:List Cd.In):Prop:=
 ∃ a c,v= .slice a l.length c∧(l ≠ []→ ∃ g o,a=some ⟨g,o,none⟩∧ ∀ (k:Nat) x,l[k]? =some x→ ∃ ae ce aa ca,IC w g (o+k * 11) x ae ce aa ca)
theorem InR.keep {w w':World} {v:Value} {l:List Cd.In} (h:InR w v l) (hb:Below w.heap.size w w'):InR w' v l:=by
 obtain ⟨a,c,h1,h2⟩:=h
 refine ⟨a,c,h1,fun hn=> ?_⟩
 obtain ⟨g,o,h3,h4⟩:=h2 hn
 refine ⟨g,o,h3,fun k x hx=> ?_⟩
 obtain ⟨ae,ce,aa,ca,h5⟩:=h4 k x hx
 exact ⟨ae,ce,aa,ca,h5.keep hb⟩
structure PV where
 av:Option Addr
 cv:Nat
 ab:Option Addr
 cb:Nat
 ai:Option Addr
 ci:Nat
def PV.cells (q:PV) (p:Cd.Pr):Array Value:= #[.string p.name,.slice q.av p.vars.length q.cv,.int .i64 p.params,.slice q.ab p.blocks.length q.cb,.slice q.ai p.ins.length q.ci]
def PV.v (q:PV) (p:Cd.Pr):Value:= .agg (q.cells p)
structure PC (q:PV) (p:Cd.Pr) (w:World):Prop where
 vars:VaR w (.slice q.av p.vars.length q.cv) p.vars
 blocks:BlR w (.slice q.ab p.blocks.length q.cb) p.blocks
 ins:InR w (.slice q.ai p.ins.length q.ci) p.ins
theorem PC.keep {q:PV} {p:Cd.Pr} {w w':World} (h:PC q p w) (hb:Below w.heap.size w w'):PC q p w':=⟨h.vars.keep hb,h.blocks.keep hb,h.ins.keep hb⟩
end Go.Proofs.YteeocekjekclbaaGreatDoor
namespace Go.Proofs.YteeocekjekclbaaGreatDoor
open Go.RowKit
namespace Ow
def place (v st:Int):Int:=IntKind.u64.wrap (IntKind.u64.wrap st * 2 ^ (2 * (v % 32)).toNat)
def of (s v:Int):Int:=bits BinOp.and IntKind.i64 (wrap64 (s / 2 ^ (2 * (v % 32)).toNat)) 3
def behind (t:Int × Int) (s:Int):Int:=bits BinOp.or IntKind.u64 (bits BinOp.andNot IntKind.u64 s t.1) t.2
def join (l:List Int):Int:=l.foldl (fun a b=>bits BinOp.or IntKind.u64 a b) 0
def to (t:Int × Int) (v st:Int):Int × Int:=(bits BinOp.or IntKind.u64 t.1 (place v 3),bits BinOp.or IntKind.u64 (bits BinOp.andNot IntKind.u64 t.2 (place v 3)) (place v st))
def and (t:Int × Int) (a v:Int):Int × Int:=if a=3 then to t v 2 else if a=2∨a=4 then to t v 1 else t
def rule (a s:Int):Int:=if a=1∨a=2 then (if s=1 then 1 else if s=3 then 2 else 0) else if a=3 then (if bits BinOp.and IntKind.i64 s 2 ≠ 0 then 3 else 0) else if a=4 then (if bits BinOp.and IntKind.i64 s 2 ≠ 0 then 4 else 0) else 0
end Ow
set_option maxHeartbeats 400000 in
theorem oPlace_any (v st:Int) (w:World) (h0:0≤v) (h1:v≤1000000):Calls Tryz.prog 106 #[.int .i64 v,.int .i64 st] w fun e w'=>e= .returned (.int .u64 (Ow.place v st))∧w'=w:=by
 unfold Ow.place
 go_enter Tryz.func106,Tryz.ntmps106
 go_wp2
 go_ret
 exact ⟨rfl,rfl⟩
set_option maxHeartbeats 400000 in
theorem oOf_any (s v:Int) (w:World) (h0:0≤v) (h1:v≤1000000):Calls Tryz.prog 43 #[.int .u64 s,.int .i64 v] w fun e w'=>e= .returned (.int .i64 (Ow.of s v))∧w'=w:=by
 unfold Ow.of
 go_enter Tryz.func43,Tryz.ntmps43
 go_wp2
 go_ret
 exact ⟨rfl,rfl⟩
set_option maxHeartbeats 400000 in
theorem oBehind_any (c l s:Int) (w:World):Calls Tryz.prog 45 #[.agg #[.int .u64 c,.int .u64 l],.int .u64 s] w fun e w'=>e= .returned (.int .u64 (Ow.behind (c,l) s))∧Below w.heap.size w w':=by
 have HB:Hid (Below w.heap.size w (w.alloc (.cells #[.int .u64 c,.int .u64 l] 125))):=hide ((Below.refl _ _).alloc (Nat.le_refl _) _)
 unfold Ow.behind
 go_enter Tryz.func45,Tryz.ntmps45
 go_wp2
 go_ret
 exact ⟨rfl,HB.out⟩
def UR (w:World) (v:Value) (l:List Int):Prop:=
 ∃ a c,v= .slice a l.length c∧(l ≠ []→ ∃ g o,a=some ⟨g,o,none⟩∧ ∀ (k:Nat) x,l[k]? =some x→w.cell? ⟨g,o+k,none⟩=some (.int .u64 x))
set_option maxRecDepth 100000 in
set_option maxHeartbeats 1000000 in
theorem oJoin_any (l:List Int) (a:Option Addr) (c:Nat) (w:World) (h:UR w (.slice a l.length c) l) (hl:l.length≤1000000):Calls Tryz.prog 72 #[.slice a l.length c] w fun e w'=>e= .returned (.int .u64 (Ow.join l))∧w'=w:=by
 have HV:=hide h
 have HJ:Hid (Ow.join l=Ow.join (l.take l.length)):=hide (by rw [List.take_length])
 rw [HJ.out]
 clear h HJ
 go_enter Tryz.func72,Tryz.ntmps72
 go_wp2
 go_loopw [3,8] (fun sv iv wr=> ∃ i:Nat,i≤l.length∧iv= .int .i64 i∧sv= .int .u64 (Ow.join (l.take i))∧wr=w) (fun _ iv _=>l.length - (intOf iv).toNat)
 case atStart=>exact ⟨0,Nat.zero_le _,rfl,rfl,rfl⟩
 case round=>
  obtain ⟨i,hi,rfl,rfl,rfl⟩:=hrel
  by_cases hlt:i<l.length
  ·have d1:decide ((i:Int)<(l.length:Int))=true:=by simp;omega
   obtain ⟨x,hx⟩: ∃ y,l[i]? =some y:=⟨_,List.getElem?_eq_getElem hlt⟩
   obtain ⟨a2,c2,e2,h2⟩:=HV.out
   obtain ⟨rfl,-⟩:a=a2∧c=c2:=by simpa using e2
   obtain ⟨g,o,rfl,hc⟩:=h2 (List.ne_nil_of_mem (List.mem_of_getElem? hx))
   have x0:=hc i x hx
   have HT:Hid (Ow.join (l.take (i+1))=bits BinOp.or IntKind.u64 (Ow.join (l.take i)) x):=hide (by rw [List.take_add_one,hx];simp [Ow.join,List.foldl_append])
   have hk0:(0:Int)≤(i:Int):=by omega
   have hk1:(i:Int)<(l.length:Int):=by omega
   generalize Ow.join (l.take i)=J at *
   clear hc h2 e2 hx
   go_wp2
   go_roundw
   case rel=>exact ⟨i+1,by omega,by go_num,by rw [HT.out],by first|rfl|trivial⟩
   case measure=>simp [intOf];omega
  ·obtain rfl:i=l.length:=by omega
   have d1:decide ((l.length:Int)<(l.length:Int))=false:=by simp
   go_wp2
   go_ret
   exact ⟨rfl,rfl⟩
set_option maxHeartbeats 1000000 in
theorem oRule_any (a s:Int) (w:World) (ha:a=1∨a=2∨a=3∨a=4) (hs:s=0∨s=1∨s=2∨s=3):Calls Tryz.prog 42 #[.int .i64 a,.int .i64 s] w fun e w'=>e= .returned (.int .i64 (Ow.rule a s))∧w'=w:=by
 rcases ha with rfl|rfl|rfl|rfl<;> rcases hs with rfl|rfl|rfl|rfl<;>
  (go_enter Tryz.func42,Tryz.ntmps42
   go_wp2
   go_ret
   exact ⟨rfl,rfl⟩)
end Go.Proofs.YteeocekjekclbaaGreatDoor
