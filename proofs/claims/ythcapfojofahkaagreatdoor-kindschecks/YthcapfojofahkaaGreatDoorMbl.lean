import Derived.Test.YthcapfojofahkaaGreatDoorMai
import Derived.Test.YthcapfojofahkaaGreatDoorMbf
import Derived.Test.YthcapfojofahkaaGreatDoorMbk
namespace Go.Proofs.YthcapfojofahkaaGreatDoor
open Go.RowKit
def Nf.S (c:Ng) (nv bv:Value):List Nat:=c.g::(nv.ownBlock.toList++bv.ownBlock.toList)
theorem Nf.kp {c:Ng} {nv bv nv' bv':Value} {w w':World} (h:Nf c nv bv w nv' bv' w'):Kp (Nf.S c nv bv) w w':=
 ⟨h.os,h.tape,h.output,h.size,fun b hb hn=>by
  have h1:b ≠ c.g:=fun e=>hn (by rw [e];exact List.mem_cons_self)
  have h2:nv.ownBlock ≠ some b:=fun e=>hn (by unfold Nf.S;rw [e];simp)
  have h3:bv.ownBlock ≠ some b:=fun e=>hn (by unfold Nf.S;rw [e];simp)
  exact h.block b hb h1 h2 h3⟩
theorem Nf.S_ge {c:Ng} {w:World} {nv bv:Value} {ns bd:List Kn.Nv} {t:Nat} {f:Int × Int} (h:NS c w nv bv ns bd t f): ∀ k,k ∈ Nf.S c nv bv→c.g≤k:=by
 intro k hk
 unfold Nf.S at hk
 rw [List.mem_cons,List.mem_append] at hk
 rcases hk with rfl|hk|hk
 ·exact Nat.le_refl _
 ·cases e:nv.ownBlock with
  |none=>rw [e] at hk;simp at hk
  |some b=>rw [e] at hk;simp at hk;subst hk;have:=(h.on.lt _ e).1;omega
 ·cases e:bv.ownBlock with
  |none=>rw [e] at hk;simp at hk
  |some b=>rw [e] at hk;simp at hk;subst hk;have:=(h.ob.lt _ e).1;omega
structure NmB (c:Ng) (b:Nat) (nv bv:Value) (w:World) (d N:Int) (A B T:List UInt8) (uE uB uL:Value):Prop where
 lt:b<w.heap.size
 n1:b ≠ c.g
 n2:nv.ownBlock ≠ some b
 n3:bv.ownBlock ≠ some b
 x:BX b w d N A B T uE
 q7:w.cell? ⟨b,7,none⟩=some uB
 q8:w.cell? ⟨b,8,none⟩=some uL
theorem NmB.go {c:Ng} {b:Nat} {nv bv nv' bv':Value} {w w':World} {d N:Int} {A B T:List UInt8} {uE uB uL:Value} (h:NmB c b nv bv w d N A B T uE uB uL) (k:Nf c nv bv w nv' bv' w'):NmB c b nv' bv' w' d N A B T uE uB uL:=by
 have e:=k.block b h.lt h.n1 h.n2 h.n3
 have ec: ∀ j,w'.cell? ⟨b,j,none⟩=w.cell? ⟨b,j,none⟩:=fun j=>World.cell?_of_block (w:=w) e
 have hl:=h.lt
 exact ⟨Nat.lt_of_lt_of_le h.lt k.size,h.n1,fun e=>(k.nb b e).elim h.n2 (fun e=>by omega),fun e=>(k.bb b e).elim h.n3 (fun e=>by omega),⟨(ec 0).trans h.x.q0,(ec 2).trans h.x.q2,(ec 3).trans h.x.q3,(ec 4).trans h.x.q4,(ec 5).trans h.x.q5,(ec 6).trans h.x.q6⟩,(ec 7).trans h.q7,(ec 8).trans h.q8⟩
theorem NS.next {c:Ng} {w:World} {nv bv:Value} {ns bd:List Kn.Nv} {t:Nat} {f:Int × Int} (h:NS c w nv bv ns bd t f) (ht:t<100000):
  NS c (w.setCell ⟨c.g,4,none⟩ (.int .i64 ((t+1:Nat):Int))) nv bv ns bd (t+1) f:=by
 have hc0:=h.c0;have hc1:=h.c1;have hc2:=h.c2;have hc3:=h.c3;have hc4:=h.c4;have hc5:=h.c5;have hc6:=h.c6
 refine ⟨by simpa using h.lt,by simp [go_sem,hc0],by simp [go_sem,hc1],by simp [go_sem,hc2],by simp [go_sem,hc3],by simp [go_sem,hc4],by simp [go_sem,hc5],by simp [go_sem,hc6],?_,?_,?_,h.ne,h.ln,h.lb,by omega⟩
 ·intro j;have:=h.fz j;simp [go_sem,this]
 ·exact ownsRow_setCell_below h.on (by show c.g<c.g+1;omega) _
 ·exact ownsRow_setCell_below h.ob (by show c.g<c.g+1;omega) _
theorem NS.cut {c:Ng} {w:World} {g n cap:Nat} {bv:Value} {ns bd:List Kn.Nv} {t:Nat} {f:Int × Int} {k:Nat} (h:NS c w (.slice (some ⟨g,0,none⟩) n cap) bv ns bd t f) (hn:n=ns.length) (hk:k≤ns.length):
  NS c (w.setCell ⟨c.g,2,none⟩ (.slice (some ⟨g,0,none⟩) k cap)) (.slice (some ⟨g,0,none⟩) k cap) bv (ns.take k) bd t f:=by
 subst hn
 have hc0:=h.c0;have hc1:=h.c1;have hc2:=h.c2;have hc3:=h.c3;have hc4:=h.c4;have hc5:=h.c5;have hc6:=h.c6
 have hlk:(ns.take k).length=k:=by rw [List.length_take];omega
 refine ⟨by simpa using h.lt,by simp [go_sem,hc0],by simp [go_sem,hc1],by simp [go_sem,hc2],by simp [go_sem,hc3],by simp [go_sem,hc4],by simp [go_sem,hc5],by simp [go_sem,hc6],?_,?_,?_,fun b e=>h.ne b e,by have:=h.ln;omega,h.lb,h.lat⟩
 ·intro j;have:=h.fz j;simp [go_sem,this]
 ·have e:=own_cut h.on hk
  rw [vcells_take] at e
  rw [hlk]
  exact ownsRow_setCell_below e (by show c.g<c.g+1;omega) _
 ·exact ownsRow_setCell_below h.ob (by show c.g<c.g+1;omega) _
theorem NS.cut0 {c:Ng} {w:World} {bv:Value} {ns bd:List Kn.Nv} {t:Nat} {f:Int × Int} (h:NS c w (.slice none 0 0) bv ns bd t f):
  NS c (w.setCell ⟨c.g,2,none⟩ (.slice none 0 0)) (.slice none 0 0) bv ns bd t f:=by
 have hc0:=h.c0;have hc1:=h.c1;have hc2:=h.c2;have hc3:=h.c3;have hc4:=h.c4;have hc5:=h.c5;have hc6:=h.c6
 refine ⟨by simpa using h.lt,by simp [go_sem,hc0],by simp [go_sem,hc1],by simp [go_sem,hc2],by simp [go_sem,hc3],by simp [go_sem,hc4],by simp [go_sem,hc5],by simp [go_sem,hc6],?_,?_,?_,h.ne,h.ln,h.lb,h.lat⟩
 ·intro j;have:=h.fz j;simp [go_sem,this]
 ·exact ownsRow_setCell_below h.on (by show c.g<c.g+1;omega) _
 ·exact ownsRow_setCell_below h.ob (by show c.g<c.g+1;omega) _
namespace Kn
def okS:Nat→List Sx.Tr→Prop
 |0,_=>True
 |n+1,l=> ∀ (i:Nat) t,l[i]? =some t→1≤(Sx.sH t).1∧(Sx.sH t).1≤14∧((Sx.sH t).1<11→Sx.sB t=[]∧Sx.sO t=[])∧((Sx.sH t).1=6→Sx.sE t ≠ [])∧(Sx.sH t).2.2.2.1.length≤1000000∧(Sx.sE t).length≤1000000∧
   (∀ (j:Nat) x,(Sx.sE t)[j]? =some x→lnE n x)∧okS n (Sx.sB t)∧okS n (Sx.sO t)
def Ends (c:Ng) (nv bv:Value) (w:World) (ns:List Nv) (r:Rs) (w':World):Prop:=match r with
 | .inl s=> ∃ nv' bv',NS c w' nv' bv' s.ns s.bd s.at' (0,0)∧Nf c nv bv w nv' bv' w'
 | .inr e=>e.1 ≠ 0∧ ∃ nv' bv' x bd' t',NS c w' nv' bv' (ns++x) bd' t' e∧Nf c nv bv w nv' bv' w'
end Kn
set_option maxRecDepth 100000 in
set_option maxHeartbeats 1000000 in
theorem sts_idle (c:Ng) (w:World) (n:Nat) (a:Option Addr) (cap:Nat) (nv bv:Value) (ns bd:List Kn.Nv) (t:Nat) (f:Int × Int) (h:NS c w nv bv ns bd t f) (hf:f.1 ≠ 0) (hn:n≤1000000):
  Calls Tryz.prog 27 #[.pointer (some ⟨c.g,0,none⟩),.slice a n cap] w fun e w'=>e= .returned (.tuple #[])∧w'=w:=by
 have c5:=h.c5
 have q:(f.1 == 0)=false:=by simpa using hf
 clear h
 by_cases h0:n=0
 ·subst h0
  go_enter Tryz.func27,Tryz.ntmps27
  go_wp2
  go_loopw [4] (fun iv wr=>iv= .int .i64 0∧wr=w) (fun _ _=>0)
  case atStart=>exact ⟨rfl,rfl⟩
  case round=>
   obtain ⟨rfl,rfl⟩:=hrel
   go_wp2
   go_end0
   exact ⟨rfl,rfl⟩
 ·have d1:decide ((0:Int)<(n:Int))=true:=by simp;omega
  go_enter Tryz.func27,Tryz.ntmps27
  go_wp2
  go_loopw [4] (fun iv wr=>iv= .int .i64 0∧wr=w) (fun _ _=>0)
  case atStart=>exact ⟨rfl,rfl⟩
  case round=>
   obtain ⟨rfl,rfl⟩:=hrel
   go_wp2
   go_end0
   exact ⟨rfl,rfl⟩
end Go.Proofs.YthcapfojofahkaaGreatDoor
namespace Go.Proofs.YthcapfojofahkaaGreatDoor
open Go.RowKit
theorem Kn.lnE_of: ∀ (n:Nat) (d:Sx.Tr),Rn.xf n d=0→Kn.lnE n d
 |0,_,_=>trivial
 |n+1,d,h=>by
  unfold Rn.xf at h
  dsimp only at h
  split at h
  ·cases h
  rename_i h1
  split at h
  ·cases h
  split at h
  ·cases h
  have h2:=Rn.firstOf_zero h
  have hw:Rn.want (Sx.eH d).1≤2:=by
   unfold Rn.want
   split
   ·omega
   ·split<;> omega
  refine ⟨?_,fun i x hx=>Kn.lnE_of n x (h2 x (List.mem_of_getElem? hx))⟩
  have:(Sx.eL d).length=Rn.want (Sx.eH d).1:=Decidable.byContradiction fun hn=>h1 (.inr (.inr (.inl hn)))
  omega
theorem Kn.okS_of: ∀ (n:Nat) {w:World} {P:Nat→Prop} {l:List Sx.Tr} {a:Option Addr} {cap:Nat},SL w P n l (.slice a l.length cap)→Rn.okB n l→Kn.okS n l
 |0,_,_,_,_,_,_,_=>trivial
 |n+1,w,P,l,a,cap,hS,h=>fun i t ht=>by
  obtain ⟨⟨deep,hs⟩,hb,ho⟩:=Rn.okB_each h t (List.mem_of_getElem? ht)
  have hlt:i<l.length:=(List.getElem?_eq_some_iff.1 ht).1
  obtain ⟨b,off,D,at',A,B,T,N,E,body,els,uE,uB,uL,ha,hPb,hd,v0,v1,v2,v3,v4,v5,v6,v7,v8,hE,hBd,hEl⟩:=hS.nth i hlt
  rw [ht] at hd
  obtain rfl:=Option.some.inj hd
  obtain ⟨aB,cB,rfl⟩:=hBd.slice
  obtain ⟨aL,cL,rfl⟩:=hEl.slice
  have f:=Rn.okf hs
  refine ⟨f.d1,f.d2,fun h1=>f.nil (by unfold Rn.hasS;simp;exact h1),fun h6=> ?_,?_,?_,fun j x hx=>Kn.lnE_of n x (f.xs j x hx),Kn.okS_of n hBd hb,Kn.okS_of n hEl ho⟩
  ·have h6':D=6:=h6
   have h7:=f.one (by omega)
   intro hn
   have hn':E=[]:=hn
   rw [hn',h6'] at h7
   exact absurd h7 (by decide)
  ·have:=f.tl
   show T.length≤_
   omega
  ·have:=f.few
   show E.length≤_
   omega
theorem Kn.twiceP_at {V:List Kn.Nv} {k:Nat} {v:Kn.Nv} (h:V[k]? =some v):Kn.twiceP (V.take k) (V.drop k)=(Kn.isIn (V.take k) v.1 || Kn.twiceP (V.take k++[v]) (V.drop (k+1))):=by
 rw [drop_nth h]
 rfl
theorem Kn.abi_abv (l:List Sx.Tr) (nm:List UInt8):(Kn.abi l nm= -1∧(Kn.abv l nm).isSome=false)∨ ∃ k:Nat,Kn.abi l nm=k∧(Kn.abv l nm).isSome=true:=by
 by_cases h:Kn.abi l nm= -1
 ·exact .inl ⟨h,by rw [Kn.abv_none h];rfl⟩
 ·obtain ⟨k,g,h1,-,h3⟩:=Kn.abv_some h
  exact .inr ⟨k,h1,by rw [h3];rfl⟩
def Kn.mainP (ps:List Sx.Tr):Bool:=match ps with
 |[p]=>(Sx.pH p).2 == [114,105]
 |_=>false
theorem Kn.isMain_tG (nm:List UInt8) (at':Int) (ps body:List Sx.Tr):Kn.isMain (Sx.tG nm at' ps body)=(nm == [109,97,105,110] && Kn.mainP ps):=rfl
theorem Kn.mainP_ne {ps:List Sx.Tr} (h:ps.length ≠ 1):Kn.mainP ps=false:=by
 match ps,h with
 |[],_=>rfl
 |_::_::_,_=>rfl
structure MI (g:Nat) (WA:World) (n:Nat) (l:List Sx.Tr) (R:Sum (List (List Kn.Nv)) (Int × Int)) (i t:Nat) (av:Value) (us:List Value) (out:List (List Kn.Nv)) (M:Bool) (wr:World):Prop where
 ow:wr.ownsRow (g+1) 36 1 av i us
 rr:RR g g wr av us out
 lo:out.length=i
 kp:Kp [] WA wr
 eq:R=Kn.stg n i t (l.take i) out (l.drop i)
 gf: ∃ b,Rn.gf n i t (l.drop i)= .inl b
 t3:t≤300
 bg:M=(l.take i).any Kn.isMain
 gl:g<wr.heap.size
theorem Sl.nthP {w:World} {P:Nat→Prop} {ps:List Sx.Tr} {b off cP k:Nat} {nm T:List UInt8} (h:Sl RP w P ps (.slice (some ⟨b,off,none⟩) ps.length cP)) (hd:ps[k]? =some (Sx.tP nm T)):w.cell? ⟨b,off+k * 2,none⟩=some (.string (bs nm))∧w.cell? ⟨b,off+k * 2+1,none⟩=some (.string (bs T)):=by
 obtain ⟨b',o',nm',T',e,hd',y0,y1⟩:=h.nth' k (List.getElem?_eq_some_iff.1 hd).1
 obtain ⟨rfl,rfl⟩:b=b'∧off=o':=by simpa using e
 rw [hd] at hd'
 obtain ⟨rfl,rfl⟩:nm=nm'∧T=T':=by simpa [Sx.tP] using hd'
 exact ⟨y0,y1⟩
structure VF (B g:Nat) (lv pv sv:Value) (nm:List UInt8) (W:World):Prop where
 s0:W.cell? ⟨g+1,0,none⟩=some (.string (bs nm))
 s2:W.cell? ⟨g+1,2,none⟩=some pv
 s3:W.cell? ⟨g+1,3,none⟩=some sv
 q0:W.cell? ⟨B,0,none⟩=some lv
 r0:W.cell? ⟨B+1,0,none⟩=some (.int .i64 0)
 r1:W.cell? ⟨B+1,1,none⟩=some (.int .i64 0)
 g0:W.frozen? ⟨B+1,0,none⟩=false
 g1:W.frozen? ⟨B+1,1,none⟩=false
theorem VF.keep {B g:Nat} {lv pv sv:Value} {nm:List UInt8} {W W':World} {S:List Nat} (h:VF B g lv pv sv nm W) (k:Kp S W W') (h1:g+1 ∉ S) (h2:B ∉ S) (h3:B+1 ∉ S):VF B g lv pv sv nm W':=
 ⟨k.some h.s0 h1,k.some h.s2 h1,k.some h.s3 h1,k.some h.q0 h2,k.some h.r0 h3,k.some h.r1 h3,(k.frozen (p:=⟨B+1,0,none⟩) (World.block_lt_of_cell? _ _ h.r0) h3).trans h.g0,(k.frozen (p:=⟨B+1,1,none⟩) (World.block_lt_of_cell? _ _ h.r1) h3).trans h.g1⟩
theorem VF.go {B g:Nat} {lv pv sv:Value} {nm:List UInt8} {W W':World} (h:VF B g lv pv sv nm W) (k:Kp [g] W W') (hb:B+2≤g):VF B g lv pv sv nm W':=
 h.keep k (by simp) (by simp;omega) (by simp;omega)
end Go.Proofs.YthcapfojofahkaaGreatDoor
namespace Go.Proofs.YthcapfojofahkaaGreatDoor
open Go.RowKit
def StsT (c:Ng) (n:Nat):Prop:= ∀ (w:World) (P:Nat→Prop) (l:List Sx.Tr) (a:Option Addr) (cap:Nat) (nv bv:Value) (ns bd:List Kn.Nv) (t q:Nat),SL w P n l (.slice a l.length cap)→Sl (RG w P q) w P c.l (.slice c.sa c.l.length c.sc)→c.i≤c.l.length→c.l.length≤1000000→(∀ (i:Nat) x,c.l[i]? =some x→(Sx.gP x).length≤1000000)→(∀ b,P b→b<c.g)→Kn.okS n l→l.length≤1000000→
 ns.length≤bd.length→bd.length+2 * Kn.cs n l≤1000→t+Kn.cs n l≤100000→NS c w nv bv ns bd t (0,0)→
 Calls Tryz.prog 27 #[.pointer (some ⟨c.g,0,none⟩),.slice a l.length cap] w fun e w'=>e= .returned (.tuple #[])∧Kn.Ends c nv bv w ns (Kn.sts n (c.l.take c.i) ⟨ns,bd,t⟩ l) w'
structure Kn.Mid (c:Ng) (nv bv:Value) (w:World) (ns:List Kn.Nv) (r:Kn.Rs) (n:Nat) (rest:List Sx.Tr) (nv' bv':Value) (s:Kn.St) (w':World):Prop where
 st:NS c w' nv' bv' s.ns s.bd s.at' (0,0)
 nf:Nf c nv bv w nv' bv' w'
 eq:r=Kn.goK (fun s t=>Kn.one n (c.l.take c.i) (Kn.sts n (c.l.take c.i)) s t) s rest
 pre: ∃ x,s.ns=ns++x
 le:s.ns.length≤s.bd.length
 fw:s.bd.length+2 * (rest.map fun t=>1+Kn.cs n (Sx.sB t)+Kn.cs n (Sx.sO t)).sum≤1000
 ft:s.at'+(rest.map fun t=>1+Kn.cs n (Sx.sB t)+Kn.cs n (Sx.sO t)).sum≤100000
theorem Kn.Mid.flat {c:Ng} {nv bv nv' bv' nv2 bv2:Value} {w wr w':World} {ns:List Kn.Nv} {R:Kn.Rs} {n:Nat} {tr:Sx.Tr} {rest:List Sx.Tr} {s:Kn.St} (h:Kn.Mid c nv bv w ns R n (tr::rest) nv' bv' s wr)
  (hsc:Kn.sc n (c.l.take c.i) s.ns s.bd tr=0) (hB:Sx.sB tr=[]) (hO:Sx.sO tr=[]) (hd:(Sx.sH tr).1<11)
  (st:NS c w' nv2 bv2 (s.ns++Kn.bnds s.ns tr) (s.bd++Kn.bnds s.ns tr) (s.at'+1) (0,0)) (nf:Nf c nv bv w nv2 bv2 w'):
  Kn.Mid c nv bv w ns R n rest nv2 bv2 ⟨s.ns++Kn.bnds s.ns tr,s.bd++Kn.bnds s.ns tr,s.at'+1⟩ w':=by
 obtain ⟨y,hy⟩:=h.pre
 have hl:=Kn.bnds_len s.ns tr
 have f1:=h.fw
 have f2:=h.ft
 have f3:=h.le
 simp only [List.map_cons,List.sum_cons] at f1 f2
 refine ⟨st,nf,?_,⟨y++Kn.bnds s.ns tr,by show s.ns++_=_;rw [hy,List.append_assoc]⟩,?_,?_,?_⟩
 ·rw [h.eq]
  show Kn.thn (Kn.one n (c.l.take c.i) (Kn.sts n (c.l.take c.i)) s tr) _=_
  rw [Kn.one_flat n (c.l.take c.i) s tr hsc hB hO hd]
  rfl
 ·simp only [List.length_append];omega
 ·simp only [List.length_append];omega
 ·show s.at'+1+_≤_
  omega
def Kn.Nx (n:Nat) (ab:List Sx.Tr) (s:Kn.St) (f:Int × Int) (l:List Sx.Tr) (s':Kn.St) (f':Int × Int):Prop:=
 (f.1 ≠ 0∧f'=f)∨(f=(0,0)∧((Kn.sts n ab s l= .inl s'∧f'=(0,0))∨(Kn.sts n ab s l= .inr f'∧f'.1 ≠ 0)))
theorem blk_stt {c:Ng} {n:Nat} (ih:StsT c n) {w:World} {P:Nat→Prop} {l:List Sx.Tr} {a:Option Addr} {cap:Nat} {nv bv:Value} {ns bd:List Kn.Nv} {t q:Nat} {f:Int × Int}
  (hS:SL w P n l (.slice a l.length cap)) (hG:Sl (RG w P q) w P c.l (.slice c.sa c.l.length c.sc)) (hi:c.i≤c.l.length) (hll:c.l.length≤1000000) (hps: ∀ (i:Nat) x,c.l[i]? =some x→(Sx.gP x).length≤1000000) (hPg: ∀ b,P b→b<c.g)
  (hok:Kn.okS n l) (hlen:l.length≤1000000) (hf:f=(0,0)∨f.1 ≠ 0) (hb:f=(0,0)→ns.length≤bd.length∧bd.length+2 * Kn.cs n l≤1000∧t+Kn.cs n l≤100000) (hns:NS c w nv bv ns bd t f):
  Calls Tryz.prog 27 #[.pointer (some ⟨c.g,0,none⟩),.slice a l.length cap] w fun e w'=>e= .returned (.tuple #[])∧ ∃ nv' bv' x bd' t' f',NS c w' nv' bv' (ns++x) bd' t' f'∧Nf c nv bv w nv' bv' w'∧Kn.Nx n (c.l.take c.i) ⟨ns,bd,t⟩ f l ⟨ns++x,bd',t'⟩ f'∧(f'=(0,0)∨f'.1 ≠ 0):=by
 rcases hf with rfl|hf
 ·obtain ⟨b1,b2,b3⟩:=hb rfl
  refine Calls.mono (ih w P l a cap nv bv ns bd t q hS hG hi hll hps hPg hok hlen b1 b2 b3 hns) fun e w' h=> ?_
  obtain ⟨rfl,h⟩:=h
  refine ⟨rfl,?_⟩
  unfold Kn.Ends at h
  split at h
  ·rename_i s hs
   obtain ⟨nv',bv',h1,h2⟩:=h
   obtain ⟨x,hx⟩:=(Kn.sts_go n _ _ _ _ hs).ns
   exact ⟨nv',bv',x,s.bd,s.at',(0,0),by rw [←hx];exact h1,h2,.inr ⟨rfl,.inl ⟨by rw [hs,←hx],rfl⟩⟩,.inl rfl⟩
  ·rename_i e hs
   obtain ⟨h0,nv',bv',x,bd',t',h1,h2⟩:=h
   exact ⟨nv',bv',x,bd',t',e,h1,h2,.inr ⟨rfl,.inr ⟨hs,h0⟩⟩,.inr h0⟩
 ·refine Calls.mono (sts_idle c w l.length a cap nv bv ns bd t f hns hf hlen) fun e w' h=> ?_
  obtain ⟨rfl,rfl⟩:=h
  exact ⟨rfl,nv,bv,[],bd,t,f,by rw [List.append_nil];exact hns,Nf.refl _ _ _ _,.inl ⟨hf,rfl⟩,.inr hf⟩
theorem Kn.bnds_nest {ns:List Kn.Nv} {t:Sx.Tr} (h:11≤(Sx.sH t).1) (h2: ¬ ((Sx.sH t).1=11∨(Sx.sH t).1=12)):Kn.bnds ns t=[]:=by
 unfold Kn.bnds
 dsimp only
 rw [if_neg (by omega),if_neg (by omega),if_neg (by omega),if_neg h2]
theorem Kn.one_nest (n:Nat) (ab:List Sx.Tr) (s:Kn.St) (t:Sx.Tr) (h:Kn.sc n ab s.ns s.bd t=0) (hd:11≤(Sx.sH t).1):
  Kn.one n ab (Kn.sts n ab) s t=Kn.thn (Kn.sts n ab ⟨s.ns++Kn.bnds s.ns t,s.bd++Kn.bnds s.ns t,s.at'+1⟩ (Sx.sB t)) fun s1=>Kn.thn (Kn.sts n ab ⟨s.ns,s1.bd,s1.at'⟩ (Sx.sO t)) fun s2=> .inl ⟨s.ns,s2.bd,s2.at'⟩:=by
 unfold Kn.one
 rw [if_neg (by simpa using h)]
 dsimp only
 by_cases h2:(Sx.sH t).1=11∨(Sx.sH t).1=12
 ·rw [if_pos h2]
 ·rw [if_neg h2,Kn.bnds_nest hd h2]
  simp only [List.append_nil]
theorem Kn.cs_lenK (n:Nat) (l:List Sx.Tr):l.length≤Kn.cs (n+1) l:=by
 unfold Kn.cs
 induction l with
 |nil=>simp
 |cons a r ih=>simp only [List.length_cons,List.map_cons,List.sum_cons];omega
theorem Kn.Mid.body {c:Ng} {nv bv nv' bv':Value} {w wr:World} {ns:List Kn.Nv} {R:Kn.Rs} {n:Nat} {tr:Sx.Tr} {rest:List Sx.Tr} {s:Kn.St} (h:Kn.Mid c nv bv w ns R n (tr::rest) nv' bv' s wr):
  (s.ns++Kn.bnds s.ns tr).length≤(s.bd++Kn.bnds s.ns tr).length∧(s.bd++Kn.bnds s.ns tr).length+2 * Kn.cs n (Sx.sB tr)≤1000∧s.at'+1+Kn.cs n (Sx.sB tr)≤100000∧s.bd.length+2≤1000∧s.ns.length+2≤1000:=by
 have hl:=Kn.bnds_len s.ns tr
 have f1:=h.fw
 have f2:=h.ft
 have f3:=h.le
 simp only [List.map_cons,List.sum_cons] at f1 f2
 simp only [List.length_append]
 omega
theorem Kn.Mid.els {c:Ng} {nv bv nv' bv':Value} {w wr:World} {ns:List Kn.Nv} {R:Kn.Rs} {n:Nat} {tr:Sx.Tr} {rest:List Sx.Tr} {s:Kn.St} (h:Kn.Mid c nv bv w ns R n (tr::rest) nv' bv' s wr)
  {x1 bd1:List Kn.Nv} {t1:Nat} {f1:Int × Int} (h1:Kn.Nx n (c.l.take c.i) ⟨s.ns++Kn.bnds s.ns tr,s.bd++Kn.bnds s.ns tr,s.at'+1⟩ (0,0) (Sx.sB tr) ⟨s.ns++Kn.bnds s.ns tr++x1,bd1,t1⟩ f1) (hf:f1=(0,0)):
  s.ns.length≤bd1.length∧bd1.length+2 * Kn.cs n (Sx.sO tr)≤1000∧t1+Kn.cs n (Sx.sO tr)≤100000:=by
 have hl:=Kn.bnds_len s.ns tr
 have g1:=h.fw
 have g2:=h.ft
 have g3:=h.le
 simp only [List.map_cons,List.sum_cons] at g1 g2
 rcases h1 with ⟨h0,-⟩|⟨-,⟨hs,-⟩|⟨-,h0⟩⟩
 ·exact absurd rfl h0
 ·have hg:=Kn.sts_go n _ _ _ _ hs
  obtain ⟨y,hy⟩:=hg.bd
  have a1:=hg.fw
  have a2:=hg.at'
  dsimp only at hy a1 a2
  have a3:=congrArg List.length hy
  simp only [List.length_append] at a1 a3
  omega
 ·rw [hf] at h0;exact absurd rfl h0
theorem Kn.Mid.nest {c:Ng} {nv bv nv' bv' nv2 bv2:Value} {w wr w':World} {ns:List Kn.Nv} {R:Kn.Rs} {n:Nat} {tr:Sx.Tr} {rest:List Sx.Tr} {s:Kn.St} (h:Kn.Mid c nv bv w ns R n (tr::rest) nv' bv' s wr)
  (hsc:Kn.sc n (c.l.take c.i) s.ns s.bd tr=0) (hd:11≤(Sx.sH tr).1)
  {x1 x2 bd1 bd2:List Kn.Nv} {t1 t2:Nat} {f1 f2:Int × Int} (h1:Kn.Nx n (c.l.take c.i) ⟨s.ns++Kn.bnds s.ns tr,s.bd++Kn.bnds s.ns tr,s.at'+1⟩ (0,0) (Sx.sB tr) ⟨s.ns++Kn.bnds s.ns tr++x1,bd1,t1⟩ f1)
  (h2:Kn.Nx n (c.l.take c.i) ⟨s.ns,bd1,t1⟩ f1 (Sx.sO tr) ⟨s.ns++x2,bd2,t2⟩ f2)
  (st:NS c w' nv2 bv2 s.ns bd2 t2 f2) (nf:Nf c nv bv w nv2 bv2 w'):
  (∃ nv' bv' s,Kn.Mid c nv bv w ns R n rest nv' bv' s w')∨(∃ e:Int × Int,R= .inr e∧e.1 ≠ 0∧ ∃ nv' bv' x bd' t',NS c w' nv' bv' (ns++x) bd' t' e∧Nf c nv bv w nv' bv' w'):=by
 obtain ⟨y,hy⟩:=h.pre
 have hl:=Kn.bnds_len s.ns tr
 have g1:=h.fw
 have g2:=h.ft
 have g3:=h.le
 simp only [List.map_cons,List.sum_cons] at g1 g2
 have hR:R=Kn.thn (Kn.one n (c.l.take c.i) (Kn.sts n (c.l.take c.i)) s tr) fun s'=>Kn.goK (fun s t=>Kn.one n (c.l.take c.i) (Kn.sts n (c.l.take c.i)) s t) s' rest:=h.eq
 rw [Kn.one_nest n _ s tr hsc hd] at hR
 have bad: ∀ e:Int × Int,f2=e→e.1 ≠ 0→R= .inr e→(∃ nv' bv' s,Kn.Mid c nv bv w ns R n rest nv' bv' s w')∨(∃ e:Int × Int,R= .inr e∧e.1 ≠ 0∧ ∃ nv' bv' x bd' t',NS c w' nv' bv' (ns++x) bd' t' e∧Nf c nv bv w nv' bv' w'):=by
  intro e he h0 hr
  subst he
  exact .inr ⟨_,hr,h0,nv2,bv2,y,bd2,t2,by rw [←hy];exact st,nf⟩
 rcases h1 with ⟨h0,-⟩|⟨-,⟨hs,rfl⟩|⟨hs,h0⟩⟩
 ·exact absurd rfl h0
 ·rcases h2 with ⟨h0,-⟩|⟨-,⟨hs2,rfl⟩|⟨hs2,h0⟩⟩
  ·exact absurd rfl h0
  ·have k1:=Kn.sts_go n _ _ _ _ hs
   have k2:=Kn.sts_go n _ _ _ _ hs2
   obtain ⟨z1,hz1⟩:=k1.bd
   obtain ⟨z2,hz2⟩:=k2.bd
   have a1:=k1.fw
   have a2:=k1.at'
   have b1:=k2.fw
   have b2:=k2.at'
   dsimp only at hz1 hz2 a1 a2 b1 b2
   have a3:=congrArg List.length hz1
   have b3:=congrArg List.length hz2
   simp only [List.length_append] at a1 a3 b3
   refine .inl ⟨nv2,bv2,⟨s.ns,bd2,t2⟩,st,nf,?_,⟨y,hy⟩,?_,?_,?_⟩
   ·rw [hR,hs]
    show Kn.thn (Kn.thn (Kn.sts n (c.l.take c.i) ⟨s.ns,bd1,t1⟩ (Sx.sO tr)) _) _=_
    rw [hs2]
    rfl
   ·show s.ns.length≤bd2.length;omega
   ·show bd2.length+_≤_;omega
   ·show t2+_≤_;omega
  ·refine bad f2 rfl h0 ?_
   rw [hR,hs]
   show Kn.thn (Kn.thn (Kn.sts n (c.l.take c.i) ⟨s.ns,bd1,t1⟩ (Sx.sO tr)) _) _=_
   rw [hs2]
   rfl
 ·rcases h2 with ⟨-,rfl⟩|⟨rfl,-⟩
  ·refine bad f2 rfl h0 ?_
   rw [hR,hs]
   rfl
  ·exact absurd rfl h0
theorem Sts_len {w:World} {P:Nat→Prop} {n k:Nat} {l:List Sx.Tr} {v:Value} (h:SL w P n l v) (hc:k+2 * Kn.cs n l≤1000):l.length≤1000000:=by
 cases n with
 |zero=>cases h
 |succ n=>have:=Kn.cs_lenK n l;omega
theorem Kn.Mid.elen {c:Ng} {nv bv nv' bv':Value} {w wr w2:World} {P:Nat→Prop} {ns:List Kn.Nv} {R:Kn.Rs} {n:Nat} {tr:Sx.Tr} {rest:List Sx.Tr} {s:Kn.St} {v:Value} (h:Kn.Mid c nv bv w ns R n (tr::rest) nv' bv' s wr) (hS:SL w2 P n (Sx.sO tr) v):(Sx.sO tr).length≤1000000:=by
 have f1:=h.fw
 simp only [List.map_cons,List.sum_cons] at f1
 exact Sts_len (k:=s.bd.length) hS (by omega)
theorem nmBind_kp (c:Ng) (W:World) (nv bv:Value) (ns bd:List Kn.Nv) (t:Nat) (f:Int × Int) (nm ty:List UInt8) (h:NS c W nv bv ns bd t f) (hl:bd.length<1000) (hl2:ns.length<1000): ∀ w',Kp [] W w'→
  Calls Tryz.prog 26 #[.pointer (some ⟨c.g,0,none⟩),.string (bs nm),.string (bs ty)] w' fun e w3=>e= .returned (.tuple #[])∧ ∃ nv' bv',NS c w3 nv' bv' (ns++[(nm,ty)]) (bd++[(nm,ty)]) t f∧Nf c nv bv W nv' bv' w3:=
 fun w' hk=>Calls.mono (nmBind_any c w' nv bv ns bd t f nm ty (h.keep hk (by simp)) hl hl2) fun _ _ hh=>by
  obtain ⟨a,b,d,x,y⟩:=hh
  exact ⟨a,b,d,x,(Nf.of_kp (hk.mono (by simp))).trans y⟩
theorem bs_cns (b:UInt8) (T:List UInt8):bs [b]++bs T=bs (b::T):=by
 apply ByteArray.ext
 simp [bs]
theorem NS.cutTo {c:Ng} {w:World} {nv bv:Value} {ns' ns x bd:List Kn.Nv} {t:Nat} {f:Int × Int} (h:NS c w nv bv ns' bd t f) (he:ns'=ns++x):
  (nv= .slice none 0 0∧ns=[]∧NS c (w.setCell ⟨c.g,2,none⟩ (.slice none 0 0)) (.slice none 0 0) bv ns bd t f∧Nf c nv bv w (.slice none 0 0) bv (w.setCell ⟨c.g,2,none⟩ (.slice none 0 0)))∨
  ∃ g m cap,nv= .slice (some ⟨g,0,none⟩) m cap∧ns.length≤m∧m≤cap∧NS c (w.setCell ⟨c.g,2,none⟩ (.slice (some ⟨g,0,none⟩) ns.length cap)) (.slice (some ⟨g,0,none⟩) ns.length cap) bv ns bd t f∧Nf c nv bv w (.slice (some ⟨g,0,none⟩) ns.length cap) bv (w.setCell ⟨c.g,2,none⟩ (.slice (some ⟨g,0,none⟩) ns.length cap)):=by
 have hk: ∀ v:Value,Nf c nv bv w nv bv (w.setCell ⟨c.g,2,none⟩ v):=fun v=>Nf.of_kp ((Kp.refl [c.g] w).rb 2 v)
 rcases h.on.2 with ⟨hv,h0⟩|⟨g,cap,cur,hv,h1,h2,h3,h4,h5,h6⟩
 ·have hn:=List.length_eq_zero_iff.1 h0
  rw [hn] at he
  obtain ⟨rfl,rfl⟩:=List.append_eq_nil_iff.1 he.symm
  subst hv hn
  exact .inl ⟨rfl,rfl,h.cut0,hk _⟩
 ·subst hv
  have hle:ns.length≤ns'.length:=by rw [he,List.length_append];omega
  have hc:=NS.cut h rfl hle
  rw [show ns'.take ns.length=ns by rw [he,List.take_left]] at hc
  have hN:=hk (.slice (some ⟨g,0,none⟩) ns.length cap)
  exact .inr ⟨g,_,cap,rfl,hle,by omega,hc,⟨hN.os,hN.tape,hN.output,hN.size,hN.block,hN.nb,hN.bb⟩⟩
end Go.Proofs.YthcapfojofahkaaGreatDoor
