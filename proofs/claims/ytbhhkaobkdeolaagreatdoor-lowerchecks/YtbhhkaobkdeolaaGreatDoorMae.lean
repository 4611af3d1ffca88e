import Derived.Test.YtbhhkaobkdeolaaGreatDoorMaa
import Derived.Lib.ItoaNum
import Derived.Test.YtbhhkaobkdeolaaGreatDoorMac
import Derived.Test.YtbhhkaobkdeolaaGreatDoorMad
import Derived.Deep.RegionHeldLaw
import Derived.Maps.OwnSet
import Derived.WideKeyEntry
import Derived.Deep.RegionHeld3
import Derived.BigQuiet
import Derived.Deep.AppendLies
namespace Go.Proofs.YtbhhkaobkdeolaaGreatDoor.Sx
open Go.Proofs.YtbhhkaobkdeolaaGreatDoor.Tk
def eL:Tr→List Tr
 | .agg [_,_,_,.agg L]=>L
 |_=>[]
def eH:Tr→Int × List UInt8 × Int
 | .agg [.lit (.int _ op),.lit (.string nm),.lit (.int _ k),_]=>(op,nm,k)
 |_=>(0,[],0)
def sH:Tr→Int × List UInt8 × List UInt8 × List UInt8 × Int
 | .agg [.lit (.int _ d),_,.lit (.string A),.lit (.string B),.lit (.string T),.lit (.int _ n),_,_,_]=>(d,A,B,T,n)
 |_=>(0,[],[],[],0)
def sE:Tr→List Tr
 | .agg [_,_,_,_,_,_,.agg E,_,_]=>E
 |_=>[]
def sB:Tr→List Tr
 | .agg [_,_,_,_,_,_,_,.agg b,_]=>b
 |_=>[]
def sO:Tr→List Tr
 | .agg [_,_,_,_,_,_,_,_,.agg o]=>o
 |_=>[]
def gN:Tr→List UInt8
 | .agg [.lit (.string nm),_,_,_]=>nm
 |_=>[]
def gP:Tr→List Tr
 | .agg [_,_,.agg ps,_]=>ps
 |_=>[]
def gB:Tr→List Tr
 | .agg [_,_,_,.agg b]=>b
 |_=>[]
def pH:Tr→List UInt8 × List UInt8
 | .agg [.lit (.string nm),.lit (.string T)]=>(nm,T)
 |_=>([],[])
def sum (f:Tr→Nat):List Tr→Nat
 |[]=>0
 |d::r=>f d+sum f r
theorem sum_take (f:Tr→Nat) (l:List Tr) (i:Nat) (d:Tr) (h:l[i]? =some d):sum f (l.take (i+1))=sum f (l.take i)+f d:=by
 induction l generalizing i with
 |nil=>simp at h
 |cons x r ih=>
  cases i with
  |zero=>simp at h;subst h;simp [sum]
  |succ i=>
   have:=ih i (by simpa using h)
   simp only [List.take_succ_cons,sum]
   rw [this]
   omega
theorem sum_take_le (f:Tr→Nat) (l:List Tr) (i:Nat):sum f (l.take i)≤sum f l:=by
 induction l generalizing i with
 |nil=>simp
 |cons x r ih=>
  cases i with
  |zero=>simp [sum]
  |succ i=>have:=ih i;simp only [List.take_succ_cons,sum];omega
def cnt:Nat→List Tr→Nat
 |0,_=>0
 |n+1,l=>l.length+sum (fun d=>cnt n (sB d)+cnt n (sO d)) l
def wE:Nat→List Tr→Nat
 |0,_=>0
 |n+1,l=>l.length+sum (fun d=>wE n (eL d)) l
def wS:Nat→List Tr→Nat
 |0,_=>0
 |n+1,l=>l.length+sum (fun d=>wE n (sE d)+wS n (sB d)+wS n (sO d)) l
end Go.Proofs.YtbhhkaobkdeolaaGreatDoor.Sx
namespace Go.Proofs.YtbhhkaobkdeolaaGreatDoor.Rn
open Go.Proofs.YtbhhkaobkdeolaaGreatDoor Go.Proofs.YtbhhkaobkdeolaaGreatDoor.Sx
def sides:List UInt8→Bool
 |[]=>false
 |[b]=>b == 105
 |b::r=>(b == 115 || b == 114) && sides r
def isT (t:List UInt8) (ends:Int):Bool:=sides t && decide ((t.length:Int) - 1≤ends)
def prt (n:Nat) (d:Tr):Nat:=1+wE n (eL d)
theorem wE_prt (n:Nat) (l:List Tr):wE (n+1) l=sum (prt n) l:=by
 show l.length+sum (fun d=>wE n (eL d)) l=_
 induction l with
 |nil=>rfl
 |cons d r ih=>simp only [sum,prt,List.length_cons] at ih ⊢;omega
def cpl (g:Nat→Tr→Nat) (most:Nat):Nat→List Tr→Nat
 |acc,[]=>acc
 |acc,d::r=>if most<acc then acc else cpl g most (acc+g (most - acc) d) r
def cpt:Nat→Nat→Tr→Nat
 |0,_,_=>1
 |n+1,most,d=>cpl (cpt n) most 1 (eL d)
theorem cpl_ge (g:Nat→Tr→Nat) (most acc:Nat) (l:List Tr):acc≤cpl g most acc l:=by
 induction l generalizing acc with
 |nil=>exact Nat.le_refl _
 |cons d r ih=>
  simp only [cpl]
  split
  ·exact Nat.le_refl _
  ·have:=ih (acc+g (most - acc) d);omega
theorem cpl_is (g:Nat→Tr→Nat) (p:Tr→Nat) (h: ∀ m d,(p d≤m→g m d=p d)∧(m<p d→m<g m d)) (most acc:Nat) (l:List Tr):
  (acc+sum p l≤most→cpl g most acc l=acc+sum p l)∧(most<acc+sum p l→most<cpl g most acc l):=by
 induction l generalizing acc with
 |nil=>simp only [cpl,sum];omega
 |cons d r ih=>
  simp only [cpl,sum]
  have hd:=h (most - acc) d
  have hi:=ih (acc+g (most - acc) d)
  have hge:=cpl_ge g most (acc+g (most - acc) d) r
  by_cases ha:most<acc
  ·rw [if_pos ha];omega
  ·rw [if_neg ha]
   by_cases hp:p d≤most - acc
   ·have e:=hd.1 hp
    rw [e] at hi ⊢
    refine ⟨fun hh=> ?_,fun hh=>hi.2 (by omega)⟩
    rw [hi.1 (by omega)];omega
   ·have e:=hd.2 (by omega)
    refine ⟨fun hh=>by omega,fun _=>by omega⟩
theorem cpt_is (n:Nat): ∀ m d,(prt n d≤m→cpt n m d=prt n d)∧(m<prt n d→m<cpt n m d):=by
 induction n with
 |zero=>intro m d;simp [prt,cpt,wE]
 |succ n ih=>
  intro m d
  have:=cpl_is (cpt n) (prt n) ih m 1 (eL d)
  simp only [prt,cpt]
  rw [wE_prt]
  exact this
theorem cpt_lt (n m:Nat) (d:Tr):m<cpt n m d ↔ m<prt n d:=by
 have:=cpt_is n m d
 constructor
 ·intro h;apply Nat.lt_of_not_le;intro hp;have:=this.1 hp;omega
 ·exact this.2
def firstOf {α:Type} (g:α→Int):List α→Int
 |[]=>0
 |d::r=>if g d ≠ 0 then g d else firstOf g r
def want (op:Int):Nat:=if op=1∨op=2 then 0 else if op=3 then 1 else 2
def xf:Nat→Tr→Int
 |0,_=>0
 |n+1,d=>
  let (op,nm,k):=eH d
  if op<1∨8<op∨(eL d).length ≠ want op∨(k ≠ 0∧op ≠ 1)∨(nm ≠ []∧op ≠ 2) then 5
  else if op=2∧Tk.isN nm=false then 4
  else if k<0∨1000000000000000000≤k then 3
  else firstOf (xf n) (eL d)
def ef (n:Nat) (d:Tr):Int:=if 20<prt n d then 8 else xf n d
def hasA (d:Int):Bool:=d !=3 && d !=13 && d !=14
def hasB (d:Int):Bool:=d == 4 || d == 5 || d == 11 || d == 12
def hasT (d:Int):Bool:=d == 4
def hasS (d:Int):Bool:=decide (11≤d)
def hasO (d:Int):Bool:=d == 11 || d == 14
def fewE (d:Int):Nat:=if d=1∨d=2∨d=3∨d=6∨d=13∨d=14 then 1 else 0
def formed (t:Tr):Bool:=
 let (d,A,B,T,k):=sH t
 decide (1≤d) && decide (d≤14) && (hasA d || A == []) && (hasB d || B == []) && (hasT d || T == []) && (hasT d || k == 0) &&
  (hasS d || (sB t).isEmpty) && (hasO d || (sO t).isEmpty) && (d == 10 || (sE t).length == fewE d)
def sf (n:Nat) (deep:Nat) (t:Tr):Int:=
 let (d,A,B,T,k):=sH t
 if formed t=false then 5
 else if 6<(sE t).length then 8
 else if (hasA d=true∧Tk.isN A=false)∨(hasB d=true∧Tk.isN B=false) then 4
 else if hasT d=true∧isT T 3=false then 11
 else if k<0∨1000000000000000000≤k then 14
 else if firstOf (ef n) (sE t) ≠ 0 then firstOf (ef n) (sE t)
 else if hasS d=true∧8≤deep then 7 else 0
abbrev Bf:=Sum Nat (Int × Int)
def thn (m:Bf) (k:Nat→Bf):Bf:=match m with
 | .inl a=>k a
 | .inr f=> .inr f
def goS (g:Nat→Tr→Bf):Nat→List Tr→Bf
 |a,[]=> .inl a
 |a,t::r=>thn (g a t) fun b=>goS g b r
def bf:Nat→Nat→Nat→List Tr→Bf
 |0,_,a,_=> .inl a
 |n+1,deep,a,l=>goS (fun a t=>
   if 300≤a then .inr (8,a) else if sf n deep t ≠ 0 then .inr (sf n deep t,a)
   else thn (bf n (deep+1) (a+1) (sB t)) fun b=>bf n (deep+1) b (sO t)) a l
def hf (g:Tr):Int:=
 if Tk.isN (gN g)=false then 4 else if 6<(gP g).length then 8
 else firstOf (fun p=>if Tk.isN (pH p).1=false then 4 else if isT (pH p).2 3=false then 11 else 0) (gP g)
def gf (n:Nat):Nat→Nat→List Tr→Bf
 |_,a,[]=> .inl a
 |i,a,g::r=>if hf g ≠ 0 then .inr (hf g,-2 - (i:Int)) else thn (bf n 1 a (gB g)) fun b=>gf n (i+1) b r
def pf (n:Nat) (l:List Tr):Int × Int:=
 if l.length=0 then (10,-1) else if 10<l.length then (8,-1) else match gf n 0 0 l with
  | .inl _=>(0,0)
  | .inr f=>f
def digs (k:Int):List UInt8:=Lib.itoa k
def tyw:List UInt8→List UInt8
 |[]=>[]
 |b::r=>(if b=115 then [115,101,110,100,32] else if b=114 then [114,101,99,118,32] else [105,110,116])++tyw r
def holds (op:Int):Nat:=if op=7∨op=8 then 0 else if op=4∨op=5 then 1 else if op=6 then 2 else 3
def sign (op:Int):List UInt8:=if op=4 then [32,43,32] else if op=5 then [32,45,32] else if op=6 then [32,42,32] else if op=7 then [32,60,32] else [32,61,61,32]
def lft (op:Int):Nat:=if holds op=0 then 1 else holds op
def brk (b:Bool) (x:List UInt8):List UInt8:=if b then [40]++x++[41] else x
def xt:Nat→Nat→Tr→List UInt8
 |0,_,_=>[]
 |n+1,must,d=>
  let (op,nm,k):=eH d
  brk (decide (holds op<must)) (if op=1 then digs k else if op=2 then nm else if op=3 then [45]++xt n 3 ((eL d).headD d0)
   else xt n (lft op) ((eL d).headD d0)++sign op++xt n (holds op+1) ((eL d).tail.headD d0))
def com:List (List UInt8)→List UInt8
 |[]=>[]
 |[x]=>x
 |x::r=>x++[44,32]++com r
def tabs (k:Nat):List UInt8:=List.replicate k 9
def ahead (n:Nat) (t:Tr):List UInt8:=
 let (d,A,B,T,k):=sH t
 let E:=com ((sE t).map (xt n 0))
 if d=1 then [108,101,116,32]++A++[32,61,32]++E++[59]
 else if d=2 then [115,101,116,32]++A++[32,61,32]++E++[59]
 else if d=3 then [101,109,105,116,32]++E++[59]
 else if d=4 then [99,104,97,110,32]++A++[32]++B++[32]++tyw T++[32]++digs k++[59]
 else if d=5 then [99,108,111,110,101,32]++A++[32]++B++[59]
 else if d=6 then [115,101,110,100,32]++A++[32]++E++[59]
 else if d=7 then [99,108,111,115,101,32]++A++[59]
 else if d=8 then [97,98,97,110,100,111,110,32]++A++[59]
 else if d=9 then [100,114,97,105,110,32]++A++[59]
 else if d=10 then [115,112,97,119,110,32]++A++[40]++E++[41,59]
 else if d=11 then [116,97,107,101,32]++A++[32,102,114,111,109,32]++B++[32]
 else if d=12 then [102,111,114,32]++A++[32,102,114,111,109,32]++B++[32]
 else if d=13 then [114,101,112,101,97,116,32]++E++[32]
 else [105,102,32]++E++[32]
def cat (g:Tr→List UInt8):List Tr→List UInt8
 |[]=>[]
 |t::r=>g t++cat g r
def blt:Nat→Nat→List Tr→List UInt8
 |0,_,_=>[]
 |n+1,k,l=>[123,10]++cat (fun t=>tabs (k+1)++ahead n t++
   (if hasS (sH t).1 then blt n (k+1) (sB t)++(if (sO t).isEmpty then [] else [32,101,108,115,101,32]++blt n (k+1) (sO t)) else [])++[10]) l++tabs k++[125]
def stt (n:Nat) (g:Tr):List UInt8:=
 [115,116,97,103,101,32]++gN g++[40]++com ((gP g).map fun p=>(pH p).1++[32]++tyw (pH p).2)++[41,32]++blt n 0 (gB g)++[10]
def pt (n:Nat) (l:List Tr):List UInt8:=cat (stt n) l
def told (n:Nat) (l:List Tr):Int × Int:=if (pf n l).1 ≠ 0 then pf n l else if 12000<(pt n l).length then (1,-1) else (0,0)
theorem cat_append (g:Tr→List UInt8) (l m:List Tr):cat g (l++m)=cat g l++cat g m:=by
 induction l with
 |nil=>rfl
 |cons t r ih=>simp only [List.cons_append,cat,ih,List.append_assoc]
end Go.Proofs.YtbhhkaobkdeolaaGreatDoor.Rn
namespace Go.Proofs.YtbhhkaobkdeolaaGreatDoor
open Go.RowKit
theorem RS_len {w:World} {P:Nat→Prop} {n:Nat} (d:Sx.Tr) (c:List Value) (h:RS w P n d c):c.length=9:=by
 obtain ⟨D,at',A,B,T,N,E,body,els,uE,uB,uL,_,rfl,_⟩:=h
 rfl
theorem RG_len {w:World} {P:Nat→Prop} {n:Nat} (d:Sx.Tr) (c:List Value) (h:RG w P n d c):c.length=4:=by
 obtain ⟨nm,at',ps,body,uP,uB,_,rfl,_⟩:=h
 rfl
theorem SL.nth {w:World} {P:Nat→Prop} {n:Nat} {l:List Sx.Tr} {a:Option Addr} {cap:Nat} (h:SL w P (n+1) l (.slice a l.length cap)) (i:Nat) (hi:i<l.length):
  ∃ b off D at' A B T N E body els uE uB uL,a=some ⟨b,off,none⟩∧P b∧l[i]? =some (Sx.tS D at' A B T N E body els)∧
    w.cell? ⟨b,off+i * 9,none⟩=some (.int .i64 D)∧w.cell? ⟨b,off+i * 9+1,none⟩=some (.int .i64 at')∧w.cell? ⟨b,off+i * 9+2,none⟩=some (.string (bs A))∧
    w.cell? ⟨b,off+i * 9+3,none⟩=some (.string (bs B))∧w.cell? ⟨b,off+i * 9+4,none⟩=some (.string (bs T))∧w.cell? ⟨b,off+i * 9+5,none⟩=some (.int .i64 N)∧
    w.cell? ⟨b,off+i * 9+6,none⟩=some uE∧w.cell? ⟨b,off+i * 9+7,none⟩=some uB∧w.cell? ⟨b,off+i * 9+8,none⟩=some uL∧EL w P n E uE∧SL w P n body uB∧SL w P n els uL:=by
 rw [SL_succ] at h
 obtain ⟨a',cap',hv,h⟩:=h
 cases hv
 rcases h with h|⟨b,off,cs,ha,hb,hr,hc⟩
 ·subst h;simp at hi
 ·obtain ⟨c,hR,hcu⟩:=hr.at RS_len i _ (List.getElem?_eq_getElem hi)
  obtain ⟨D,at',A,B,T,N,E,body,els,uE,uB,uL,hd,rfl,h1,h2,h3⟩:=hR
  have hx:=fun j u hu=>hc _ u (hcu j u hu)
  simp only [←Nat.add_assoc] at hx
  exact ⟨b,off,D,at',A,B,T,N,E,body,els,uE,uB,uL,ha,hb,by rw [List.getElem?_eq_getElem hi,hd],hx 0 _ rfl,hx 1 _ rfl,hx 2 _ rfl,hx 3 _ rfl,hx 4 _ rfl,hx 5 _ rfl,hx 6 _ rfl,hx 7 _ rfl,hx 8 _ rfl,h1,h2,h3⟩
theorem GL.nth {w:World} {P:Nat→Prop} {n:Nat} {l:List Sx.Tr} {a:Option Addr} {cap:Nat} (h:Sl (RG w P n) w P l (.slice a l.length cap)) (i:Nat) (hi:i<l.length):
  ∃ b off nm at' ps body uP uB,a=some ⟨b,off,none⟩∧P b∧l[i]? =some (Sx.tG nm at' ps body)∧
    w.cell? ⟨b,off+i * 4,none⟩=some (.string (bs nm))∧w.cell? ⟨b,off+i * 4+1,none⟩=some (.int .i64 at')∧w.cell? ⟨b,off+i * 4+2,none⟩=some uP∧
    w.cell? ⟨b,off+i * 4+3,none⟩=some uB∧Sl RP w P ps uP∧SL w P n body uB:=by
 obtain ⟨a',cap',hv,h⟩:=h
 cases hv
 rcases h with h|⟨b,off,cs,ha,hb,hr,hc⟩
 ·subst h;simp at hi
 ·obtain ⟨c,hR,hcu⟩:=hr.at RG_len i _ (List.getElem?_eq_getElem hi)
  obtain ⟨nm,at',ps,body,uP,uB,hd,rfl,h1,h2⟩:=hR
  have hx:=fun j u hu=>hc _ u (hcu j u hu)
  simp only [←Nat.add_assoc] at hx
  exact ⟨b,off,nm,at',ps,body,uP,uB,ha,hb,by rw [List.getElem?_eq_getElem hi,hd],hx 0 _ rfl,hx 1 _ rfl,hx 2 _ rfl,hx 3 _ rfl,h1,h2⟩
end Go.Proofs.YtbhhkaobkdeolaaGreatDoor
namespace Go.Proofs.YtbhhkaobkdeolaaGreatDoor
open Go.RowKit
theorem EL.nth {w:World} {P:Nat→Prop} {n:Nat} {l:List Sx.Tr} {a:Option Addr} {cap:Nat} (h:EL w P (n+1) l (.slice a l.length cap)) (i:Nat) (hi:i<l.length):
  ∃ b off op nm k L aL cL,a=some ⟨b,off,none⟩∧P b∧l[i]? =some (Sx.tE op nm k L)∧w.cell? ⟨b,off+i * 4,none⟩=some (.int .i64 op)∧w.cell? ⟨b,off+i * 4+1,none⟩=some (.string (bs nm))∧
      w.cell? ⟨b,off+i * 4+2,none⟩=some (.int .i64 k)∧w.cell? ⟨b,off+i * 4+3,none⟩=some (.slice aL L.length cL)∧EL w P n L (.slice aL L.length cL):=by
 obtain ⟨a',cap',hv,h⟩:=h
 cases hv
 rcases h with h|⟨b,off,ha,hb,hc⟩
 ·subst h;simp at hi
 ·obtain ⟨op,nm,k,L,u,hd,h1,h2,h3,h4,h5⟩:=hc i _ (List.getElem?_eq_getElem hi)
  obtain ⟨aL,cL,rfl⟩:=h5.slice
  exact ⟨b,off,op,nm,k,L,aL,cL,ha,hb,by rw [List.getElem?_eq_getElem hi,hd],h1,h2,h3,h4,h5⟩
theorem sum_nth (f:Sx.Tr→Nat) {l:List Sx.Tr} {i:Nat} {d:Sx.Tr} (h:l[i]? =some d):Sx.sum f (l.take i)+f d≤Sx.sum f l:=by
 have:=Sx.sum_take f l i d h
 have:=Sx.sum_take_le f l (i+1)
 omega
end Go.Proofs.YtbhhkaobkdeolaaGreatDoor
namespace Go.Proofs.YtbhhkaobkdeolaaGreatDoor
open Go.RowKit
theorem Rn.cpl_le (g:Nat→Sx.Tr→Nat) (p:Sx.Tr→Nat) (h: ∀ m d,g m d≤p d) (most acc:Nat) (l:List Sx.Tr):Rn.cpl g most acc l≤acc+Sx.sum p l:=by
 induction l generalizing acc with
 |nil=>simp [Rn.cpl,Sx.sum]
 |cons d r ih=>
  simp only [Rn.cpl,Sx.sum]
  split
  ·omega
  ·have h1:=ih (acc+g (most - acc) d)
   have h2:=h (most - acc) d
   omega
theorem Rn.cpt_le (n:Nat): ∀ m d,Rn.cpt n m d≤Rn.prt n d:=by
 induction n with
 |zero=>intro m d;simp [Rn.cpt,Rn.prt]
 |succ n ih=>
  intro m d
  have:=Rn.cpl_le (Rn.cpt n) (Rn.prt n) ih m 1 (Sx.eL d)
  simp only [Rn.cpt,Rn.prt,Rn.wE_prt]
  exact this
theorem drop_nth {α:Type} {l:List α} {k:Nat} {d:α} (h:l[k]? =some d):l.drop k=d::l.drop (k+1):=by
 obtain ⟨hk,rfl⟩:=List.getElem?_eq_some_iff.mp h
 exact List.drop_eq_getElem_cons hk
def CPt (n:Nat):Prop:= ∀ (w:World) (P:Nat→Prop) (op z:Int) (nm:List UInt8) (L:List Sx.Tr) (a:Option Addr) (c m:Nat),EL w P n L (.slice a L.length c)→Sx.wE n L≤1000000000→m≤1000000000→
 Calls Tryz.prog 181 #[.agg #[.int .i64 op,.string (bs nm),.int .i64 z,.slice a L.length c],.int .i64 m] w fun e w'=>e= .returned (.int .i64 ((Rn.cpt n m (Sx.tE op nm z L):Nat):Int))∧Kp [] w w'
set_option maxRecDepth 100000 in
set_option maxHeartbeats 1000000 in
theorem countParts_step (n:Nat) (ih:CPt n):CPt (n+1):=by
 intro w P op z nm L a c m h hw hm
 have HS:=hide h
 have IH:=hide ih
 have hwE:=Rn.wE_prt n L
 have hl:L.length≤1000000000:=by have:L.length+_=Sx.wE (n+1) L:=rfl;omega
 have hsum:Sx.sum (Rn.prt n) L≤1000000000:=by omega
 clear h ih hwE
 go_enter Tryz.func181,Tryz.ntmps181
 go_wp2
 go_loopw [5,11] (fun nv iv wr=> ∃ (k acc:Nat),k≤L.length∧iv= .int .i64 k∧nv= .int .i64 (acc:Int)∧acc≤1+Sx.sum (Rn.prt n) (L.take k)∧Hid (Rn.cpt (n+1) m (Sx.tE op nm z L)=Rn.cpl (Rn.cpt n) m acc (L.drop k))∧Hid (Kp [] w wr)) (fun _ iv _=>L.length - (intOf iv).toNat)
 case atStart=>exact ⟨0,1,Nat.zero_le _,rfl,rfl,by simp,rfl,(Kp.refl _ _).alloc _⟩
 case round=>
  obtain ⟨k,acc,hk,rfl,rfl,ha,HA,HK⟩:=hrel
  by_cases hlt:k<L.length
  ·have d1:decide ((k:Int)<(L.length:Int))=true:=by simp;omega
   obtain ⟨b,off,op1,nm1,z1,L1,aL,cL,rfl,-,hd,m0,m1,m2,m3,hL⟩:=(HS.out.keep HK.out (by simp)).nth k hlt
   have hst:Sx.sum (Rn.prt n) (L.take (k+1))=Sx.sum (Rn.prt n) (L.take k)+(1+Sx.wE n L1):=Sx.sum_take (Rn.prt n) L k _ hd
   have hsl:Sx.sum (Rn.prt n) (L.take k)+(1+Sx.wE n L1)≤Sx.sum (Rn.prt n) L:=sum_nth (Rn.prt n) hd
   have HST:=hide hst
   have HDR:=hide (drop_nth hd)
   have HL:=hide hL
   have hk0:(0:Int)≤(k:Int):=by omega
   have hk1:(k:Int)<(L.length:Int):=by omega
   clear hst hL hd
   by_cases hb:m<acc
   ·have d2:decide ((m:Int)<(acc:Int))=true:=by simp;omega
    go_wp2
    go_ret
    refine ⟨?_,HK.out.alloc _⟩
    rw [HA.out,HDR.out,Rn.cpl,if_pos hb]
    rfl
   ·have d2:decide ((m:Int)<(acc:Int))=false:=by simp;omega
    have hcl:Rn.cpt n (m - acc) (Sx.tE op1 nm1 z1 L1)≤1+Sx.wE n L1:=Rn.cpt_le n _ _
    have HX:=hide (HA.out.trans (by rw [HDR.out,Rn.cpl,if_neg hb]))
    have hsub:IntKind.i64.wrap ((m:Int) - (acc:Int))=((m - acc:Nat):Int):=by simp only [IntKind.wrap_i64];omega
    go_wp2_with fail
    refine (IH.out _ P op1 z1 nm1 L1 aL cL (m - acc) (HL.out.keep ((Kp.refl [] _).alloc _) (by simp)) (by omega) (by omega)).mono ?_
    rintro e w1 ⟨rfl,hk1⟩
    have K1:=hide hk1
    clear hk1
    generalize Rn.cpt n (m - acc) (Sx.tE op1 nm1 z1 L1)=X at *
    go_wp2
    go_roundw
    case rel=>exact ⟨k+1,acc+X,by omega,by go_num,by first|(congr 1;push_cast;omega)|go_num,by rw [HST.out];omega,HX.out,(HK.out.alloc _).trans K1.out⟩
    case measure=>simp [intOf];omega
  ·obtain rfl:k=L.length:=by omega
   have d1:decide ((L.length:Int)<(L.length:Int))=false:=by simp
   go_wp2
   go_ret
   refine ⟨?_,HK.out⟩
   rw [HA.out,List.drop_length]
   rfl
theorem countParts_any (n:Nat):CPt n:=by
 induction n with
 |zero=>intro w P op z nm L a c m h;cases h
 |succ n ih=>exact countParts_step n ih
end Go.Proofs.YtbhhkaobkdeolaaGreatDoor
namespace Go.Proofs.YtbhhkaobkdeolaaGreatDoor
open Go.RowKit
end Go.Proofs.YtbhhkaobkdeolaaGreatDoor
namespace Go.Proofs.YtbhhkaobkdeolaaGreatDoor
open Go.RowKit
theorem bs0:(bs []).toList=[]:=by rw [Lib.toList_data,bs_list]
def Rn.nmE:Nat→Sx.Tr→Prop
 |0,_=>True
 |n+1,d=>(Sx.eH d).2.1.length≤1099511627776∧ ∀ (i:Nat) x,(Sx.eL d)[i]? =some x→Rn.nmE n x
def Rn.badF (op z:Int) (nm:List UInt8) (len:Nat):Prop:=op<1∨8<op∨len ≠ Rn.want op∨(z ≠ 0∧op ≠ 1)∨(nm ≠ []∧op ≠ 2)
theorem Rn.xf_bad {n:Nat} {op z:Int} {nm:List UInt8} {L:List Sx.Tr} (h:Rn.badF op z nm L.length):Rn.xf (n+1) (Sx.tE op nm z L)=5:=if_pos h
theorem Rn.xf_ok {n:Nat} {op z:Int} {nm:List UInt8} {L:List Sx.Tr} (h: ¬ Rn.badF op z nm L.length):Rn.xf (n+1) (Sx.tE op nm z L)=
  if op=2∧Tk.isN nm=false then 4 else if z<0∨1000000000000000000≤z then 3 else Rn.firstOf (Rn.xf n) L:=if_neg h
end Go.Proofs.YtbhhkaobkdeolaaGreatDoor
namespace Go.Proofs.YtbhhkaobkdeolaaGreatDoor
open Go.RowKit
end Go.Proofs.YtbhhkaobkdeolaaGreatDoor
namespace Go.Proofs.YtbhhkaobkdeolaaGreatDoor
open Go.RowKit
end Go.Proofs.YtbhhkaobkdeolaaGreatDoor
namespace Go.Proofs.YtbhhkaobkdeolaaGreatDoor
open Go.RowKit
theorem bsl (c:List UInt8):(bs c).toList=c:=by rw [Lib.toList_data,bs_list]
theorem bsz (c:List UInt8):(bs c).size=c.length:=by show c.toArray.size=_;simp
theorem bsx (c:List UInt8) (a b:Nat):((bs c).extract a b).toList=(c.drop a).take (b - a):=by rw [Lib.extract_toList,←Lib.toList_data,bsl]
theorem Rn.sides_cat (r:List UInt8) (c:UInt8):Rn.sides (r++[c])=(r.all (fun b=>b == 115 || b == 114) && c == 105):=by
 induction r with
 |nil=>simp [Rn.sides]
 |cons b r ih=>
  rw [List.cons_append,List.all_cons,Bool.and_assoc,←ih]
  cases r with
  |nil=>rfl
  |cons d r=>rfl
theorem Rn.isT_cat (r:List UInt8) (c:UInt8) (ends:Int):Rn.isT (r++[c]) ends=((r.all (fun b=>b == 115 || b == 114) && c == 105) && decide ((r.length:Int)≤ends)):=by
 have e:(((r++[c]).length:Nat):Int) - 1=(r.length:Int):=by simp
 rw [Rn.isT,Rn.sides_cat,e]
set_option maxRecDepth 100000 in
set_option maxHeartbeats 1000000 in
theorem rIsType_any (t:List UInt8) (ends:Int) (w:World) (hn:t.length≤1099511627776):
  Calls Tryz.prog 24 #[.string (bs t),.int .i64 ends] w fun e w'=>e= .returned (.bool (Rn.isT t ends))∧w'=w:=by
 rcases List.eq_nil_or_concat t with rfl|⟨r,c,rfl⟩
 ·have d1:decide ((((bs []).size:Nat):Int)<1)=true:=rfl
  go_enter Tryz.func24,Tryz.ntmps24
  go_wp2
  go_ret
  exact ⟨rfl,rfl⟩
 ·rw [List.concat_eq_append] at hn ⊢
  have hz:((bs (r++[c])).size:Int)=(r.length:Int)+1:=by rw [bsz];simp
  have hl:r.length≤1099511627776:=by simp at hn;omega
  have hw:wrap64 ((r.length:Int)+1 - 1)=(r.length:Int):=by simp only [wrap64];omega
  have d1:decide ((r.length:Int)+1<1)=false:=by simp;omega
  have hx:((bs (r++[c])).extract r.length (bs (r++[c])).size).toList=[c]:=by rw [bsx,bsz];simp
  have HT:=hide (Rn.isT_cat r c ends)
  have HX:Hid (∀ (k:Nat) b,r[k]? =some b→((bs (r++[c])).extract k (k+1)).toList=[b]):=fun k b hb=>by
   rw [bsx,show k+1 - k=1 from by omega]
   obtain ⟨hk,rfl⟩:=List.getElem?_eq_some_iff.mp hb
   rw [List.drop_append_of_le_length (by omega),List.drop_eq_getElem_cons hk]
   rfl
  clear hn
  rw [HT.out]
  generalize bs (r++[c])=s at *
  by_cases he:ends<(r.length:Int)
  ·have d2:decide (ends<(r.length:Int))=true:=by simpa using he
   rw [show decide ((r.length:Int)≤ends)=false from by simp;omega,Bool.and_false]
   go_enter Tryz.func24,Tryz.ntmps24
   go_wp2
   go_ret
   exact ⟨rfl,rfl⟩
  ·have d2:decide (ends<(r.length:Int))=false:=by simpa using he
   rw [show decide ((r.length:Int)≤ends)=true from by simp;omega,Bool.and_true]
   have z1:(0:Int)≤(r.length:Int):=by omega
   have z2:(r.length:Int)≤(r.length:Int)+1:=by omega
   by_cases hc:c=105
   ·have ec:(c == 105)=true:=by simpa using hc
    have hx':(s.extract r.length s.size).toList=[105]:=by rw [hx,hc]
    clear hx hc
    rw [ec,Bool.and_true]
    go_enter Tryz.func24,Tryz.ntmps24
    go_wp2
    go_loopw [5] (fun iv wr=> ∃ (k:Nat),k≤r.length∧iv= .int .i64 k∧Hid (r.all (fun b=>b == 115 || b == 114)=(r.drop k).all (fun b=>b == 115 || b == 114))∧wr=w) (fun iv _=>r.length - (intOf iv).toNat)
    case atStart=>exact ⟨0,Nat.zero_le _,rfl,rfl,rfl⟩
    case round=>
     obtain ⟨k,hk,rfl,HF,rfl⟩:=hrel
     by_cases hlt:k<r.length
     ·have d3:decide ((k:Int)<(r.length:Int))=true:=by simp;omega
      obtain ⟨b,hb⟩: ∃ b,r[k]? =some b:=⟨_,List.getElem?_eq_getElem hlt⟩
      have hy:=HX.out k b hb
      have HD:=hide (drop_nth hb)
      have k0:(0:Int)≤(k:Int):=by omega
      have k1:(k:Int)≤(k:Int)+1:=by omega
      have k2:(k:Int)+1≤(r.length:Int)+1:=by omega
      by_cases h1:b=115
      ·subst h1
       go_wp2
       go_roundw
       case rel=>exact ⟨k+1,by omega,by go_num,by rw [HF.out,HD.out,List.all_cons];rfl,trivial⟩
       case measure=>simp [intOf];omega
      ·by_cases h2:b=114
       ·subst h2
        go_wp2
        go_roundw
        case rel=>exact ⟨k+1,by omega,by go_num,by rw [HF.out,HD.out,List.all_cons];rfl,trivial⟩
        case measure=>simp [intOf];omega
       ·have q1:([b] == [115])=false:=by simpa using h1
        have q2:([b] == [114])=false:=by simpa using h2
        go_wp2
        go_ret
        refine ⟨?_,rfl⟩
        rw [HF.out,HD.out,List.all_cons,beq_eq_false_iff_ne.2 h1,beq_eq_false_iff_ne.2 h2]
        rfl
     ·obtain rfl:k=r.length:=by omega
      have d3:decide ((r.length:Int)<(r.length:Int))=false:=by simp
      go_wp2
      go_ret
      refine ⟨?_,rfl⟩
      rw [HF.out,List.drop_length]
      rfl
   ·have ec:(c == 105)=false:=by simpa using hc
    rw [ec,Bool.and_false]
    go_enter Tryz.func24,Tryz.ntmps24
    go_wp2
    go_ret
    exact ⟨rfl,rfl⟩
theorem Rn.kinds {d:Int} (h1:1≤d) (h2:d≤14):d=1∨d=2∨d=3∨d=4∨d=5∨d=6∨d=7∨d=8∨d=9∨d=10∨d=11∨d=12∨d=13∨d=14:=by omega
end Go.Proofs.YtbhhkaobkdeolaaGreatDoor
namespace Go.Proofs.YtbhhkaobkdeolaaGreatDoor.Kn
open Go.Proofs.YtbhhkaobkdeolaaGreatDoor Go.Proofs.YtbhhkaobkdeolaaGreatDoor.Sx
abbrev Nv:=List UInt8 × List UInt8
def typ:List Nv→List UInt8→List UInt8
 |[],_=>[]
 |v::r,nm=>if v.1=nm then v.2 else typ r nm
def isIn (bd:List Nv) (nm:List UInt8):Bool:=bd.any fun v=>v.1 == nm
def mst (ns:List Nv) (nm:List UInt8) (b:UInt8):Int:=if typ ns nm=[] then 10 else if (typ ns nm).head? ≠ some b then 11 else 0
def abv:List Tr→List UInt8→Option Tr
 |[],_=>none
 |g::r,nm=>if gN g=nm then some g else abv r nm
def used (t:Tr):Option (List UInt8 × UInt8):=
 let (d,A,B,_,_):=sH t
 if d=5 then some (B,115) else if d=6∨d=7 then some (A,115) else if d=8∨d=9 then some (A,114) else if d=11∨d=12 then some (B,114) else if d=2 then some (A,105) else none
def usedF (ns:List Nv) (t:Tr):Int:=match used t with
 |some (nm,b)=>mst ns nm b
 |none=>0
structure St where
 ns:List Nv
 bd:List Nv
 at':Nat
def twiceP:List Nv→List Nv→Bool
 |_,[]=>false
 |bd,v::r=>isIn bd v.1 || twiceP (bd++[v]) r
def isMain (g:Tr):Bool:=gN g == [109,97,105,110] && match gP g with
 |[p]=>(pH p).2 == [114,105]
 |_=>false
end Go.Proofs.YtbhhkaobkdeolaaGreatDoor.Kn
namespace Go.Proofs.YtbhhkaobkdeolaaGreatDoor
open Go.RowKit
def VR (w:World) (v:Value) (l:List Kn.Nv):Prop:=
 ∃ a c,v= .slice a l.length c∧(l ≠ []→ ∃ g o,a=some ⟨g,o,none⟩∧ ∀ (k:Nat) x,l[k]? =some x→w.cell? ⟨g,o+k * 2,none⟩=some (.string (bs x.1))∧w.cell? ⟨g,o+k * 2+1,none⟩=some (.string (bs x.2)))
def vcells (l:List Kn.Nv):List Value:=l.flatMap fun x=>[.string (bs x.1),.string (bs x.2)]
theorem vcells_app (a b:List Kn.Nv):vcells (a++b)=vcells a++vcells b:=by simp [vcells]
theorem vcells_get (l:List Kn.Nv) (k:Nat) (x:Kn.Nv) (h:l[k]? =some x):(vcells l)[k * 2]? =some (.string (bs x.1))∧(vcells l)[k * 2+1]? =some (.string (bs x.2)):=by
 induction l generalizing k with
 |nil=>cases h
 |cons y r ih=>
  match k,h with
  |0,h=>simp only [List.getElem?_cons_zero,Option.some.injEq] at h;subst h;exact ⟨rfl,rfl⟩
  |k+1,h=>
   have:=ih k (by simpa using h)
   have e1:(k+1) * 2=k * 2+1+1:=by omega
   rw [e1]
   exact this
end Go.Proofs.YtbhhkaobkdeolaaGreatDoor
namespace Go.Proofs.YtbhhkaobkdeolaaGreatDoor
open Go.RowKit Go.Maps Go.ChangeMaps
theorem Tryz.keyedS:Keyed Tryz.prog 9:=string_keyed Tryz.underlying9
theorem Tryz.lawS:WideMaps.KeyLaw Tryz.prog 9:=WideMaps.string_law Tryz.underlying9
def heldE (v:Value):Option (DataW Value × List MemPlace):=some (.held v,[])
def MV (w:World) (b m:Nat) (f:List UInt8→Option Value):Prop:=
 ∃ D:DataW Value,w.ownsMap Tryz.prog 9 heldE b m D∧ ∀ nm:List UInt8,Maps.has D (.string nm)=(f nm).isSome∧ ∀ v,f nm=some v→ ∀ z,D.atKey (.string nm) z= .held v
theorem MV.of_block {w w':World} {b m:Nat} {f:List UInt8→Option Value} (h:MV w b m f) (e:w'.heap[b]? =w.heap[b]?):MV w' b m f:=by
 obtain ⟨D,⟨es,cl,h1,h2⟩,hv⟩:=h
 exact ⟨D,⟨es,cl,e.trans h1,h2⟩,hv⟩
theorem MV.lt {w:World} {b m:Nat} {f:List UInt8→Option Value} (h:MV w b m f):b<w.heap.size:=by
 obtain ⟨D,ho,_⟩:=h
 exact ho.lt
theorem MV.made (w:World):MV (w.alloc (.map #[] 0)) w.heap.size 0 (fun _=>none):=
 ⟨.map [],World.ownsMap_made w _ _ _,fun nm=>⟨rfl,fun v h=>by cases h⟩⟩
theorem MV.no_cell {w:World} {b m:Nat} {f:List UInt8→Option Value} (h:MV w b m f) (k:Nat) (v:Value):w.cell? ⟨b,k,none⟩ ≠ some v:=by
 obtain ⟨D,⟨es,cl,h1,_⟩,_⟩:=h
 intro e
 simp [World.cell?,h1] at e
theorem keyS (nm:List UInt8) (hl:nm.length≤1000000):keyOf Tryz.prog 9 (.string (bs nm))=some (.string nm):=by
 have:=WideMaps.keyOf_string_mk (P:=Tryz.prog) (s:=bs nm) Tryz.underlying9 (by rw [bsz];unfold maxLen;omega)
 rw [this]
 rfl
theorem MV.at {f:List UInt8→Option Value} {D:DataW Value} (hv: ∀ nm:List UInt8,Maps.has D (.string nm)=(f nm).isSome∧ ∀ v,f nm=some v→ ∀ z,D.atKey (.string nm) z= .held v) (nm:List UInt8) (z:Value):D.atKey (.string nm) (.held z)= .held ((f nm).getD z):=by
 cases hf:f nm with
 |some v=>exact (hv nm).2 v hf _
 |none=>
  have h0:=(hv nm).1
  rw [hf] at h0
  exact atKey_of_not_has h0 _
theorem MV.look {w:World} {b m:Nat} {f:List UInt8→Option Value} (h:MV w b m f) (nm:List UInt8) (hl:nm.length≤1000000) {t e:TypeId} (ht:Tryz.prog.underlying t=some (.map 9 e)) {z:Value} (hz:(zeroValue e).run Tryz.prog w= .ok z w):
  (Instr.lookup t (.map (some b)) (.string (bs nm)) true).run Tryz.prog w= .ok (.tuple #[(f nm).getD z,.bool (f nm).isSome]) w:=by
 obtain ⟨D,ho,hv⟩:=h
 obtain ⟨v,ps,hrun,hR⟩:=ho.look_ok Tryz.keyedS ht hz (zd:= .held z) (zp:=[]) rfl (keyS nm hl)
 have e1:=MV.at hv nm z
 rw [e1] at hR
 simp only [heldE,Option.some.injEq,Prod.mk.injEq,DataW.held.injEq] at hR
 rw [hrun,hR.1,(hv nm).1]
theorem MV.look0 {w:World} {b m:Nat} {f:List UInt8→Option Value} (h:MV w b m f) (nm:List UInt8) (hl:nm.length≤1000000) {t e:TypeId} (ht:Tryz.prog.underlying t=some (.map 9 e)) {z:Value} (hz:(zeroValue e).run Tryz.prog w= .ok z w):
  (Instr.lookup t (.map (some b)) (.string (bs nm)) false).run Tryz.prog w= .ok ((f nm).getD z) w:=by
 obtain ⟨D,ho,hv⟩:=h
 obtain ⟨v,ps,hrun,hR⟩:=ho.lookup Tryz.keyedS ht hz (zd:= .held z) (zp:=[]) rfl (keyS nm hl)
 have e1:=MV.at hv nm z
 rw [e1] at hR
 simp only [heldE,Option.some.injEq,Prod.mk.injEq,DataW.held.injEq] at hR
 rw [hrun,hR.1]
def upd (f:List UInt8→Option Value) (nm:List UInt8) (v:Value):List UInt8→Option Value:=fun x=>if x=nm then some v else f x
def del (f:List UInt8→Option Value) (nm:List UInt8):List UInt8→Option Value:=fun x=>if x=nm then none else f x
theorem isKeyS (nm:List UInt8):WideAt.IsKeyLit (.string nm):=by simp [WideAt.IsKeyLit]
theorem lit_ne {a b:List UInt8} (h:a ≠ b):Lit.string a ≠ Lit.string b:=fun e=>h (by injection e)
theorem MV.view_upd {f:List UInt8→Option Value} {D:DataW Value} (hD:IsMap D) (hv: ∀ nm:List UInt8,Maps.has D (.string nm)=(f nm).isSome∧ ∀ v,f nm=some v→ ∀ z,D.atKey (.string nm) z= .held v) (x:List UInt8) (u:Value):
  ∀ nm:List UInt8,Maps.has (D.put (.string x) (.held u)) (.string nm)=(upd f x u nm).isSome∧ ∀ v,upd f x u nm=some v→ ∀ z,(D.put (.string x) (.held u)).atKey (.string nm) z= .held v:=by
 intro nm
 by_cases h:nm=x
 ·subst h
  refine ⟨by rw [has_put_same hD (isKeyS _)];simp [upd],fun v hv z=> ?_⟩
  simp only [upd,if_true,Option.some.injEq] at hv
  subst hv
  exact atKey_put_same hD (isKeyS _) _ _
 ·have e:upd f x u nm=f nm:=if_neg h
  rw [e,has_put_other (lit_ne h)]
  refine ⟨(hv nm).1,fun v hf z=> ?_⟩
  rw [atKey_put_other (lit_ne h)]
  exact (hv nm).2 v hf z
theorem MV.view_del {f:List UInt8→Option Value} {D:DataW Value} (hv: ∀ nm:List UInt8,Maps.has D (.string nm)=(f nm).isSome∧ ∀ v,f nm=some v→ ∀ z,D.atKey (.string nm) z= .held v) (x:List UInt8):
  ∀ nm:List UInt8,Maps.has (D.del (.string x)) (.string nm)=(del f x nm).isSome∧ ∀ v,del f x nm=some v→ ∀ z,(D.del (.string x)).atKey (.string nm) z= .held v:=by
 intro nm
 by_cases h:nm=x
 ·subst h
  refine ⟨by rw [has_del_same];simp [del],fun v hv z=> ?_⟩
  simp [del] at hv
 ·have e:del f x nm=f nm:=if_neg h
  rw [e,has_del_other (lit_ne h)]
  refine ⟨(hv nm).1,fun v hf z=> ?_⟩
  rw [atKey_del_other (lit_ne h)]
  exact (hv nm).2 v hf z
theorem MV.store {w:World} {b m:Nat} {f:List UInt8→Option Value} (h:MV w b m f) (nm:List UInt8) (hl:nm.length≤1000000) (u:Value) (hm:m≤1000000) {t e:TypeId} (ht:Tryz.prog.underlying t=some (.map 9 e)):
  ∃ o,(Instr.mapUpdate t (.map (some b)) (.string (bs nm)) u).run Tryz.prog w= .ok () (setBlock w b o)∧MV (setBlock w b o) b (m+1) (upd f nm u):=by
 obtain ⟨D,ho,hv⟩:=h
 obtain ⟨w',hrun,h1,es,cl,es',cl',-,rfl⟩:=ho.store Tryz.keyedS ht (by unfold maxLen;omega) (keyS nm hl) (val:=u) (d:= .held u) (ps:=[]) rfl
 exact ⟨_,hrun,_,h1,MV.view_upd ho.isMap hv nm u⟩
theorem MV.drop {w:World} {b m:Nat} {f:List UInt8→Option Value} (h:MV w b m f) (nm:List UInt8) (hl:nm.length≤1000000) {t e:TypeId} (ht:Tryz.prog.underlying t=some (.map 9 e)) (ty:TypeId):
  ∃ o,(Builtin.delete_ #[t,9] ty #[.map (some b),.string (bs nm)]).run Tryz.prog w= .ok (.tuple #[]) (setBlock w b o)∧MV (setBlock w b o) b m (del f nm):=by
 obtain ⟨D,ho,hv⟩:=h
 obtain ⟨w',hrun,h1,es,cl,es',cl',-,rfl⟩:=ho.drop Tryz.keyedS ht (keyS nm hl) ty
 exact ⟨_,hrun,_,h1,MV.view_del hv nm⟩
theorem MV.entry {w:World} {b m:Nat} {f:List UInt8→Option Value} (h:MV w b m f) (nm:List UInt8) (hl:nm.length≤1000000) (hm:m≤1000000) {t e:TypeId} (ht:Tryz.prog.underlying t=some (.map 9 e)) {z:Value} (hz: ∀ u:World,(zeroValue e).run Tryz.prog u= .ok z u):
  ∃ (v0:Value) (st:Nat) (o:Obj),(Instr.mapEntry t (.map (some b)) (.string (bs nm))).run Tryz.prog w= .ok (.tuple #[v0,goInt st]) (setBlock w b o)∧
    ∀ (u:Value) (w2:World),w2.heap[b]? =some o→ ∃ o',(Instr.entryStore t (.map (some b)) (goInt st) u).run Tryz.prog w2= .ok () (setBlock w2 b o')∧MV (setBlock w2 b o') b (m+1) (upd f nm u):=by
 have h':=h
 obtain ⟨D,⟨es,cl,hb,F,-,rfl⟩,-⟩:=h'
 obtain ⟨v0,st,es1,cl1,hrun,-,hst⟩:=WideElems.entry_then_store Tryz.lawS ht hz hb F (keyS nm hl)
 refine ⟨v0,st,.map es1 cl1,hrun,fun u w2 hw2=> ?_⟩
 obtain ⟨es',cl',h1,h2⟩:=hst w2 u hw2
 refine ⟨_,h1,?_⟩
 obtain ⟨o,h3,h4⟩:=h.store nm hl u hm ht
 rw [h2] at h3
 injection h3 with _ h3
 rw [←h3] at h4
 refine h4.of_block ?_
 rw [heap_setBlock_same hw2,heap_setBlock_same hb]
end Go.Proofs.YtbhhkaobkdeolaaGreatDoor
namespace Go.Proofs.YtbhhkaobkdeolaaGreatDoor
open Go.RowKit
theorem vr_own {w:World} {B:Nat} {v:Value} {l:List Kn.Nv} (h:w.ownsRow B 57 2 v l.length (vcells l)):VR w v l:=by
 rcases h.2 with ⟨hv,h0⟩|⟨g,cap,cur,hv,hb,hg,hnc,hcm,_,_⟩
 ·refine ⟨none,0,by rw [hv,h0],fun hn=> ?_⟩
  exact absurd (List.length_eq_zero_iff.1 h0) hn
 ·refine ⟨_,cap,hv,fun _=>⟨g,0,rfl,fun k x hx=> ?_⟩⟩
  obtain ⟨e1,e2⟩:=vcells_get l k x hx
  have f1:=h.cells (g:=g) (by rw [hv];rfl) _ _ e1
  have f2:=h.cells (g:=g) (by rw [hv];rfl) _ _ e2
  have ea: ∀ j:Nat,(⟨g,0,none⟩:Addr).add j=⟨g,j,none⟩:=fun j=>by unfold Addr.add;split<;> simp_all
  rw [ea] at f1 f2
  rw [Nat.zero_add]
  exact ⟨f1,f2⟩
theorem own_keepv {B e z:Nat} {w w':World} {v:Value} {n:Nat} {xs:List Value} (h:w.ownsRow B e z v n xs) (hk: ∀ g,v.ownBlock=some g→w'.heap[g]? =w.heap[g]?):w'.ownsRow B e z v n xs:=by
 refine ⟨h.1,h.2.imp id ?_⟩
 rintro ⟨g,cap,cur,e1,e2,e3,e4⟩
 exact ⟨g,cap,cur,e1,e2,by rw [hk g (by rw [e1];rfl)];exact e3,e4⟩
theorem Tryz.infoVar:(Tryz.prog.info? 57).map (fun i=>(i.zero,i.size,i.bytes))=some (some (.agg #[.string ⟨#[]⟩,.string ⟨#[]⟩]),2,32):=by kernel_rfl
theorem vcells_new (w:World) (x y:Value) (t:TypeId): ∀ j u,[x,y][j]? =some u→(w.alloc (.cells #[x,y] t)).cell? ((⟨w.heap.size,0,none⟩:Addr).add j)=some u:=by
 intro j u hu
 match j,hu with
 |0,hu=>simp at hu;subst hu;simp [go_sem,Addr.add]
 |1,hu=>simp at hu;subst hu;simp [go_sem,Addr.add]
end Go.Proofs.YtbhhkaobkdeolaaGreatDoor
