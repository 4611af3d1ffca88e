import Derived.Test.YtcdcoiobpbdmpaaGreatDoorMaa
import Derived.Lib.ItoaNum
import Derived.Test.YtcdcoiobpbdmpaaGreatDoorMac
import Derived.Test.YtcdcoiobpbdmpaaGreatDoorMad
import Derived.Deep.RegionHeldLaw
import Derived.Deep.RegionHeld3
import Derived.BigQuiet
import Derived.Deep.AppendLies
namespace Go.Proofs.YtcdcoiobpbdmpaaGreatDoor.Sx
open Go.Proofs.YtcdcoiobpbdmpaaGreatDoor.Tk
def eL:Tr→List Tr
 | .agg [_,_,_,.agg L]=>L
 |_=>[]
def eH:Tr→Int × List UInt8 × Int
 | .agg [.lit (.int _ op),.lit (.string nm),.lit (.int _ k),_]=>(op,nm,k)
 |_=>(0,[],0)
def sH:Tr→Int × List UInt8 × List UInt8 × List UInt8 × Int
 | .agg [.lit (.int _ d),_,.lit (.string A),.lit (.string B),.lit (.string T),.lit (.int _ n),_,_,_]=>(d,A,B,T,n)
 |_=>(0,[],[],[],0)
def sE:Tr→List Tr
 | .agg [_,_,_,_,_,_,.agg E,_,_]=>E
 |_=>[]
def sB:Tr→List Tr
 | .agg [_,_,_,_,_,_,_,.agg b,_]=>b
 |_=>[]
def sO:Tr→List Tr
 | .agg [_,_,_,_,_,_,_,_,.agg o]=>o
 |_=>[]
def gN:Tr→List UInt8
 | .agg [.lit (.string nm),_,_,_]=>nm
 |_=>[]
def gP:Tr→List Tr
 | .agg [_,_,.agg ps,_]=>ps
 |_=>[]
def gB:Tr→List Tr
 | .agg [_,_,_,.agg b]=>b
 |_=>[]
def pH:Tr→List UInt8 × List UInt8
 | .agg [.lit (.string nm),.lit (.string T)]=>(nm,T)
 |_=>([],[])
def sum (f:Tr→Nat):List Tr→Nat
 |[]=>0
 |d::r=>f d+sum f r
theorem sum_take (f:Tr→Nat) (l:List Tr) (i:Nat) (d:Tr) (h:l[i]? =some d):sum f (l.take (i+1))=sum f (l.take i)+f d:=by
 induction l generalizing i with
 |nil=>simp at h
 |cons x r ih=>
  cases i with
  |zero=>simp at h;subst h;simp [sum]
  |succ i=>
   have:=ih i (by simpa using h)
   simp only [List.take_succ_cons,sum]
   rw [this]
   omega
theorem sum_take_le (f:Tr→Nat) (l:List Tr) (i:Nat):sum f (l.take i)≤sum f l:=by
 induction l generalizing i with
 |nil=>simp
 |cons x r ih=>
  cases i with
  |zero=>simp [sum]
  |succ i=>have:=ih i;simp only [List.take_succ_cons,sum];omega
def cnt:Nat→List Tr→Nat
 |0,_=>0
 |n+1,l=>l.length+sum (fun d=>cnt n (sB d)+cnt n (sO d)) l
def cntG (n:Nat) (l:List Tr):Nat:=sum (fun d=>cnt n (gB d)) l
def wE:Nat→List Tr→Nat
 |0,_=>0
 |n+1,l=>l.length+sum (fun d=>wE n (eL d)) l
def wS:Nat→List Tr→Nat
 |0,_=>0
 |n+1,l=>l.length+sum (fun d=>wE n (sE d)+wS n (sB d)+wS n (sO d)) l
def wG (n:Nat) (l:List Tr):Nat:=sum (fun d=>wS n (gB d)) l
end Go.Proofs.YtcdcoiobpbdmpaaGreatDoor.Sx
namespace Go.Proofs.YtcdcoiobpbdmpaaGreatDoor.Rn
open Go.Proofs.YtcdcoiobpbdmpaaGreatDoor Go.Proofs.YtcdcoiobpbdmpaaGreatDoor.Sx
def sides:List UInt8→Bool
 |[]=>false
 |[b]=>b == 105
 |b::r=>(b == 115 || b == 114) && sides r
def isT (t:List UInt8) (ends:Int):Bool:=sides t && decide ((t.length:Int) - 1≤ends)
def prt (n:Nat) (d:Tr):Nat:=1+wE n (eL d)
theorem wE_prt (n:Nat) (l:List Tr):wE (n+1) l=sum (prt n) l:=by
 show l.length+sum (fun d=>wE n (eL d)) l=_
 induction l with
 |nil=>rfl
 |cons d r ih=>simp only [sum,prt,List.length_cons] at ih ⊢;omega
def cpl (g:Nat→Tr→Nat) (most:Nat):Nat→List Tr→Nat
 |acc,[]=>acc
 |acc,d::r=>if most<acc then acc else cpl g most (acc+g (most - acc) d) r
def cpt:Nat→Nat→Tr→Nat
 |0,_,_=>1
 |n+1,most,d=>cpl (cpt n) most 1 (eL d)
theorem cpl_ge (g:Nat→Tr→Nat) (most acc:Nat) (l:List Tr):acc≤cpl g most acc l:=by
 induction l generalizing acc with
 |nil=>exact Nat.le_refl _
 |cons d r ih=>
  simp only [cpl]
  split
  ·exact Nat.le_refl _
  ·have:=ih (acc+g (most - acc) d);omega
theorem cpl_is (g:Nat→Tr→Nat) (p:Tr→Nat) (h: ∀ m d,(p d≤m→g m d=p d)∧(m<p d→m<g m d)) (most acc:Nat) (l:List Tr):
  (acc+sum p l≤most→cpl g most acc l=acc+sum p l)∧(most<acc+sum p l→most<cpl g most acc l):=by
 induction l generalizing acc with
 |nil=>simp only [cpl,sum];omega
 |cons d r ih=>
  simp only [cpl,sum]
  have hd:=h (most - acc) d
  have hi:=ih (acc+g (most - acc) d)
  have hge:=cpl_ge g most (acc+g (most - acc) d) r
  by_cases ha:most<acc
  ·rw [if_pos ha];omega
  ·rw [if_neg ha]
   by_cases hp:p d≤most - acc
   ·have e:=hd.1 hp
    rw [e] at hi ⊢
    refine ⟨fun hh=> ?_,fun hh=>hi.2 (by omega)⟩
    rw [hi.1 (by omega)];omega
   ·have e:=hd.2 (by omega)
    refine ⟨fun hh=>by omega,fun _=>by omega⟩
theorem cpt_is (n:Nat): ∀ m d,(prt n d≤m→cpt n m d=prt n d)∧(m<prt n d→m<cpt n m d):=by
 induction n with
 |zero=>intro m d;simp [prt,cpt,wE]
 |succ n ih=>
  intro m d
  have:=cpl_is (cpt n) (prt n) ih m 1 (eL d)
  simp only [prt,cpt]
  rw [wE_prt]
  exact this
theorem cpt_lt (n m:Nat) (d:Tr):m<cpt n m d ↔ m<prt n d:=by
 have:=cpt_is n m d
 constructor
 ·intro h;apply Nat.lt_of_not_le;intro hp;have:=this.1 hp;omega
 ·exact this.2
def firstOf {α:Type} (g:α→Int):List α→Int
 |[]=>0
 |d::r=>if g d ≠ 0 then g d else firstOf g r
def want (op:Int):Nat:=if op=1∨op=2 then 0 else if op=3 then 1 else 2
def xf:Nat→Tr→Int
 |0,_=>0
 |n+1,d=>
  let (op,nm,k):=eH d
  if op<1∨8<op∨(eL d).length ≠ want op∨(k ≠ 0∧op ≠ 1)∨(nm ≠ []∧op ≠ 2) then 5
  else if op=2∧Tk.isN nm=false then 4
  else if k<0∨1000000000000000000≤k then 3
  else firstOf (xf n) (eL d)
def ef (n:Nat) (d:Tr):Int:=if 20<prt n d then 8 else xf n d
def hasA (d:Int):Bool:=d !=3 && d !=13 && d !=14
def hasB (d:Int):Bool:=d == 4 || d == 5 || d == 11 || d == 12
def hasT (d:Int):Bool:=d == 4
def hasS (d:Int):Bool:=decide (11≤d)
def hasO (d:Int):Bool:=d == 11 || d == 14
def fewE (d:Int):Nat:=if d=1∨d=2∨d=3∨d=6∨d=13∨d=14 then 1 else 0
def formed (t:Tr):Bool:=
 let (d,A,B,T,k):=sH t
 decide (1≤d) && decide (d≤14) && (hasA d || A == []) && (hasB d || B == []) && (hasT d || T == []) && (hasT d || k == 0) &&
  (hasS d || (sB t).isEmpty) && (hasO d || (sO t).isEmpty) && (d == 10 || (sE t).length == fewE d)
def sf (n:Nat) (deep:Nat) (t:Tr):Int:=
 let (d,A,B,T,k):=sH t
 if formed t=false then 5
 else if 6<(sE t).length then 8
 else if (hasA d=true∧Tk.isN A=false)∨(hasB d=true∧Tk.isN B=false) then 4
 else if hasT d=true∧isT T 3=false then 11
 else if k<0∨1000000000000000000≤k then 14
 else if firstOf (ef n) (sE t) ≠ 0 then firstOf (ef n) (sE t)
 else if hasS d=true∧8≤deep then 7 else 0
abbrev Bf:=Sum Nat (Int × Int)
def thn (m:Bf) (k:Nat→Bf):Bf:=match m with
 | .inl a=>k a
 | .inr f=> .inr f
def goS (g:Nat→Tr→Bf):Nat→List Tr→Bf
 |a,[]=> .inl a
 |a,t::r=>thn (g a t) fun b=>goS g b r
def bf:Nat→Nat→Nat→List Tr→Bf
 |0,_,a,_=> .inl a
 |n+1,deep,a,l=>goS (fun a t=>
   if 300≤a then .inr (8,a) else if sf n deep t ≠ 0 then .inr (sf n deep t,a)
   else thn (bf n (deep+1) (a+1) (sB t)) fun b=>bf n (deep+1) b (sO t)) a l
def hf (g:Tr):Int:=
 if Tk.isN (gN g)=false then 4 else if 6<(gP g).length then 8
 else firstOf (fun p=>if Tk.isN (pH p).1=false then 4 else if isT (pH p).2 3=false then 11 else 0) (gP g)
def gf (n:Nat):Nat→Nat→List Tr→Bf
 |_,a,[]=> .inl a
 |i,a,g::r=>if hf g ≠ 0 then .inr (hf g,-2 - (i:Int)) else thn (bf n 1 a (gB g)) fun b=>gf n (i+1) b r
def pf (n:Nat) (l:List Tr):Int × Int:=
 if l.length=0 then (10,-1) else if 10<l.length then (8,-1) else match gf n 0 0 l with
  | .inl _=>(0,0)
  | .inr f=>f
def digs (k:Int):List UInt8:=Lib.itoa k
def tyw:List UInt8→List UInt8
 |[]=>[]
 |b::r=>(if b=115 then [115,101,110,100,32] else if b=114 then [114,101,99,118,32] else [105,110,116])++tyw r
def holds (op:Int):Nat:=if op=7∨op=8 then 0 else if op=4∨op=5 then 1 else if op=6 then 2 else 3
def sign (op:Int):List UInt8:=if op=4 then [32,43,32] else if op=5 then [32,45,32] else if op=6 then [32,42,32] else if op=7 then [32,60,32] else [32,61,61,32]
def lft (op:Int):Nat:=if holds op=0 then 1 else holds op
def brk (b:Bool) (x:List UInt8):List UInt8:=if b then [40]++x++[41] else x
def xt:Nat→Nat→Tr→List UInt8
 |0,_,_=>[]
 |n+1,must,d=>
  let (op,nm,k):=eH d
  brk (decide (holds op<must)) (if op=1 then digs k else if op=2 then nm else if op=3 then [45]++xt n 3 ((eL d).headD d0)
   else xt n (lft op) ((eL d).headD d0)++sign op++xt n (holds op+1) ((eL d).tail.headD d0))
def com:List (List UInt8)→List UInt8
 |[]=>[]
 |[x]=>x
 |x::r=>x++[44,32]++com r
def tabs (k:Nat):List UInt8:=List.replicate k 9
def ahead (n:Nat) (t:Tr):List UInt8:=
 let (d,A,B,T,k):=sH t
 let E:=com ((sE t).map (xt n 0))
 if d=1 then [108,101,116,32]++A++[32,61,32]++E++[59]
 else if d=2 then [115,101,116,32]++A++[32,61,32]++E++[59]
 else if d=3 then [101,109,105,116,32]++E++[59]
 else if d=4 then [99,104,97,110,32]++A++[32]++B++[32]++tyw T++[32]++digs k++[59]
 else if d=5 then [99,108,111,110,101,32]++A++[32]++B++[59]
 else if d=6 then [115,101,110,100,32]++A++[32]++E++[59]
 else if d=7 then [99,108,111,115,101,32]++A++[59]
 else if d=8 then [97,98,97,110,100,111,110,32]++A++[59]
 else if d=9 then [100,114,97,105,110,32]++A++[59]
 else if d=10 then [115,112,97,119,110,32]++A++[40]++E++[41,59]
 else if d=11 then [116,97,107,101,32]++A++[32,102,114,111,109,32]++B++[32]
 else if d=12 then [102,111,114,32]++A++[32,102,114,111,109,32]++B++[32]
 else if d=13 then [114,101,112,101,97,116,32]++E++[32]
 else [105,102,32]++E++[32]
def cat (g:Tr→List UInt8):List Tr→List UInt8
 |[]=>[]
 |t::r=>g t++cat g r
def blt:Nat→Nat→List Tr→List UInt8
 |0,_,_=>[]
 |n+1,k,l=>[123,10]++cat (fun t=>tabs (k+1)++ahead n t++
   (if hasS (sH t).1 then blt n (k+1) (sB t)++(if (sO t).isEmpty then [] else [32,101,108,115,101,32]++blt n (k+1) (sO t)) else [])++[10]) l++tabs k++[125]
def stt (n:Nat) (g:Tr):List UInt8:=
 [115,116,97,103,101,32]++gN g++[40]++com ((gP g).map fun p=>(pH p).1++[32]++tyw (pH p).2)++[41,32]++blt n 0 (gB g)++[10]
def pt (n:Nat) (l:List Tr):List UInt8:=cat (stt n) l
def told (n:Nat) (l:List Tr):Int × Int:=if (pf n l).1 ≠ 0 then pf n l else if 12000<(pt n l).length then (1,-1) else (0,0)
theorem cat_append (g:Tr→List UInt8) (l m:List Tr):cat g (l++m)=cat g l++cat g m:=by
 induction l with
 |nil=>rfl
 |cons t r ih=>simp only [List.cons_append,cat,ih,List.append_assoc]
end Go.Proofs.YtcdcoiobpbdmpaaGreatDoor.Rn
namespace Go.Proofs.YtcdcoiobpbdmpaaGreatDoor
open Go.RowKit
theorem RS_len {w:World} {P:Nat→Prop} {n:Nat} (d:Sx.Tr) (c:List Value) (h:RS w P n d c):c.length=9:=by
 obtain ⟨D,at',A,B,T,N,E,body,els,uE,uB,uL,_,rfl,_⟩:=h
 rfl
theorem RG_len {w:World} {P:Nat→Prop} {n:Nat} (d:Sx.Tr) (c:List Value) (h:RG w P n d c):c.length=4:=by
 obtain ⟨nm,at',ps,body,uP,uB,_,rfl,_⟩:=h
 rfl
theorem SL.nth {w:World} {P:Nat→Prop} {n:Nat} {l:List Sx.Tr} {a:Option Addr} {cap:Nat} (h:SL w P (n+1) l (.slice a l.length cap)) (i:Nat) (hi:i<l.length):
  ∃ b off D at' A B T N E body els uE uB uL,a=some ⟨b,off,none⟩∧P b∧l[i]? =some (Sx.tS D at' A B T N E body els)∧
    w.cell? ⟨b,off+i * 9,none⟩=some (.int .i64 D)∧w.cell? ⟨b,off+i * 9+1,none⟩=some (.int .i64 at')∧w.cell? ⟨b,off+i * 9+2,none⟩=some (.string (bs A))∧
    w.cell? ⟨b,off+i * 9+3,none⟩=some (.string (bs B))∧w.cell? ⟨b,off+i * 9+4,none⟩=some (.string (bs T))∧w.cell? ⟨b,off+i * 9+5,none⟩=some (.int .i64 N)∧
    w.cell? ⟨b,off+i * 9+6,none⟩=some uE∧w.cell? ⟨b,off+i * 9+7,none⟩=some uB∧w.cell? ⟨b,off+i * 9+8,none⟩=some uL∧EL w P n E uE∧SL w P n body uB∧SL w P n els uL:=by
 rw [SL_succ] at h
 obtain ⟨a',cap',hv,h⟩:=h
 cases hv
 rcases h with h|⟨b,off,cs,ha,hb,hr,hc⟩
 ·subst h;simp at hi
 ·obtain ⟨c,hR,hcu⟩:=hr.at RS_len i _ (List.getElem?_eq_getElem hi)
  obtain ⟨D,at',A,B,T,N,E,body,els,uE,uB,uL,hd,rfl,h1,h2,h3⟩:=hR
  have hx:=fun j u hu=>hc _ u (hcu j u hu)
  simp only [←Nat.add_assoc] at hx
  exact ⟨b,off,D,at',A,B,T,N,E,body,els,uE,uB,uL,ha,hb,by rw [List.getElem?_eq_getElem hi,hd],hx 0 _ rfl,hx 1 _ rfl,hx 2 _ rfl,hx 3 _ rfl,hx 4 _ rfl,hx 5 _ rfl,hx 6 _ rfl,hx 7 _ rfl,hx 8 _ rfl,h1,h2,h3⟩
theorem GL.nth {w:World} {P:Nat→Prop} {n:Nat} {l:List Sx.Tr} {a:Option Addr} {cap:Nat} (h:Sl (RG w P n) w P l (.slice a l.length cap)) (i:Nat) (hi:i<l.length):
  ∃ b off nm at' ps body uP uB,a=some ⟨b,off,none⟩∧P b∧l[i]? =some (Sx.tG nm at' ps body)∧
    w.cell? ⟨b,off+i * 4,none⟩=some (.string (bs nm))∧w.cell? ⟨b,off+i * 4+1,none⟩=some (.int .i64 at')∧w.cell? ⟨b,off+i * 4+2,none⟩=some uP∧
    w.cell? ⟨b,off+i * 4+3,none⟩=some uB∧Sl RP w P ps uP∧SL w P n body uB:=by
 obtain ⟨a',cap',hv,h⟩:=h
 cases hv
 rcases h with h|⟨b,off,cs,ha,hb,hr,hc⟩
 ·subst h;simp at hi
 ·obtain ⟨c,hR,hcu⟩:=hr.at RG_len i _ (List.getElem?_eq_getElem hi)
  obtain ⟨nm,at',ps,body,uP,uB,hd,rfl,h1,h2⟩:=hR
  have hx:=fun j u hu=>hc _ u (hcu j u hu)
  simp only [←Nat.add_assoc] at hx
  exact ⟨b,off,nm,at',ps,body,uP,uB,ha,hb,by rw [List.getElem?_eq_getElem hi,hd],hx 0 _ rfl,hx 1 _ rfl,hx 2 _ rfl,hx 3 _ rfl,h1,h2⟩
end Go.Proofs.YtcdcoiobpbdmpaaGreatDoor
namespace Go.Proofs.YtcdcoiobpbdmpaaGreatDoor
open Go.RowKit
theorem EL.nth {w:World} {P:Nat→Prop} {n:Nat} {l:List Sx.Tr} {a:Option Addr} {cap:Nat} (h:EL w P (n+1) l (.slice a l.length cap)) (i:Nat) (hi:i<l.length):
  ∃ b off op nm k L aL cL,a=some ⟨b,off,none⟩∧P b∧l[i]? =some (Sx.tE op nm k L)∧w.cell? ⟨b,off+i * 4,none⟩=some (.int .i64 op)∧w.cell? ⟨b,off+i * 4+1,none⟩=some (.string (bs nm))∧
      w.cell? ⟨b,off+i * 4+2,none⟩=some (.int .i64 k)∧w.cell? ⟨b,off+i * 4+3,none⟩=some (.slice aL L.length cL)∧EL w P n L (.slice aL L.length cL):=by
 obtain ⟨a',cap',hv,h⟩:=h
 cases hv
 rcases h with h|⟨b,off,ha,hb,hc⟩
 ·subst h;simp at hi
 ·obtain ⟨op,nm,k,L,u,hd,h1,h2,h3,h4,h5⟩:=hc i _ (List.getElem?_eq_getElem hi)
  obtain ⟨aL,cL,rfl⟩:=h5.slice
  exact ⟨b,off,op,nm,k,L,aL,cL,ha,hb,by rw [List.getElem?_eq_getElem hi,hd],h1,h2,h3,h4,h5⟩
theorem sum_nth (f:Sx.Tr→Nat) {l:List Sx.Tr} {i:Nat} {d:Sx.Tr} (h:l[i]? =some d):Sx.sum f (l.take i)+f d≤Sx.sum f l:=by
 have:=Sx.sum_take f l i d h
 have:=Sx.sum_take_le f l (i+1)
 omega
end Go.Proofs.YtcdcoiobpbdmpaaGreatDoor
namespace Go.Proofs.YtcdcoiobpbdmpaaGreatDoor
open Go.RowKit
theorem Rn.cpl_le (g:Nat→Sx.Tr→Nat) (p:Sx.Tr→Nat) (h: ∀ m d,g m d≤p d) (most acc:Nat) (l:List Sx.Tr):Rn.cpl g most acc l≤acc+Sx.sum p l:=by
 induction l generalizing acc with
 |nil=>simp [Rn.cpl,Sx.sum]
 |cons d r ih=>
  simp only [Rn.cpl,Sx.sum]
  split
  ·omega
  ·have h1:=ih (acc+g (most - acc) d)
   have h2:=h (most - acc) d
   omega
theorem Rn.cpt_le (n:Nat): ∀ m d,Rn.cpt n m d≤Rn.prt n d:=by
 induction n with
 |zero=>intro m d;simp [Rn.cpt,Rn.prt]
 |succ n ih=>
  intro m d
  have:=Rn.cpl_le (Rn.cpt n) (Rn.prt n) ih m 1 (Sx.eL d)
  simp only [Rn.cpt,Rn.prt,Rn.wE_prt]
  exact this
theorem drop_nth {α:Type} {l:List α} {k:Nat} {d:α} (h:l[k]? =some d):l.drop k=d::l.drop (k+1):=by
 obtain ⟨hk,rfl⟩:=List.getElem?_eq_some_iff.mp h
 exact List.drop_eq_getElem_cons hk
def CPt (n:Nat):Prop:= ∀ (w:World) (P:Nat→Prop) (op z:Int) (nm:List UInt8) (L:List Sx.Tr) (a:Option Addr) (c m:Nat),EL w P n L (.slice a L.length c)→Sx.wE n L≤1000000000→m≤1000000000→
 Calls Tryz.prog 171 #[.agg #[.int .i64 op,.string (bs nm),.int .i64 z,.slice a L.length c],.int .i64 m] w fun e w'=>e= .returned (.int .i64 ((Rn.cpt n m (Sx.tE op nm z L):Nat):Int))∧Kp [] w w'
set_option maxRecDepth 100000 in
set_option maxHeartbeats 1000000 in
theorem countParts_step (n:Nat) (ih:CPt n):CPt (n+1):=by
 intro w P op z nm L a c m h hw hm
 have HS:=hide h
 have IH:=hide ih
 have hwE:=Rn.wE_prt n L
 have hl:L.length≤1000000000:=by have:L.length+_=Sx.wE (n+1) L:=rfl;omega
 have hsum:Sx.sum (Rn.prt n) L≤1000000000:=by omega
 clear h ih hwE
 go_enter Tryz.func171,Tryz.ntmps171
 go_wp2
 go_loopw [5,11] (fun nv iv wr=> ∃ (k acc:Nat),k≤L.length∧iv= .int .i64 k∧nv= .int .i64 (acc:Int)∧acc≤1+Sx.sum (Rn.prt n) (L.take k)∧Hid (Rn.cpt (n+1) m (Sx.tE op nm z L)=Rn.cpl (Rn.cpt n) m acc (L.drop k))∧Hid (Kp [] w wr)) (fun _ iv _=>L.length - (intOf iv).toNat)
 case atStart=>exact ⟨0,1,Nat.zero_le _,rfl,rfl,by simp,rfl,(Kp.refl _ _).alloc _⟩
 case round=>
  obtain ⟨k,acc,hk,rfl,rfl,ha,HA,HK⟩:=hrel
  by_cases hlt:k<L.length
  ·have d1:decide ((k:Int)<(L.length:Int))=true:=by simp;omega
   obtain ⟨b,off,op1,nm1,z1,L1,aL,cL,rfl,-,hd,m0,m1,m2,m3,hL⟩:=(HS.out.keep HK.out (by simp)).nth k hlt
   have hst:Sx.sum (Rn.prt n) (L.take (k+1))=Sx.sum (Rn.prt n) (L.take k)+(1+Sx.wE n L1):=Sx.sum_take (Rn.prt n) L k _ hd
   have hsl:Sx.sum (Rn.prt n) (L.take k)+(1+Sx.wE n L1)≤Sx.sum (Rn.prt n) L:=sum_nth (Rn.prt n) hd
   have HST:=hide hst
   have HDR:=hide (drop_nth hd)
   have HL:=hide hL
   have hk0:(0:Int)≤(k:Int):=by omega
   have hk1:(k:Int)<(L.length:Int):=by omega
   clear hst hL hd
   by_cases hb:m<acc
   ·have d2:decide ((m:Int)<(acc:Int))=true:=by simp;omega
    go_wp2
    go_ret
    refine ⟨?_,HK.out.alloc _⟩
    rw [HA.out,HDR.out,Rn.cpl,if_pos hb]
    rfl
   ·have d2:decide ((m:Int)<(acc:Int))=false:=by simp;omega
    have hcl:Rn.cpt n (m - acc) (Sx.tE op1 nm1 z1 L1)≤1+Sx.wE n L1:=Rn.cpt_le n _ _
    have HX:=hide (HA.out.trans (by rw [HDR.out,Rn.cpl,if_neg hb]))
    have hsub:IntKind.i64.wrap ((m:Int) - (acc:Int))=((m - acc:Nat):Int):=by simp only [IntKind.wrap_i64];omega
    go_wp2_with fail
    refine (IH.out _ P op1 z1 nm1 L1 aL cL (m - acc) (HL.out.keep ((Kp.refl [] _).alloc _) (by simp)) (by omega) (by omega)).mono ?_
    rintro e w1 ⟨rfl,hk1⟩
    have K1:=hide hk1
    clear hk1
    generalize Rn.cpt n (m - acc) (Sx.tE op1 nm1 z1 L1)=X at *
    go_wp2
    go_roundw
    case rel=>exact ⟨k+1,acc+X,by omega,by go_num,by first|(congr 1;push_cast;omega)|go_num,by rw [HST.out];omega,HX.out,(HK.out.alloc _).trans K1.out⟩
    case measure=>simp [intOf];omega
  ·obtain rfl:k=L.length:=by omega
   have d1:decide ((L.length:Int)<(L.length:Int))=false:=by simp
   go_wp2
   go_ret
   refine ⟨?_,HK.out⟩
   rw [HA.out,List.drop_length]
   rfl
theorem countParts_any (n:Nat):CPt n:=by
 induction n with
 |zero=>intro w P op z nm L a c m h;cases h
 |succ n ih=>exact countParts_step n ih
end Go.Proofs.YtcdcoiobpbdmpaaGreatDoor
namespace Go.Proofs.YtcdcoiobpbdmpaaGreatDoor
open Go.RowKit
end Go.Proofs.YtcdcoiobpbdmpaaGreatDoor
namespace Go.Proofs.YtcdcoiobpbdmpaaGreatDoor
open Go.RowKit
theorem bs0:(bs []).toList=[]:=by rw [Lib.toList_data,bs_list]
def Rn.nmE:Nat→Sx.Tr→Prop
 |0,_=>True
 |n+1,d=>(Sx.eH d).2.1.length≤1099511627776∧ ∀ (i:Nat) x,(Sx.eL d)[i]? =some x→Rn.nmE n x
def Rn.badF (op z:Int) (nm:List UInt8) (len:Nat):Prop:=op<1∨8<op∨len ≠ Rn.want op∨(z ≠ 0∧op ≠ 1)∨(nm ≠ []∧op ≠ 2)
theorem Rn.xf_bad {n:Nat} {op z:Int} {nm:List UInt8} {L:List Sx.Tr} (h:Rn.badF op z nm L.length):Rn.xf (n+1) (Sx.tE op nm z L)=5:=if_pos h
theorem Rn.xf_ok {n:Nat} {op z:Int} {nm:List UInt8} {L:List Sx.Tr} (h: ¬ Rn.badF op z nm L.length):Rn.xf (n+1) (Sx.tE op nm z L)=
  if op=2∧Tk.isN nm=false then 4 else if z<0∨1000000000000000000≤z then 3 else Rn.firstOf (Rn.xf n) L:=if_neg h
end Go.Proofs.YtcdcoiobpbdmpaaGreatDoor
namespace Go.Proofs.YtcdcoiobpbdmpaaGreatDoor
open Go.RowKit
end Go.Proofs.YtcdcoiobpbdmpaaGreatDoor
namespace Go.Proofs.YtcdcoiobpbdmpaaGreatDoor
open Go.RowKit
end Go.Proofs.YtcdcoiobpbdmpaaGreatDoor
namespace Go.Proofs.YtcdcoiobpbdmpaaGreatDoor
open Go.RowKit
theorem bsl (c:List UInt8):(bs c).toList=c:=by rw [Lib.toList_data,bs_list]
theorem bsz (c:List UInt8):(bs c).size=c.length:=by show c.toArray.size=_;simp
theorem bsx (c:List UInt8) (a b:Nat):((bs c).extract a b).toList=(c.drop a).take (b - a):=by rw [Lib.extract_toList,←Lib.toList_data,bsl]
theorem Rn.sides_cat (r:List UInt8) (c:UInt8):Rn.sides (r++[c])=(r.all (fun b=>b == 115 || b == 114) && c == 105):=by
 induction r with
 |nil=>simp [Rn.sides]
 |cons b r ih=>
  rw [List.cons_append,List.all_cons,Bool.and_assoc,←ih]
  cases r with
  |nil=>rfl
  |cons d r=>rfl
theorem Rn.isT_cat (r:List UInt8) (c:UInt8) (ends:Int):Rn.isT (r++[c]) ends=((r.all (fun b=>b == 115 || b == 114) && c == 105) && decide ((r.length:Int)≤ends)):=by
 have e:(((r++[c]).length:Nat):Int) - 1=(r.length:Int):=by simp
 rw [Rn.isT,Rn.sides_cat,e]
theorem Rn.kinds {d:Int} (h1:1≤d) (h2:d≤14):d=1∨d=2∨d=3∨d=4∨d=5∨d=6∨d=7∨d=8∨d=9∨d=10∨d=11∨d=12∨d=13∨d=14:=by omega
end Go.Proofs.YtcdcoiobpbdmpaaGreatDoor
namespace Go.Proofs.YtcdcoiobpbdmpaaGreatDoor.Kn
open Go.Proofs.YtcdcoiobpbdmpaaGreatDoor Go.Proofs.YtcdcoiobpbdmpaaGreatDoor.Sx
abbrev Nv:=List UInt8 × List UInt8
def typ:List Nv→List UInt8→List UInt8
 |[],_=>[]
 |v::r,nm=>if v.1=nm then v.2 else typ r nm
def isIn (bd:List Nv) (nm:List UInt8):Bool:=bd.any fun v=>v.1 == nm
def mst (ns:List Nv) (nm:List UInt8) (b:UInt8):Int:=if typ ns nm=[] then 10 else if (typ ns nm).head? ≠ some b then 11 else 0
def num:Nat→List Nv→Tr→Int
 |0,_,_=>0
 |n+1,ns,d=>
  if (if (eH d).1=2 then mst ns (eH d).2.1 105 else 0) ≠ 0 then mst ns (eH d).2.1 105 else Rn.firstOf (num n ns) (eL d)
def thg (n:Nat) (ns:List Nv) (d:Tr) (t:List UInt8):Int:=
 if t=[105] then num n ns d else if (eH d).1 ≠ 2 then 11 else if typ ns (eH d).2.1=[] then 10 else if typ ns (eH d).2.1 ≠ t then 11 else 0
def thgs (n:Nat) (ns:List Nv):List Tr→List (List UInt8)→Int
 |d::r,t::s=>if thg n ns d t ≠ 0 then thg n ns d t else thgs n ns r s
 |_,_=>0
def binding (d:Int):Bool:=d == 1 || d == 4 || d == 5 || d == 11 || d == 12
def abv:List Tr→List UInt8→Option Tr
 |[],_=>none
 |g::r,nm=>if gN g=nm then some g else abv r nm
def used (t:Tr):Option (List UInt8 × UInt8):=
 let (d,A,B,_,_):=sH t
 if d=5 then some (B,115) else if d=6∨d=7 then some (A,115) else if d=8∨d=9 then some (A,114) else if d=11∨d=12 then some (B,114) else if d=2 then some (A,105) else none
def usedF (ns:List Nv) (t:Tr):Int:=match used t with
 |some (nm,b)=>mst ns nm b
 |none=>0
def twice (bd:List Nv) (t:Tr):Bool:=
 let (d,A,B,_,_):=sH t
 binding d && (isIn bd A || (d == 4 && (isIn bd B || A == B)))
def rest (n:Nat) (ab:List Tr) (ns:List Nv) (t:Tr):Int:=
 let (d,A,_,T,k):=sH t
 if d=6 then thg n ns ((sE t).headD d0) (typ ns A).tail
 else if d=10 then match abv ab A with
  |none=>12
  |some g=>if (gP g).length ≠ (sE t).length then 15 else thgs n ns (sE t) ((gP g).map fun p=>(pH p).2)
 else if d=4 then if k<1∨5<k then 14 else if 3<T.length then 11 else 0
 else Rn.firstOf (num n ns) (sE t)
def sc (n:Nat) (ab:List Tr) (ns bd:List Nv) (t:Tr):Int:=
 if twice bd t then 9 else if usedF ns t ≠ 0 then usedF ns t else rest n ab ns t
def bnds (ns:List Nv) (t:Tr):List Nv:=
 let (d,A,B,T,_):=sH t
 if d=1 then [(A,[105])] else if d=4 then [(A,115::T),(B,114::T)] else if d=5 then [(A,typ ns B)] else if d=11∨d=12 then [(A,(typ ns B).tail)] else []
structure St where
 ns:List Nv
 bd:List Nv
 at':Nat
abbrev Rs:=Sum St (Int × Int)
def thn (m:Rs) (k:St→Rs):Rs:=match m with
 | .inl s=>k s
 | .inr f=> .inr f
def one (n:Nat) (ab:List Tr) (blk:St→List Tr→Rs) (s:St) (t:Tr):Rs:=
 if sc n ab s.ns s.bd t ≠ 0 then .inr (sc n ab s.ns s.bd t,s.at') else
 let b:=bnds s.ns t
 if (sH t).1=11∨(sH t).1=12 then
  thn (blk ⟨s.ns++b,s.bd++b,s.at'+1⟩ (sB t)) fun s1=>thn (blk ⟨s.ns,s1.bd,s1.at'⟩ (sO t)) fun s2=> .inl ⟨s.ns,s2.bd,s2.at'⟩
 else
  thn (blk ⟨s.ns++b,s.bd++b,s.at'+1⟩ (sB t)) fun s1=>thn (blk ⟨s.ns++b,s1.bd,s1.at'⟩ (sO t)) fun s2=> .inl ⟨s.ns++b,s2.bd,s2.at'⟩
def goK (g:St→Tr→Rs):St→List Tr→Rs
 |s,[]=> .inl s
 |s,t::r=>thn (g s t) fun s'=>goK g s' r
def sts:Nat→List Tr→St→List Tr→Rs
 |0,_,s,_=> .inl s
 |n+1,ab,s,l=>goK (fun s t=>one n ab (sts n ab) s t) s l
def par (g:Tr):List Nv:=(gP g).map fun p=>((pH p).1,(pH p).2)
def twiceP:List Nv→List Nv→Bool
 |_,[]=>false
 |bd,v::r=>isIn bd v.1 || twiceP (bd++[v]) r
def stg (n:Nat):Nat→Nat→List Tr→List (List Nv)→List Tr→Sum (List (List Nv)) (Int × Int)
 |_,_,_,out,[]=> .inl out
 |i,a,ab,out,g::r=>
  if (abv ab (gN g)).isSome || twiceP [] (par g) then .inr (9,-2 - (i:Int)) else
  match sts n ab ⟨par g,par g,a⟩ (gB g) with
  | .inr f=> .inr f
  | .inl s=>if 30<s.bd.length then .inr (8,-2 - (i:Int)) else stg n (i+1) s.at' (ab++[g]) (out++[s.bd]) r
def isMain (g:Tr):Bool:=gN g == [109,97,105,110] && match gP g with
 |[p]=>(pH p).2 == [114,105]
 |_=>false
def vars (n:Nat) (l:List Tr):Sum (List (List Nv)) (Int × Int):=
 if (Rn.told n l).1 ≠ 0 then .inr (Rn.told n l) else
 match stg n 0 0 [] [] l with
 | .inr f=> .inr f
 | .inl o=>if l.any isMain then .inl o else .inr (13,-1)
end Go.Proofs.YtcdcoiobpbdmpaaGreatDoor.Kn
namespace Go.Proofs.YtcdcoiobpbdmpaaGreatDoor
open Go.RowKit
def VR (w:World) (v:Value) (l:List Kn.Nv):Prop:=
 ∃ a c,v= .slice a l.length c∧(l ≠ []→ ∃ g o,a=some ⟨g,o,none⟩∧ ∀ (k:Nat) x,l[k]? =some x→w.cell? ⟨g,o+k * 2,none⟩=some (.string (bs x.1))∧w.cell? ⟨g,o+k * 2+1,none⟩=some (.string (bs x.2)))
def vcells (l:List Kn.Nv):List Value:=l.flatMap fun x=>[.string (bs x.1),.string (bs x.2)]
theorem vcells_app (a b:List Kn.Nv):vcells (a++b)=vcells a++vcells b:=by simp [vcells]
theorem vcells_get (l:List Kn.Nv) (k:Nat) (x:Kn.Nv) (h:l[k]? =some x):(vcells l)[k * 2]? =some (.string (bs x.1))∧(vcells l)[k * 2+1]? =some (.string (bs x.2)):=by
 induction l generalizing k with
 |nil=>cases h
 |cons y r ih=>
  match k,h with
  |0,h=>simp only [List.getElem?_cons_zero,Option.some.injEq] at h;subst h;exact ⟨rfl,rfl⟩
  |k+1,h=>
   have:=ih k (by simpa using h)
   have e1:(k+1) * 2=k * 2+1+1:=by omega
   rw [e1]
   exact this
theorem vr_own {w:World} {B:Nat} {v:Value} {l:List Kn.Nv} (h:w.ownsRow B 98 2 v l.length (vcells l)):VR w v l:=by
 rcases h.2 with ⟨hv,h0⟩|⟨g,cap,cur,hv,hb,hg,hnc,hcm,_,_⟩
 ·refine ⟨none,0,by rw [hv,h0],fun hn=> ?_⟩
  exact absurd (List.length_eq_zero_iff.1 h0) hn
 ·refine ⟨_,cap,hv,fun _=>⟨g,0,rfl,fun k x hx=> ?_⟩⟩
  obtain ⟨e1,e2⟩:=vcells_get l k x hx
  have f1:=h.cells (g:=g) (by rw [hv];rfl) _ _ e1
  have f2:=h.cells (g:=g) (by rw [hv];rfl) _ _ e2
  have ea: ∀ j:Nat,(⟨g,0,none⟩:Addr).add j=⟨g,j,none⟩:=fun j=>by unfold Addr.add;split<;> simp_all
  rw [ea] at f1 f2
  rw [Nat.zero_add]
  exact ⟨f1,f2⟩
theorem own_keepv {B e z:Nat} {w w':World} {v:Value} {n:Nat} {xs:List Value} (h:w.ownsRow B e z v n xs) (hk: ∀ g,v.ownBlock=some g→w'.heap[g]? =w.heap[g]?):w'.ownsRow B e z v n xs:=by
 refine ⟨h.1,h.2.imp id ?_⟩
 rintro ⟨g,cap,cur,e1,e2,e3,e4⟩
 exact ⟨g,cap,cur,e1,e2,by rw [hk g (by rw [e1];rfl)];exact e3,e4⟩
end Go.Proofs.YtcdcoiobpbdmpaaGreatDoor
namespace Go.Proofs.YtcdcoiobpbdmpaaGreatDoor.Kn
open Go.Proofs.YtcdcoiobpbdmpaaGreatDoor Go.Proofs.YtcdcoiobpbdmpaaGreatDoor.Sx
theorem one_bad (n:Nat) (ab:List Tr) (blk:St→List Tr→Rs) (s:St) (t:Tr) (h:sc n ab s.ns s.bd t ≠ 0):one n ab blk s t= .inr (sc n ab s.ns s.bd t,s.at'):=by
 unfold one
 rw [if_pos h]
theorem bnds_len (ns:List Nv) (t:Tr):(bnds ns t).length≤2:=by
 unfold bnds
 dsimp only
 split
 ·simp
 ·split
  ·simp
  ·split
   ·simp
   ·split<;> simp
structure Go' (k:Nat) (s s':St):Prop where
 ns: ∃ x,s'.ns=s.ns++x
 bd: ∃ x,s'.bd=s.bd++x
 fw:s'.bd.length≤s.bd.length+2 * k
 at':s'.at'=s.at'+k
theorem Go'.refl (s:St):Go' 0 s s:=⟨⟨[],by simp⟩,⟨[],by simp⟩,by omega,rfl⟩
theorem Go'.trans {k m:Nat} {a b c:St} (h:Go' k a b) (g:Go' m b c):Go' (k+m) a c:=by
 obtain ⟨x,hx⟩:=h.ns
 obtain ⟨y,hy⟩:=g.ns
 obtain ⟨x',hx'⟩:=h.bd
 obtain ⟨y',hy'⟩:=g.bd
 exact ⟨⟨x++y,by rw [hy,hx,List.append_assoc]⟩,⟨x'++y',by rw [hy',hx',List.append_assoc]⟩,by have:=h.fw;have:=g.fw;omega,by have:=h.at';have:=g.at';omega⟩
def cs:Nat→List Tr→Nat
 |0,_=>0
 |n+1,l=>(l.map fun t=>1+cs n (sB t)+cs n (sO t)).sum
theorem thn_inl {m:Rs} {k:St→Rs} {s':St} (h:thn m k= .inl s'): ∃ s,m= .inl s∧k s= .inl s':=by
 cases m with
 |inl s=>exact ⟨s,rfl,h⟩
 |inr f=>cases h
theorem one_go (n:Nat) (ab:List Tr) (blk:St→List Tr→Rs) (c:List Tr→Nat) (hb: ∀ s l s',blk s l= .inl s'→Go' (c l) s s') (s:St) (t:Tr) (s':St) (h:one n ab blk s t= .inl s'):Go' (1+c (sB t)+c (sO t)) s s':=by
 unfold one at h
 split at h
 ·cases h
 ·have hl:=bnds_len s.ns t
  dsimp only at h
  split at h
  ·obtain ⟨s1,h1,h⟩:=thn_inl h
   obtain ⟨s2,h2,h⟩:=thn_inl h
   obtain rfl:=Sum.inl.inj h
   have g1:=hb _ _ _ h1
   have g2:=hb _ _ _ h2
   obtain ⟨x,hx⟩:=g1.bd
   obtain ⟨y,hy⟩:=g2.bd
   refine ⟨⟨[],by simp⟩,⟨bnds s.ns t++x++y,?_⟩,?_,?_⟩
   ·show s2.bd=_
    rw [hy]
    show s1.bd++y=_
    rw [hx]
    simp
   ·have a1:=g1.fw
    have a2:=g2.fw
    simp only [List.length_append] at a1 a2
    show s2.bd.length≤_
    omega
   ·have a1:=g1.at'
    have a2:=g2.at'
    dsimp only at a1 a2
    show s2.at'=_
    omega
  ·obtain ⟨s1,h1,h⟩:=thn_inl h
   obtain ⟨s2,h2,h⟩:=thn_inl h
   obtain rfl:=Sum.inl.inj h
   have g1:=hb _ _ _ h1
   have g2:=hb _ _ _ h2
   obtain ⟨x,hx⟩:=g1.bd
   obtain ⟨y,hy⟩:=g2.bd
   refine ⟨⟨bnds s.ns t,rfl⟩,⟨bnds s.ns t++x++y,?_⟩,?_,?_⟩
   ·show s2.bd=_
    rw [hy]
    show s1.bd++y=_
    rw [hx]
    simp
   ·have a1:=g1.fw
    have a2:=g2.fw
    simp only [List.length_append] at a1 a2
    show s2.bd.length≤_
    omega
   ·have a1:=g1.at'
    have a2:=g2.at'
    dsimp only at a1 a2
    show s2.at'=_
    omega
theorem goK_go (g:St→Tr→Rs) (c:Tr→Nat) (hg: ∀ s t s',g s t= .inl s'→Go' (c t) s s'): ∀ (l:List Tr) (s s':St),goK g s l= .inl s'→Go' (l.map c).sum s s':=by
 intro l
 induction l with
 |nil=>intro s s' h;obtain rfl:=Sum.inl.inj h;exact Go'.refl _
 |cons t r ih=>
  intro s s' h
  obtain ⟨s1,h1,h2⟩:=thn_inl h
  have:=(hg _ _ _ h1).trans (ih _ _ h2)
  simpa using this
theorem sts_go (n:Nat) (ab:List Tr): ∀ (s:St) (l:List Tr) (s':St),sts n ab s l= .inl s'→Go' (cs n l) s s':=by
 induction n with
 |zero=>intro s l s' h;obtain rfl:=Sum.inl.inj h;exact Go'.refl _
 |succ n ih=>
  intro s l s' h
  exact goK_go _ (fun t=>1+cs n (sB t)+cs n (sO t)) (fun s t s' h=>one_go n ab _ (cs n) ih s t s' h) l s s' h
end Go.Proofs.YtcdcoiobpbdmpaaGreatDoor.Kn
namespace Go.Proofs.YtcdcoiobpbdmpaaGreatDoor
open Go.RowKit
theorem Tryz.infoVar:(Tryz.prog.info? 98).map (fun i=>(i.zero,i.size,i.bytes))=some (some (.agg #[.string ⟨#[]⟩,.string ⟨#[]⟩]),2,32):=by kernel_rfl
theorem vcells_new (w:World) (x y:Value) (t:TypeId): ∀ j u,[x,y][j]? =some u→(w.alloc (.cells #[x,y] t)).cell? ((⟨w.heap.size,0,none⟩:Addr).add j)=some u:=by
 intro j u hu
 match j,hu with
 |0,hu=>simp at hu;subst hu;simp [go_sem,Addr.add]
 |1,hu=>simp at hu;subst hu;simp [go_sem,Addr.add]
end Go.Proofs.YtcdcoiobpbdmpaaGreatDoor
