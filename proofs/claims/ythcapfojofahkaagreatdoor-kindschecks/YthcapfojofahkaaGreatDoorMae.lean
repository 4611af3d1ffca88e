import Derived.Test.YthcapfojofahkaaGreatDoorMaa
import Derived.Lib.ItoaNum
import Derived.Test.YthcapfojofahkaaGreatDoorMac
import Derived.Test.YthcapfojofahkaaGreatDoorMad
import Derived.Deep.RegionHeldLaw
namespace Go.Proofs.YthcapfojofahkaaGreatDoor.Sx
open Go.Proofs.YthcapfojofahkaaGreatDoor.Tk
def eL:Tr→List Tr
 | .agg [_,_,_,.agg L]=>L
 |_=>[]
def eH:Tr→Int × List UInt8 × Int
 | .agg [.lit (.int _ op),.lit (.string nm),.lit (.int _ k),_]=>(op,nm,k)
 |_=>(0,[],0)
def sH:Tr→Int × List UInt8 × List UInt8 × List UInt8 × Int
 | .agg [.lit (.int _ d),_,.lit (.string A),.lit (.string B),.lit (.string T),.lit (.int _ n),_,_,_]=>(d,A,B,T,n)
 |_=>(0,[],[],[],0)
def sE:Tr→List Tr
 | .agg [_,_,_,_,_,_,.agg E,_,_]=>E
 |_=>[]
def sB:Tr→List Tr
 | .agg [_,_,_,_,_,_,_,.agg b,_]=>b
 |_=>[]
def sO:Tr→List Tr
 | .agg [_,_,_,_,_,_,_,_,.agg o]=>o
 |_=>[]
def gN:Tr→List UInt8
 | .agg [.lit (.string nm),_,_,_]=>nm
 |_=>[]
def gP:Tr→List Tr
 | .agg [_,_,.agg ps,_]=>ps
 |_=>[]
def gB:Tr→List Tr
 | .agg [_,_,_,.agg b]=>b
 |_=>[]
def pH:Tr→List UInt8 × List UInt8
 | .agg [.lit (.string nm),.lit (.string T)]=>(nm,T)
 |_=>([],[])
def sum (f:Tr→Nat):List Tr→Nat
 |[]=>0
 |d::r=>f d+sum f r
theorem sum_take (f:Tr→Nat) (l:List Tr) (i:Nat) (d:Tr) (h:l[i]? =some d):sum f (l.take (i+1))=sum f (l.take i)+f d:=by
 induction l generalizing i with
 |nil=>simp at h
 |cons x r ih=>
  cases i with
  |zero=>simp at h;subst h;simp [sum]
  |succ i=>
   have:=ih i (by simpa using h)
   simp only [List.take_succ_cons,sum]
   rw [this]
   omega
theorem sum_take_le (f:Tr→Nat) (l:List Tr) (i:Nat):sum f (l.take i)≤sum f l:=by
 induction l generalizing i with
 |nil=>simp
 |cons x r ih=>
  cases i with
  |zero=>simp [sum]
  |succ i=>have:=ih i;simp only [List.take_succ_cons,sum];omega
def cnt:Nat→List Tr→Nat
 |0,_=>0
 |n+1,l=>l.length+sum (fun d=>cnt n (sB d)+cnt n (sO d)) l
def wE:Nat→List Tr→Nat
 |0,_=>0
 |n+1,l=>l.length+sum (fun d=>wE n (eL d)) l
def wS:Nat→List Tr→Nat
 |0,_=>0
 |n+1,l=>l.length+sum (fun d=>wE n (sE d)+wS n (sB d)+wS n (sO d)) l
def wG (n:Nat) (l:List Tr):Nat:=sum (fun d=>wS n (gB d)) l
def all2 (p:Tr→Tr→Bool):List Tr→List Tr→Bool
 |[],[]=>true
 |a::l,b::m=>p a b && all2 p l m
 |_,_=>false
theorem all2_len {p:Tr→Tr→Bool} {l m:List Tr} (h:l.length ≠ m.length):all2 p l m=false:=by
 induction l generalizing m with
 |nil=>cases m with
  |nil=>simp at h
  |cons b m=>rfl
 |cons a l ih=>cases m with
  |nil=>rfl
  |cons b m=>simp only [all2,ih (m:=m) (by simpa using h),Bool.and_false]
theorem all2_drop {p:Tr→Tr→Bool} {l m:List Tr} {i:Nat} {a b:Tr} (ha:l[i]? =some a) (hb:m[i]? =some b):all2 p (l.drop i) (m.drop i)=(p a b && all2 p (l.drop (i+1)) (m.drop (i+1))):=by
 induction l generalizing m i with
 |nil=>simp at ha
 |cons x l ih=>cases m with
  |nil=>simp at hb
  |cons y m=>cases i with
   |zero=>simp at ha hb;subst ha hb;simp [all2]
   |succ i=>simpa using ih (m:=m) (i:=i) (by simpa using ha) (by simpa using hb)
theorem all2_refl {p:Tr→Tr→Bool} (h: ∀ d,p d d=true) (l:List Tr):all2 p l l=true:=by
 induction l with
 |nil=>rfl
 |cons a l ih=>simp [all2,h a,ih]
def sameE:Nat→List Tr→List Tr→Bool
 |0,_,_=>true
 |n+1,l,m=>all2 (fun a b=>eH a == eH b && sameE n (eL a) (eL b)) l m
theorem sameE_refl (n:Nat) (l:List Tr):sameE n l l=true:=by
 induction n generalizing l with
 |zero=>rfl
 |succ n ih=>exact all2_refl (fun d=>by simp [ih]) l
end Go.Proofs.YthcapfojofahkaaGreatDoor.Sx
namespace Go.Proofs.YthcapfojofahkaaGreatDoor.Rn
open Go.Proofs.YthcapfojofahkaaGreatDoor Go.Proofs.YthcapfojofahkaaGreatDoor.Sx
def sides:List UInt8→Bool
 |[]=>false
 |[b]=>b == 105
 |b::r=>(b == 115 || b == 114) && sides r
def isT (t:List UInt8) (ends:Int):Bool:=sides t && decide ((t.length:Int) - 1≤ends)
def prt (n:Nat) (d:Tr):Nat:=1+wE n (eL d)
theorem wE_prt (n:Nat) (l:List Tr):wE (n+1) l=sum (prt n) l:=by
 show l.length+sum (fun d=>wE n (eL d)) l=_
 induction l with
 |nil=>rfl
 |cons d r ih=>simp only [sum,prt,List.length_cons] at ih ⊢;omega
def cpl (g:Nat→Tr→Nat) (most:Nat):Nat→List Tr→Nat
 |acc,[]=>acc
 |acc,d::r=>if most<acc then acc else cpl g most (acc+g (most - acc) d) r
def cpt:Nat→Nat→Tr→Nat
 |0,_,_=>1
 |n+1,most,d=>cpl (cpt n) most 1 (eL d)
theorem cpl_ge (g:Nat→Tr→Nat) (most acc:Nat) (l:List Tr):acc≤cpl g most acc l:=by
 induction l generalizing acc with
 |nil=>exact Nat.le_refl _
 |cons d r ih=>
  simp only [cpl]
  split
  ·exact Nat.le_refl _
  ·have:=ih (acc+g (most - acc) d);omega
theorem cpl_is (g:Nat→Tr→Nat) (p:Tr→Nat) (h: ∀ m d,(p d≤m→g m d=p d)∧(m<p d→m<g m d)) (most acc:Nat) (l:List Tr):
  (acc+sum p l≤most→cpl g most acc l=acc+sum p l)∧(most<acc+sum p l→most<cpl g most acc l):=by
 induction l generalizing acc with
 |nil=>simp only [cpl,sum];omega
 |cons d r ih=>
  simp only [cpl,sum]
  have hd:=h (most - acc) d
  have hi:=ih (acc+g (most - acc) d)
  have hge:=cpl_ge g most (acc+g (most - acc) d) r
  by_cases ha:most<acc
  ·rw [if_pos ha];omega
  ·rw [if_neg ha]
   by_cases hp:p d≤most - acc
   ·have e:=hd.1 hp
    rw [e] at hi ⊢
    refine ⟨fun hh=> ?_,fun hh=>hi.2 (by omega)⟩
    rw [hi.1 (by omega)];omega
   ·have e:=hd.2 (by omega)
    refine ⟨fun hh=>by omega,fun _=>by omega⟩
theorem cpt_is (n:Nat): ∀ m d,(prt n d≤m→cpt n m d=prt n d)∧(m<prt n d→m<cpt n m d):=by
 induction n with
 |zero=>intro m d;simp [prt,cpt,wE]
 |succ n ih=>
  intro m d
  have:=cpl_is (cpt n) (prt n) ih m 1 (eL d)
  simp only [prt,cpt]
  rw [wE_prt]
  exact this
theorem cpt_lt (n m:Nat) (d:Tr):m<cpt n m d ↔ m<prt n d:=by
 have:=cpt_is n m d
 constructor
 ·intro h;apply Nat.lt_of_not_le;intro hp;have:=this.1 hp;omega
 ·exact this.2
def firstOf {α:Type} (g:α→Int):List α→Int
 |[]=>0
 |d::r=>if g d ≠ 0 then g d else firstOf g r
def want (op:Int):Nat:=if op=1∨op=2 then 0 else if op=3 then 1 else 2
def xf:Nat→Tr→Int
 |0,_=>0
 |n+1,d=>
  let (op,nm,k):=eH d
  if op<1∨8<op∨(eL d).length ≠ want op∨(k ≠ 0∧op ≠ 1)∨(nm ≠ []∧op ≠ 2) then 5
  else if op=2∧Tk.isN nm=false then 4
  else if k<0∨1000000000000000000≤k then 3
  else firstOf (xf n) (eL d)
def ef (n:Nat) (d:Tr):Int:=if 20<prt n d then 8 else xf n d
def hasA (d:Int):Bool:=d !=3 && d !=13 && d !=14
def hasB (d:Int):Bool:=d == 4 || d == 5 || d == 11 || d == 12
def hasT (d:Int):Bool:=d == 4
def hasS (d:Int):Bool:=decide (11≤d)
def hasO (d:Int):Bool:=d == 11 || d == 14
def fewE (d:Int):Nat:=if d=1∨d=2∨d=3∨d=6∨d=13∨d=14 then 1 else 0
def formed (t:Tr):Bool:=
 let (d,A,B,T,k):=sH t
 decide (1≤d) && decide (d≤14) && (hasA d || A == []) && (hasB d || B == []) && (hasT d || T == []) && (hasT d || k == 0) &&
  (hasS d || (sB t).isEmpty) && (hasO d || (sO t).isEmpty) && (d == 10 || (sE t).length == fewE d)
def sf (n:Nat) (deep:Nat) (t:Tr):Int:=
 let (d,A,B,T,k):=sH t
 if formed t=false then 5
 else if 6<(sE t).length then 8
 else if (hasA d=true∧Tk.isN A=false)∨(hasB d=true∧Tk.isN B=false) then 4
 else if hasT d=true∧isT T 3=false then 11
 else if k<0∨1000000000000000000≤k then 14
 else if firstOf (ef n) (sE t) ≠ 0 then firstOf (ef n) (sE t)
 else if hasS d=true∧8≤deep then 7 else 0
abbrev Bf:=Sum Nat (Int × Int)
def thn (m:Bf) (k:Nat→Bf):Bf:=match m with
 | .inl a=>k a
 | .inr f=> .inr f
def goS (g:Nat→Tr→Bf):Nat→List Tr→Bf
 |a,[]=> .inl a
 |a,t::r=>thn (g a t) fun b=>goS g b r
def bf:Nat→Nat→Nat→List Tr→Bf
 |0,_,a,_=> .inl a
 |n+1,deep,a,l=>goS (fun a t=>
   if 300≤a then .inr (8,a) else if sf n deep t ≠ 0 then .inr (sf n deep t,a)
   else thn (bf n (deep+1) (a+1) (sB t)) fun b=>bf n (deep+1) b (sO t)) a l
def hf (g:Tr):Int:=
 if Tk.isN (gN g)=false then 4 else if 6<(gP g).length then 8
 else firstOf (fun p=>if Tk.isN (pH p).1=false then 4 else if isT (pH p).2 3=false then 11 else 0) (gP g)
def gf (n:Nat):Nat→Nat→List Tr→Bf
 |_,a,[]=> .inl a
 |i,a,g::r=>if hf g ≠ 0 then .inr (hf g,-2 - (i:Int)) else thn (bf n 1 a (gB g)) fun b=>gf n (i+1) b r
def pf (n:Nat) (l:List Tr):Int × Int:=
 if l.length=0 then (10,-1) else if 10<l.length then (8,-1) else match gf n 0 0 l with
  | .inl _=>(0,0)
  | .inr f=>f
def digs (k:Int):List UInt8:=Lib.itoa k
def tyw:List UInt8→List UInt8
 |[]=>[]
 |b::r=>(if b=115 then [115,101,110,100,32] else if b=114 then [114,101,99,118,32] else [105,110,116])++tyw r
def holds (op:Int):Nat:=if op=7∨op=8 then 0 else if op=4∨op=5 then 1 else if op=6 then 2 else 3
def sign (op:Int):List UInt8:=if op=4 then [32,43,32] else if op=5 then [32,45,32] else if op=6 then [32,42,32] else if op=7 then [32,60,32] else [32,61,61,32]
def lft (op:Int):Nat:=if holds op=0 then 1 else holds op
def brk (b:Bool) (x:List UInt8):List UInt8:=if b then [40]++x++[41] else x
def xt:Nat→Nat→Tr→List UInt8
 |0,_,_=>[]
 |n+1,must,d=>
  let (op,nm,k):=eH d
  brk (decide (holds op<must)) (if op=1 then digs k else if op=2 then nm else if op=3 then [45]++xt n 3 ((eL d).headD d0)
   else xt n (lft op) ((eL d).headD d0)++sign op++xt n (holds op+1) ((eL d).tail.headD d0))
def com:List (List UInt8)→List UInt8
 |[]=>[]
 |[x]=>x
 |x::r=>x++[44,32]++com r
def tabs (k:Nat):List UInt8:=List.replicate k 9
def ahead (n:Nat) (t:Tr):List UInt8:=
 let (d,A,B,T,k):=sH t
 let E:=com ((sE t).map (xt n 0))
 if d=1 then [108,101,116,32]++A++[32,61,32]++E++[59]
 else if d=2 then [115,101,116,32]++A++[32,61,32]++E++[59]
 else if d=3 then [101,109,105,116,32]++E++[59]
 else if d=4 then [99,104,97,110,32]++A++[32]++B++[32]++tyw T++[32]++digs k++[59]
 else if d=5 then [99,108,111,110,101,32]++A++[32]++B++[59]
 else if d=6 then [115,101,110,100,32]++A++[32]++E++[59]
 else if d=7 then [99,108,111,115,101,32]++A++[59]
 else if d=8 then [97,98,97,110,100,111,110,32]++A++[59]
 else if d=9 then [100,114,97,105,110,32]++A++[59]
 else if d=10 then [115,112,97,119,110,32]++A++[40]++E++[41,59]
 else if d=11 then [116,97,107,101,32]++A++[32,102,114,111,109,32]++B++[32]
 else if d=12 then [102,111,114,32]++A++[32,102,114,111,109,32]++B++[32]
 else if d=13 then [114,101,112,101,97,116,32]++E++[32]
 else [105,102,32]++E++[32]
def cat (g:Tr→List UInt8):List Tr→List UInt8
 |[]=>[]
 |t::r=>g t++cat g r
def blt:Nat→Nat→List Tr→List UInt8
 |0,_,_=>[]
 |n+1,k,l=>[123,10]++cat (fun t=>tabs (k+1)++ahead n t++
   (if hasS (sH t).1 then blt n (k+1) (sB t)++(if (sO t).isEmpty then [] else [32,101,108,115,101,32]++blt n (k+1) (sO t)) else [])++[10]) l++tabs k++[125]
def stt (n:Nat) (g:Tr):List UInt8:=
 [115,116,97,103,101,32]++gN g++[40]++com ((gP g).map fun p=>(pH p).1++[32]++tyw (pH p).2)++[41,32]++blt n 0 (gB g)++[10]
def pt (n:Nat) (l:List Tr):List UInt8:=cat (stt n) l
def told (n:Nat) (l:List Tr):Int × Int:=if (pf n l).1 ≠ 0 then pf n l else if 12000<(pt n l).length then (1,-1) else (0,0)
theorem cat_append (g:Tr→List UInt8) (l m:List Tr):cat g (l++m)=cat g l++cat g m:=by
 induction l with
 |nil=>rfl
 |cons t r ih=>simp only [List.cons_append,cat,ih,List.append_assoc]
end Go.Proofs.YthcapfojofahkaaGreatDoor.Rn
namespace Go.Proofs.YthcapfojofahkaaGreatDoor
open Go.RowKit
theorem RS_len {w:World} {P:Nat→Prop} {n:Nat} (d:Sx.Tr) (c:List Value) (h:RS w P n d c):c.length=9:=by
 obtain ⟨D,at',A,B,T,N,E,body,els,uE,uB,uL,_,rfl,_⟩:=h
 rfl
theorem RG_len {w:World} {P:Nat→Prop} {n:Nat} (d:Sx.Tr) (c:List Value) (h:RG w P n d c):c.length=4:=by
 obtain ⟨nm,at',ps,body,uP,uB,_,rfl,_⟩:=h
 rfl
theorem SL.nth {w:World} {P:Nat→Prop} {n:Nat} {l:List Sx.Tr} {a:Option Addr} {cap:Nat} (h:SL w P (n+1) l (.slice a l.length cap)) (i:Nat) (hi:i<l.length):
  ∃ b off D at' A B T N E body els uE uB uL,a=some ⟨b,off,none⟩∧P b∧l[i]? =some (Sx.tS D at' A B T N E body els)∧
    w.cell? ⟨b,off+i * 9,none⟩=some (.int .i64 D)∧w.cell? ⟨b,off+i * 9+1,none⟩=some (.int .i64 at')∧w.cell? ⟨b,off+i * 9+2,none⟩=some (.string (bs A))∧
    w.cell? ⟨b,off+i * 9+3,none⟩=some (.string (bs B))∧w.cell? ⟨b,off+i * 9+4,none⟩=some (.string (bs T))∧w.cell? ⟨b,off+i * 9+5,none⟩=some (.int .i64 N)∧
    w.cell? ⟨b,off+i * 9+6,none⟩=some uE∧w.cell? ⟨b,off+i * 9+7,none⟩=some uB∧w.cell? ⟨b,off+i * 9+8,none⟩=some uL∧EL w P n E uE∧SL w P n body uB∧SL w P n els uL:=by
 rw [SL_succ] at h
 obtain ⟨a',cap',hv,h⟩:=h
 cases hv
 rcases h with h|⟨b,off,cs,ha,hb,hr,hc⟩
 ·subst h;simp at hi
 ·obtain ⟨c,hR,hcu⟩:=hr.at RS_len i _ (List.getElem?_eq_getElem hi)
  obtain ⟨D,at',A,B,T,N,E,body,els,uE,uB,uL,hd,rfl,h1,h2,h3⟩:=hR
  have hx:=fun j u hu=>hc _ u (hcu j u hu)
  simp only [←Nat.add_assoc] at hx
  exact ⟨b,off,D,at',A,B,T,N,E,body,els,uE,uB,uL,ha,hb,by rw [List.getElem?_eq_getElem hi,hd],hx 0 _ rfl,hx 1 _ rfl,hx 2 _ rfl,hx 3 _ rfl,hx 4 _ rfl,hx 5 _ rfl,hx 6 _ rfl,hx 7 _ rfl,hx 8 _ rfl,h1,h2,h3⟩
theorem GL.nth {w:World} {P:Nat→Prop} {n:Nat} {l:List Sx.Tr} {a:Option Addr} {cap:Nat} (h:Sl (RG w P n) w P l (.slice a l.length cap)) (i:Nat) (hi:i<l.length):
  ∃ b off nm at' ps body uP uB,a=some ⟨b,off,none⟩∧P b∧l[i]? =some (Sx.tG nm at' ps body)∧
    w.cell? ⟨b,off+i * 4,none⟩=some (.string (bs nm))∧w.cell? ⟨b,off+i * 4+1,none⟩=some (.int .i64 at')∧w.cell? ⟨b,off+i * 4+2,none⟩=some uP∧
    w.cell? ⟨b,off+i * 4+3,none⟩=some uB∧Sl RP w P ps uP∧SL w P n body uB:=by
 obtain ⟨a',cap',hv,h⟩:=h
 cases hv
 rcases h with h|⟨b,off,cs,ha,hb,hr,hc⟩
 ·subst h;simp at hi
 ·obtain ⟨c,hR,hcu⟩:=hr.at RG_len i _ (List.getElem?_eq_getElem hi)
  obtain ⟨nm,at',ps,body,uP,uB,hd,rfl,h1,h2⟩:=hR
  have hx:=fun j u hu=>hc _ u (hcu j u hu)
  simp only [←Nat.add_assoc] at hx
  exact ⟨b,off,nm,at',ps,body,uP,uB,ha,hb,by rw [List.getElem?_eq_getElem hi,hd],hx 0 _ rfl,hx 1 _ rfl,hx 2 _ rfl,hx 3 _ rfl,h1,h2⟩
end Go.Proofs.YthcapfojofahkaaGreatDoor
namespace Go.Proofs.YthcapfojofahkaaGreatDoor
open Go.RowKit
theorem EL.nth {w:World} {P:Nat→Prop} {n:Nat} {l:List Sx.Tr} {a:Option Addr} {cap:Nat} (h:EL w P (n+1) l (.slice a l.length cap)) (i:Nat) (hi:i<l.length):
  ∃ b off op nm k L aL cL,a=some ⟨b,off,none⟩∧P b∧l[i]? =some (Sx.tE op nm k L)∧w.cell? ⟨b,off+i * 4,none⟩=some (.int .i64 op)∧w.cell? ⟨b,off+i * 4+1,none⟩=some (.string (bs nm))∧
      w.cell? ⟨b,off+i * 4+2,none⟩=some (.int .i64 k)∧w.cell? ⟨b,off+i * 4+3,none⟩=some (.slice aL L.length cL)∧EL w P n L (.slice aL L.length cL):=by
 obtain ⟨a',cap',hv,h⟩:=h
 cases hv
 rcases h with h|⟨b,off,ha,hb,hc⟩
 ·subst h;simp at hi
 ·obtain ⟨op,nm,k,L,u,hd,h1,h2,h3,h4,h5⟩:=hc i _ (List.getElem?_eq_getElem hi)
  obtain ⟨aL,cL,rfl⟩:=h5.slice
  exact ⟨b,off,op,nm,k,L,aL,cL,ha,hb,by rw [List.getElem?_eq_getElem hi,hd],h1,h2,h3,h4,h5⟩
theorem bs_ne {a b:List UInt8} (h: ¬ a=b):((bs a).toList == (bs b).toList)=false:=by
 rw [bs_eq]
 exact decide_eq_false (fun e=>h (by simpa [bs] using e))
end Go.Proofs.YthcapfojofahkaaGreatDoor
