import Derived.Test.YtagblibbngmbdaaGreatDoorMad
import Derived.Test.YtagblibbngmbdaaGreatDoorMaa
import Derived.Lib.ItoaNum
import Derived.Test.YtagblibbngmbdaaGreatDoorMac
import Derived.Deep.RegionHeldLaw
import Derived.Test.YtagblibbngmbdaaGreatDoorMah
import Derived.Lib.SliceRun
namespace Go.Proofs.YtagblibbngmbdaaGreatDoor
open Go.RowKit
def Rw (R:Sx.Tr→List Value→Prop):List Sx.Tr→List Value→Prop
 |[],cs=>cs=[]
 |d::r,cs=> ∃ c1 c2,cs=c1++c2∧R d c1∧Rw R r c2
theorem Rw.mono {R R':Sx.Tr→List Value→Prop} {l:List Sx.Tr} {cs:List Value} (h:Rw R l cs) (hR: ∀ d c,R d c→R' d c):Rw R' l cs:=by
 induction l generalizing cs with
 |nil=>exact h
 |cons d r ih=>
  obtain ⟨c1,c2,h1,h2,h3⟩:=h
  exact ⟨c1,c2,h1,hR _ _ h2,ih h3⟩
theorem Rw.snoc {R:Sx.Tr→List Value→Prop} {l:List Sx.Tr} {cs c:List Value} {d:Sx.Tr} (h:Rw R l cs) (hd:R d c):Rw R (l++[d]) (cs++c):=by
 induction l generalizing cs with
 |nil=>cases h;exact ⟨c,[],by simp,hd,rfl⟩
 |cons x r ih=>
  obtain ⟨c1,c2,h1,h2,h3⟩:=h
  exact ⟨c1,c2++c,by simp [h1],h2,ih h3⟩
theorem Rw.app {R:Sx.Tr→List Value→Prop} {l m:List Sx.Tr} {cs c:List Value} (h:Rw R l cs) (hm:Rw R m c):Rw R (l++m) (cs++c):=by
 induction l generalizing cs with
 |nil=>cases h;exact hm
 |cons x r ih=>
  obtain ⟨c1,c2,h1,h2,h3⟩:=h
  exact ⟨c1,c2++c,by simp [h1],h2,ih h3⟩
theorem Rw.len {R:Sx.Tr→List Value→Prop} {z:Nat} (hz: ∀ d c,R d c→c.length=z) {l:List Sx.Tr} {cs:List Value} (h:Rw R l cs):cs.length=l.length * z:=by
 induction l generalizing cs with
 |nil=>cases h;simp
 |cons d r ih=>
  obtain ⟨c1,c2,rfl,h2,h3⟩:=h
  rw [List.length_append,hz _ _ h2,ih h3,List.length_cons,Nat.succ_mul]
  omega
theorem Rw.at {R:Sx.Tr→List Value→Prop} {z:Nat} (hz: ∀ d c,R d c→c.length=z) {l:List Sx.Tr} {cs:List Value} (h:Rw R l cs) (i:Nat) (d:Sx.Tr) (hi:l[i]? =some d): ∃ c,R d c∧ ∀ (j:Nat) u,c[j]? =some u→cs[i * z+j]? =some u:=by
 induction l generalizing cs i with
 |nil=>simp at hi
 |cons x r ih=>
  obtain ⟨c1,c2,rfl,h2,h3⟩:=h
  have hl:=hz _ _ h2
  cases i with
  |zero=>
   simp at hi
   subst hi
   refine ⟨c1,h2,fun j u hu=> ?_⟩
   have hj:j<c1.length:=(List.getElem?_eq_some_iff.1 hu).1
   rw [Nat.zero_mul,Nat.zero_add,List.getElem?_append_left hj]
   exact hu
  |succ i=>
   obtain ⟨c,hc,hcu⟩:=ih h3 i (by simpa using hi)
   refine ⟨c,hc,fun j u hu=> ?_⟩
   rw [List.getElem?_append_right (by rw [hl,Nat.succ_mul];omega),hl,show (i+1) * z+j - z=i * z+j from by rw [Nat.succ_mul];omega]
   exact hcu j u hu
def Sl (R:Sx.Tr→List Value→Prop) (w:World) (P:Nat→Prop) (l:List Sx.Tr) (v:Value):Prop:=
 ∃ a cap,v= .slice a l.length cap∧(l=[]∨ ∃ b off cs,a=some ⟨b,off,none⟩∧P b∧Rw R l cs∧ ∀ (j:Nat) u,cs[j]? =some u→w.cell? ⟨b,off+j,none⟩=some u)
theorem Sl.keep {R R':Sx.Tr→List Value→Prop} {w w':World} {P:Nat→Prop} {S:List Nat} {l:List Sx.Tr} {v:Value} (h:Sl R w P l v) (hk:Kp S w w') (hS: ∀ k,k ∈ S→ ¬ P k) (hR: ∀ d c,R d c→R' d c):Sl R' w' P l v:=by
 obtain ⟨a,cap,hv,h⟩:=h
 refine ⟨a,cap,hv,h.imp id ?_⟩
 rintro ⟨b,off,cs,ha,hb,hr,hc⟩
 exact ⟨b,off,cs,ha,hb,hr.mono hR,fun j u hu=>hk.some (hc j u hu) (fun hm=>hS b hm hb)⟩
theorem Sl.base {R R':Sx.Tr→List Value→Prop} {w:World} {P P':Nat→Prop} {l:List Sx.Tr} {v:Value} (h:Sl R w P l v) (hP: ∀ b,b<w.heap.size→P b→P' b) (hR: ∀ d c,R d c→R' d c∧c ≠ []):Sl R' w P' l v:=by
 obtain ⟨a,cap,hv,h⟩:=h
 refine ⟨a,cap,hv,?_⟩
 rcases h with h|⟨b,off,cs,ha,hb,hr,hc⟩
 ·exact .inl h
 ·cases l with
  |nil=>exact .inl rfl
  |cons d r=>
   refine .inr ⟨b,off,cs,ha,hP b ?_ hb,hr.mono (fun d c h=>(hR d c h).1),hc⟩
   obtain ⟨c1,c2,rfl,h2,_⟩:=hr
   cases c1 with
   |nil=>exact absurd rfl (hR _ _ h2).2
   |cons u c1=>exact World.block_lt_of_cell? w _ (hc 0 u rfl)
theorem Sl.nil (R:Sx.Tr→List Value→Prop) (w:World) (P:Nat→Prop) (a:Option Addr) (cap:Nat):Sl R w P [] (.slice a 0 cap):=⟨a,cap,rfl,.inl rfl⟩
theorem Sl.of_own {R:Sx.Tr→List Value→Prop} {w:World} {P:Nat→Prop} {B t z n:Nat} {l:List Sx.Tr} {v:Value} {cs:List Value} (h:w.ownsRow B t z v n cs) (hn:n=l.length) (hP: ∀ b,B≤b→P b) (hr:Rw R l cs):Sl R w P l v:=by
 subst hn
 rcases h.2 with ⟨rfl,hn⟩|⟨g,cap,cur,rfl,hB,hg,_⟩
 ·have hl:l=[]:=by cases l with
   |nil=>rfl
   |cons a r=>simp at hn
  subst hl
  exact Sl.nil _ _ _ _ _
 ·refine ⟨_,cap,rfl,.inr ⟨g,0,cs,rfl,hP g hB,hr,fun j u hu=> ?_⟩⟩
  have:=h.cells (g:=g) rfl j u hu
  rwa [Addr.add_mid] at this
def RP (d:Sx.Tr) (c:List Value):Prop:= ∃ nm T,d=Sx.tP nm T∧c=[.string (bs nm),.string (bs T)]
def SL (w:World) (P:Nat→Prop):Nat→List Sx.Tr→Value→Prop
 |0,_,_=>False
 |n+1,l,v=>Sl (fun d c=> ∃ D at' A B T N E body els uE uB uL,d=Sx.tS D at' A B T N E body els∧
   c=[.int .i64 D,.int .i64 at',.string (bs A),.string (bs B),.string (bs T),.int .i64 N,uE,uB,uL]∧EL w P n E uE∧SL w P n body uB∧SL w P n els uL) w P l v
def RS (w:World) (P:Nat→Prop) (n:Nat) (d:Sx.Tr) (c:List Value):Prop:= ∃ D at' A B T N E body els uE uB uL,d=Sx.tS D at' A B T N E body els∧
   c=[.int .i64 D,.int .i64 at',.string (bs A),.string (bs B),.string (bs T),.int .i64 N,uE,uB,uL]∧EL w P n E uE∧SL w P n body uB∧SL w P n els uL
theorem zdb (w:World) (P:Nat→Prop) (n:Nat) (l:List Sx.Tr) (v:Value):SL w P (n+1) l v=Sl (RS w P n) w P l v:=rfl
def RG (w:World) (P:Nat→Prop) (n:Nat) (d:Sx.Tr) (c:List Value):Prop:= ∃ nm at' ps body uP uB,d=Sx.tG nm at' ps body∧
   c=[.string (bs nm),.int .i64 at',uP,uB]∧Sl RP w P ps uP∧SL w P n body uB
theorem SL.keep {w w':World} {S:List Nat} {P:Nat→Prop} {n:Nat} {l:List Sx.Tr} {v:Value} (h:SL w P n l v) (hk:Kp S w w') (hS: ∀ k,k ∈ S→ ¬ P k):SL w' P n l v:=by
 induction n generalizing l v with
 |zero=>cases h
 |succ n ih=>
  rw [zdb] at h ⊢
  refine h.keep hk hS ?_
  rintro d c ⟨D,at',A,B,T,N,E,body,els,uE,uB,uL,h1,h2,h3,h4,h5⟩
  exact ⟨D,at',A,B,T,N,E,body,els,uE,uB,uL,h1,h2,h3.keep hk hS,ih h4,ih h5⟩
theorem SL.base {w:World} {P P':Nat→Prop} {n:Nat} {l:List Sx.Tr} {v:Value} (h:SL w P n l v) (hP: ∀ b,b<w.heap.size→P b→P' b):SL w P' n l v:=by
 induction n generalizing l v with
 |zero=>cases h
 |succ n ih=>
  rw [zdb] at h ⊢
  refine h.base hP ?_
  rintro d c ⟨D,at',A,B,T,N,E,body,els,uE,uB,uL,h1,h2,h3,h4,h5⟩
  exact ⟨⟨D,at',A,B,T,N,E,body,els,uE,uB,uL,h1,h2,h3.base hP,ih h4,ih h5⟩,by rw [h2];simp⟩
theorem SL.more {w:World} {P:Nat→Prop} {n:Nat} {l:List Sx.Tr} {v:Value} (m:Nat) (h:SL w P n l v):SL w P (n+m) l v:=by
 induction n generalizing l v with
 |zero=>cases h
 |succ n ih=>
  rw [show n+1+m=n+m+1 from by omega]
  rw [zdb] at h ⊢
  obtain ⟨a,cap,hv,h⟩:=h
  refine ⟨a,cap,hv,h.imp id ?_⟩
  rintro ⟨b,off,cs,ha,hb,hr,hc⟩
  refine ⟨b,off,cs,ha,hb,hr.mono ?_,hc⟩
  rintro d c ⟨D,at',A,B,T,N,E,body,els,uE,uB,uL,h1,h2,h3,h4,h5⟩
  exact ⟨D,at',A,B,T,N,E,body,els,uE,uB,uL,h1,h2,h3.more m,ih h4,ih h5⟩
theorem SL.nil (w:World) (P:Nat→Prop) (a:Option Addr) (cap:Nat):SL w P 1 [] (.slice a 0 cap):=Sl.nil _ _ _ _ _
theorem SL.slice {w:World} {P:Nat→Prop} {n:Nat} {l:List Sx.Tr} {v:Value} (h:SL w P n l v): ∃ a cap,v= .slice a l.length cap:=by
 cases n with
 |zero=>cases h
 |succ n=>obtain ⟨a,cap,hv,_⟩:=h;exact ⟨a,cap,hv⟩
theorem RS.keep {w w':World} {S:List Nat} {P:Nat→Prop} {n:Nat} {d:Sx.Tr} {c:List Value} (h:RS w P n d c) (hk:Kp S w w') (hS: ∀ k,k ∈ S→ ¬ P k):RS w' P n d c:=by
 obtain ⟨D,at',A,B,T,N,E,body,els,uE,uB,uL,h1,h2,h3,h4,h5⟩:=h
 exact ⟨D,at',A,B,T,N,E,body,els,uE,uB,uL,h1,h2,h3.keep hk hS,h4.keep hk hS,h5.keep hk hS⟩
theorem RS.base {w:World} {P P':Nat→Prop} {n:Nat} {d:Sx.Tr} {c:List Value} (h:RS w P n d c) (hP: ∀ b,b<w.heap.size→P b→P' b):RS w P' n d c:=by
 obtain ⟨D,at',A,B,T,N,E,body,els,uE,uB,uL,h1,h2,h3,h4,h5⟩:=h
 exact ⟨D,at',A,B,T,N,E,body,els,uE,uB,uL,h1,h2,h3.base hP,h4.base hP,h5.base hP⟩
theorem RS.more {w:World} {P:Nat→Prop} {n:Nat} {d:Sx.Tr} {c:List Value} (m:Nat) (h:RS w P n d c):RS w P (n+m) d c:=by
 obtain ⟨D,at',A,B,T,N,E,body,els,uE,uB,uL,h1,h2,h3,h4,h5⟩:=h
 exact ⟨D,at',A,B,T,N,E,body,els,uE,uB,uL,h1,h2,h3.more m,h4.more m,h5.more m⟩
theorem RG.keep {w w':World} {S:List Nat} {P:Nat→Prop} {n:Nat} {d:Sx.Tr} {c:List Value} (h:RG w P n d c) (hk:Kp S w w') (hS: ∀ k,k ∈ S→ ¬ P k):RG w' P n d c:=by
 obtain ⟨nm,at',ps,body,uP,uB,h1,h2,h3,h4⟩:=h
 exact ⟨nm,at',ps,body,uP,uB,h1,h2,h3.keep hk hS (fun _ _ h=>h),h4.keep hk hS⟩
theorem RP_ne {d:Sx.Tr} {c:List Value} (h:RP d c):c ≠ []:=by
 obtain ⟨nm,T,_,rfl⟩:=h;simp
theorem RG.base {w:World} {P P':Nat→Prop} {n:Nat} {d:Sx.Tr} {c:List Value} (h:RG w P n d c) (hP: ∀ b,b<w.heap.size→P b→P' b):RG w P' n d c:=by
 obtain ⟨nm,at',ps,body,uP,uB,h1,h2,h3,h4⟩:=h
 exact ⟨nm,at',ps,body,uP,uB,h1,h2,h3.base hP (fun _ _ h=>⟨h,RP_ne h⟩),h4.base hP⟩
theorem RG.more {w:World} {P:Nat→Prop} {n:Nat} {d:Sx.Tr} {c:List Value} (m:Nat) (h:RG w P n d c):RG w P (n+m) d c:=by
 obtain ⟨nm,at',ps,body,uP,uB,h1,h2,h3,h4⟩:=h
 exact ⟨nm,at',ps,body,uP,uB,h1,h2,h3,h4.more m⟩
end Go.Proofs.YtagblibbngmbdaaGreatDoor
namespace Go.Proofs.YtagblibbngmbdaaGreatDoor.Sx
open Go.Proofs.YtagblibbngmbdaaGreatDoor.Tk
def eL:Tr→List Tr
 | .agg [_,_,_,.agg L]=>L
 |_=>[]
def eH:Tr→Int × List UInt8 × Int
 | .agg [.lit (.int _ op),.lit (.string nm),.lit (.int _ k),_]=>(op,nm,k)
 |_=>(0,[],0)
def sH:Tr→Int × List UInt8 × List UInt8 × List UInt8 × Int
 | .agg [.lit (.int _ d),_,.lit (.string A),.lit (.string B),.lit (.string T),.lit (.int _ n),_,_,_]=>(d,A,B,T,n)
 |_=>(0,[],[],[],0)
def sE:Tr→List Tr
 | .agg [_,_,_,_,_,_,.agg E,_,_]=>E
 |_=>[]
def sB:Tr→List Tr
 | .agg [_,_,_,_,_,_,_,.agg b,_]=>b
 |_=>[]
def sO:Tr→List Tr
 | .agg [_,_,_,_,_,_,_,_,.agg o]=>o
 |_=>[]
def gN:Tr→List UInt8
 | .agg [.lit (.string nm),_,_,_]=>nm
 |_=>[]
def gP:Tr→List Tr
 | .agg [_,_,.agg ps,_]=>ps
 |_=>[]
def gB:Tr→List Tr
 | .agg [_,_,_,.agg b]=>b
 |_=>[]
def pH:Tr→List UInt8 × List UInt8
 | .agg [.lit (.string nm),.lit (.string T)]=>(nm,T)
 |_=>([],[])
def sum (f:Tr→Nat):List Tr→Nat
 |[]=>0
 |d::r=>f d+sum f r
theorem sum_take (f:Tr→Nat) (l:List Tr) (i:Nat) (d:Tr) (h:l[i]? =some d):sum f (l.take (i+1))=sum f (l.take i)+f d:=by
 induction l generalizing i with
 |nil=>simp at h
 |cons x r ih=>
  cases i with
  |zero=>simp at h;subst h;simp [sum]
  |succ i=>
   have:=ih i (by simpa using h)
   simp only [List.take_succ_cons,sum]
   rw [this]
   omega
theorem sum_take_le (f:Tr→Nat) (l:List Tr) (i:Nat):sum f (l.take i)≤sum f l:=by
 induction l generalizing i with
 |nil=>simp
 |cons x r ih=>
  cases i with
  |zero=>simp [sum]
  |succ i=>have:=ih i;simp only [List.take_succ_cons,sum];omega
def cnt:Nat→List Tr→Nat
 |0,_=>0
 |n+1,l=>l.length+sum (fun d=>cnt n (sB d)+cnt n (sO d)) l
def wE:Nat→List Tr→Nat
 |0,_=>0
 |n+1,l=>l.length+sum (fun d=>wE n (eL d)) l
def wS:Nat→List Tr→Nat
 |0,_=>0
 |n+1,l=>l.length+sum (fun d=>wE n (sE d)+wS n (sB d)+wS n (sO d)) l
def wG (n:Nat) (l:List Tr):Nat:=sum (fun d=>wS n (gB d)) l
end Go.Proofs.YtagblibbngmbdaaGreatDoor.Sx
namespace Go.Proofs.YtagblibbngmbdaaGreatDoor.Rn
open Go.Proofs.YtagblibbngmbdaaGreatDoor Go.Proofs.YtagblibbngmbdaaGreatDoor.Sx
def sides:List UInt8→Bool
 |[]=>false
 |[b]=>b == 105
 |b::r=>(b == 115 || b == 114) && sides r
def isT (t:List UInt8) (ends:Int):Bool:=sides t && decide ((t.length:Int) - 1≤ends)
def prt (n:Nat) (d:Tr):Nat:=1+wE n (eL d)
theorem wE_prt (n:Nat) (l:List Tr):wE (n+1) l=sum (prt n) l:=by
 show l.length+sum (fun d=>wE n (eL d)) l=_
 induction l with
 |nil=>rfl
 |cons d r ih=>simp only [sum,prt,List.length_cons] at ih ⊢;omega
def cpl (g:Nat→Tr→Nat) (most:Nat):Nat→List Tr→Nat
 |acc,[]=>acc
 |acc,d::r=>if most<acc then acc else cpl g most (acc+g (most - acc) d) r
def cpt:Nat→Nat→Tr→Nat
 |0,_,_=>1
 |n+1,most,d=>cpl (cpt n) most 1 (eL d)
theorem zn9 (g:Nat→Tr→Nat) (most acc:Nat) (l:List Tr):acc≤cpl g most acc l:=by
 induction l generalizing acc with
 |nil=>exact Nat.le_refl _
 |cons d r ih=>
  simp only [cpl]
  split
  ·exact Nat.le_refl _
  ·have:=ih (acc+g (most - acc) d);omega
theorem zoa (g:Nat→Tr→Nat) (p:Tr→Nat) (h: ∀ m d,(p d≤m→g m d=p d)∧(m<p d→m<g m d)) (most acc:Nat) (l:List Tr):
  (acc+sum p l≤most→cpl g most acc l=acc+sum p l)∧(most<acc+sum p l→most<cpl g most acc l):=by
 induction l generalizing acc with
 |nil=>simp only [cpl,sum];omega
 |cons d r ih=>
  simp only [cpl,sum]
  have hd:=h (most - acc) d
  have hi:=ih (acc+g (most - acc) d)
  have hge:=zn9 g most (acc+g (most - acc) d) r
  by_cases ha:most<acc
  ·rw [if_pos ha];omega
  ·rw [if_neg ha]
   by_cases hp:p d≤most - acc
   ·have e:=hd.1 hp
    rw [e] at hi ⊢
    refine ⟨fun hh=> ?_,fun hh=>hi.2 (by omega)⟩
    rw [hi.1 (by omega)];omega
   ·have e:=hd.2 (by omega)
    refine ⟨fun hh=>by omega,fun _=>by omega⟩
theorem zob (n:Nat): ∀ m d,(prt n d≤m→cpt n m d=prt n d)∧(m<prt n d→m<cpt n m d):=by
 induction n with
 |zero=>intro m d;simp [prt,cpt,wE]
 |succ n ih=>
  intro m d
  have:=zoa (cpt n) (prt n) ih m 1 (eL d)
  simp only [prt,cpt]
  rw [wE_prt]
  exact this
theorem cpt_lt (n m:Nat) (d:Tr):m<cpt n m d ↔ m<prt n d:=by
 have:=zob n m d
 constructor
 ·intro h;apply Nat.lt_of_not_le;intro hp;have:=this.1 hp;omega
 ·exact this.2
def firstOf {α:Type} (g:α→Int):List α→Int
 |[]=>0
 |d::r=>if g d ≠ 0 then g d else firstOf g r
def want (op:Int):Nat:=if op=1∨op=2 then 0 else if op=3 then 1 else 2
def xf:Nat→Tr→Int
 |0,_=>0
 |n+1,d=>
  let (op,nm,k):=eH d
  if op<1∨8<op∨(eL d).length ≠ want op∨(k ≠ 0∧op ≠ 1)∨(nm ≠ []∧op ≠ 2) then 5
  else if op=2∧Tk.isN nm=false then 4
  else if k<0∨1000000000000000000≤k then 3
  else firstOf (xf n) (eL d)
def ef (n:Nat) (d:Tr):Int:=if 20<prt n d then 8 else xf n d
def hasA (d:Int):Bool:=d !=3 && d !=13 && d !=14
def hasB (d:Int):Bool:=d == 4 || d == 5 || d == 11 || d == 12
def hasT (d:Int):Bool:=d == 4
def hasS (d:Int):Bool:=decide (11≤d)
def hasO (d:Int):Bool:=d == 11 || d == 14
def fewE (d:Int):Nat:=if d=1∨d=2∨d=3∨d=6∨d=13∨d=14 then 1 else 0
def formed (t:Tr):Bool:=
 let (d,A,B,T,k):=sH t
 decide (1≤d) && decide (d≤14) && (hasA d || A == []) && (hasB d || B == []) && (hasT d || T == []) && (hasT d || k == 0) &&
  (hasS d || (sB t).isEmpty) && (hasO d || (sO t).isEmpty) && (d == 10 || (sE t).length == fewE d)
def sf (n:Nat) (deep:Nat) (t:Tr):Int:=
 let (d,A,B,T,k):=sH t
 if formed t=false then 5
 else if 6<(sE t).length then 8
 else if (hasA d=true∧Tk.isN A=false)∨(hasB d=true∧Tk.isN B=false) then 4
 else if hasT d=true∧isT T 3=false then 11
 else if k<0∨1000000000000000000≤k then 14
 else if firstOf (ef n) (sE t) ≠ 0 then firstOf (ef n) (sE t)
 else if hasS d=true∧8≤deep then 7 else 0
abbrev Bf:=Sum Nat (Int × Int)
def thn (m:Bf) (k:Nat→Bf):Bf:=match m with
 | .inl a=>k a
 | .inr f=> .inr f
def goS (g:Nat→Tr→Bf):Nat→List Tr→Bf
 |a,[]=> .inl a
 |a,t::r=>thn (g a t) fun b=>goS g b r
def bf:Nat→Nat→Nat→List Tr→Bf
 |0,_,a,_=> .inl a
 |n+1,deep,a,l=>goS (fun a t=>
   if 300≤a then .inr (8,a) else if sf n deep t ≠ 0 then .inr (sf n deep t,a)
   else thn (bf n (deep+1) (a+1) (sB t)) fun b=>bf n (deep+1) b (sO t)) a l
def hf (g:Tr):Int:=
 if Tk.isN (gN g)=false then 4 else if 6<(gP g).length then 8
 else firstOf (fun p=>if Tk.isN (pH p).1=false then 4 else if isT (pH p).2 3=false then 11 else 0) (gP g)
def gf (n:Nat):Nat→Nat→List Tr→Bf
 |_,a,[]=> .inl a
 |i,a,g::r=>if hf g ≠ 0 then .inr (hf g,-2 - (i:Int)) else thn (bf n 1 a (gB g)) fun b=>gf n (i+1) b r
def pf (n:Nat) (l:List Tr):Int × Int:=
 if l.length=0 then (10,-1) else if 10<l.length then (8,-1) else match gf n 0 0 l with
  | .inl _=>(0,0)
  | .inr f=>f
def digs (k:Int):List UInt8:=Lib.itoa k
def tyw:List UInt8→List UInt8
 |[]=>[]
 |b::r=>(if b=115 then [115,101,110,100,32] else if b=114 then [114,101,99,118,32] else [105,110,116])++tyw r
def holds (op:Int):Nat:=if op=7∨op=8 then 0 else if op=4∨op=5 then 1 else if op=6 then 2 else 3
def sign (op:Int):List UInt8:=if op=4 then [32,43,32] else if op=5 then [32,45,32] else if op=6 then [32,42,32] else if op=7 then [32,60,32] else [32,61,61,32]
def lft (op:Int):Nat:=if holds op=0 then 1 else holds op
def brk (b:Bool) (x:List UInt8):List UInt8:=if b then [40]++x++[41] else x
def xt:Nat→Nat→Tr→List UInt8
 |0,_,_=>[]
 |n+1,must,d=>
  let (op,nm,k):=eH d
  brk (decide (holds op<must)) (if op=1 then digs k else if op=2 then nm else if op=3 then [45]++xt n 3 ((eL d).headD d0)
   else xt n (lft op) ((eL d).headD d0)++sign op++xt n (holds op+1) ((eL d).tail.headD d0))
def com:List (List UInt8)→List UInt8
 |[]=>[]
 |[x]=>x
 |x::r=>x++[44,32]++com r
def tabs (k:Nat):List UInt8:=List.replicate k 9
def ahead (n:Nat) (t:Tr):List UInt8:=
 let (d,A,B,T,k):=sH t
 let E:=com ((sE t).map (xt n 0))
 if d=1 then [108,101,116,32]++A++[32,61,32]++E++[59]
 else if d=2 then [115,101,116,32]++A++[32,61,32]++E++[59]
 else if d=3 then [101,109,105,116,32]++E++[59]
 else if d=4 then [99,104,97,110,32]++A++[32]++B++[32]++tyw T++[32]++digs k++[59]
 else if d=5 then [99,108,111,110,101,32]++A++[32]++B++[59]
 else if d=6 then [115,101,110,100,32]++A++[32]++E++[59]
 else if d=7 then [99,108,111,115,101,32]++A++[59]
 else if d=8 then [97,98,97,110,100,111,110,32]++A++[59]
 else if d=9 then [100,114,97,105,110,32]++A++[59]
 else if d=10 then [115,112,97,119,110,32]++A++[40]++E++[41,59]
 else if d=11 then [116,97,107,101,32]++A++[32,102,114,111,109,32]++B++[32]
 else if d=12 then [102,111,114,32]++A++[32,102,114,111,109,32]++B++[32]
 else if d=13 then [114,101,112,101,97,116,32]++E++[32]
 else [105,102,32]++E++[32]
def cat (g:Tr→List UInt8):List Tr→List UInt8
 |[]=>[]
 |t::r=>g t++cat g r
def blt:Nat→Nat→List Tr→List UInt8
 |0,_,_=>[]
 |n+1,k,l=>[123,10]++cat (fun t=>tabs (k+1)++ahead n t++
   (if hasS (sH t).1 then blt n (k+1) (sB t)++(if (sO t).isEmpty then [] else [32,101,108,115,101,32]++blt n (k+1) (sO t)) else [])++[10]) l++tabs k++[125]
def stt (n:Nat) (g:Tr):List UInt8:=
 [115,116,97,103,101,32]++gN g++[40]++com ((gP g).map fun p=>(pH p).1++[32]++tyw (pH p).2)++[41,32]++blt n 0 (gB g)++[10]
def pt (n:Nat) (l:List Tr):List UInt8:=cat (stt n) l
def told (n:Nat) (l:List Tr):Int × Int:=if (pf n l).1 ≠ 0 then pf n l else if 12000<(pt n l).length then (1,-1) else (0,0)
theorem cat_append (g:Tr→List UInt8) (l m:List Tr):cat g (l++m)=cat g l++cat g m:=by
 induction l with
 |nil=>rfl
 |cons t r ih=>simp only [List.cons_append,cat,ih,List.append_assoc]
end Go.Proofs.YtagblibbngmbdaaGreatDoor.Rn
namespace Go.Proofs.YtagblibbngmbdaaGreatDoor
open Go.RowKit
theorem zmd {w:World} {P:Nat→Prop} {n:Nat} (d:Sx.Tr) (c:List Value) (h:RS w P n d c):c.length=9:=by
 obtain ⟨D,at',A,B,T,N,E,body,els,uE,uB,uL,_,rfl,_⟩:=h
 rfl
theorem zme {w:World} {P:Nat→Prop} {n:Nat} (d:Sx.Tr) (c:List Value) (h:RG w P n d c):c.length=4:=by
 obtain ⟨nm,at',ps,body,uP,uB,_,rfl,_⟩:=h
 rfl
theorem SL.nth {w:World} {P:Nat→Prop} {n:Nat} {l:List Sx.Tr} {a:Option Addr} {cap:Nat} (h:SL w P (n+1) l (.slice a l.length cap)) (i:Nat) (hi:i<l.length):
  ∃ b off D at' A B T N E body els uE uB uL,a=some ⟨b,off,none⟩∧P b∧l[i]? =some (Sx.tS D at' A B T N E body els)∧
   w.cell? ⟨b,off+i * 9,none⟩=some (.int .i64 D)∧w.cell? ⟨b,off+i * 9+1,none⟩=some (.int .i64 at')∧w.cell? ⟨b,off+i * 9+2,none⟩=some (.string (bs A))∧
   w.cell? ⟨b,off+i * 9+3,none⟩=some (.string (bs B))∧w.cell? ⟨b,off+i * 9+4,none⟩=some (.string (bs T))∧w.cell? ⟨b,off+i * 9+5,none⟩=some (.int .i64 N)∧
   w.cell? ⟨b,off+i * 9+6,none⟩=some uE∧w.cell? ⟨b,off+i * 9+7,none⟩=some uB∧w.cell? ⟨b,off+i * 9+8,none⟩=some uL∧EL w P n E uE∧SL w P n body uB∧SL w P n els uL:=by
 rw [zdb] at h
 obtain ⟨a',cap',hv,h⟩:=h
 cases hv
 rcases h with h|⟨b,off,cs,ha,hb,hr,hc⟩
 ·subst h;simp at hi
 ·obtain ⟨c,hR,hcu⟩:=hr.at zmd i _ (List.getElem?_eq_getElem hi)
  obtain ⟨D,at',A,B,T,N,E,body,els,uE,uB,uL,hd,rfl,h1,h2,h3⟩:=hR
  have hx:=fun j u hu=>hc _ u (hcu j u hu)
  simp only [←Nat.add_assoc] at hx
  exact ⟨b,off,D,at',A,B,T,N,E,body,els,uE,uB,uL,ha,hb,by rw [List.getElem?_eq_getElem hi,hd],hx 0 _ rfl,hx 1 _ rfl,hx 2 _ rfl,hx 3 _ rfl,hx 4 _ rfl,hx 5 _ rfl,hx 6 _ rfl,hx 7 _ rfl,hx 8 _ rfl,h1,h2,h3⟩
theorem GL.nth {w:World} {P:Nat→Prop} {n:Nat} {l:List Sx.Tr} {a:Option Addr} {cap:Nat} (h:Sl (RG w P n) w P l (.slice a l.length cap)) (i:Nat) (hi:i<l.length):
  ∃ b off nm at' ps body uP uB,a=some ⟨b,off,none⟩∧P b∧l[i]? =some (Sx.tG nm at' ps body)∧
   w.cell? ⟨b,off+i * 4,none⟩=some (.string (bs nm))∧w.cell? ⟨b,off+i * 4+1,none⟩=some (.int .i64 at')∧w.cell? ⟨b,off+i * 4+2,none⟩=some uP∧
   w.cell? ⟨b,off+i * 4+3,none⟩=some uB∧Sl RP w P ps uP∧SL w P n body uB:=by
 obtain ⟨a',cap',hv,h⟩:=h
 cases hv
 rcases h with h|⟨b,off,cs,ha,hb,hr,hc⟩
 ·subst h;simp at hi
 ·obtain ⟨c,hR,hcu⟩:=hr.at zme i _ (List.getElem?_eq_getElem hi)
  obtain ⟨nm,at',ps,body,uP,uB,hd,rfl,h1,h2⟩:=hR
  have hx:=fun j u hu=>hc _ u (hcu j u hu)
  simp only [←Nat.add_assoc] at hx
  exact ⟨b,off,nm,at',ps,body,uP,uB,ha,hb,by rw [List.getElem?_eq_getElem hi,hd],hx 0 _ rfl,hx 1 _ rfl,hx 2 _ rfl,hx 3 _ rfl,h1,h2⟩
end Go.Proofs.YtagblibbngmbdaaGreatDoor
namespace Go.Proofs.YtagblibbngmbdaaGreatDoor
open Go.RowKit
theorem EL.nth {w:World} {P:Nat→Prop} {n:Nat} {l:List Sx.Tr} {a:Option Addr} {cap:Nat} (h:EL w P (n+1) l (.slice a l.length cap)) (i:Nat) (hi:i<l.length):
  ∃ b off op nm k L aL cL,a=some ⟨b,off,none⟩∧P b∧l[i]? =some (Sx.tE op nm k L)∧w.cell? ⟨b,off+i * 4,none⟩=some (.int .i64 op)∧w.cell? ⟨b,off+i * 4+1,none⟩=some (.string (bs nm))∧
    w.cell? ⟨b,off+i * 4+2,none⟩=some (.int .i64 k)∧w.cell? ⟨b,off+i * 4+3,none⟩=some (.slice aL L.length cL)∧EL w P n L (.slice aL L.length cL):=by
 obtain ⟨a',cap',hv,h⟩:=h
 cases hv
 rcases h with h|⟨b,off,ha,hb,hc⟩
 ·subst h;simp at hi
 ·obtain ⟨op,nm,k,L,u,hd,h1,h2,h3,h4,h5⟩:=hc i _ (List.getElem?_eq_getElem hi)
  obtain ⟨aL,cL,rfl⟩:=h5.slice
  exact ⟨b,off,op,nm,k,L,aL,cL,ha,hb,by rw [List.getElem?_eq_getElem hi,hd],h1,h2,h3,h4,h5⟩
theorem Post.ret {α:Type} {c:Cx} {S:List Nat} {w w':World} {enc:World→α→Value→Prop} {r:Sx.Rs α} {v:Value} (h:Post c S w enc r (.returned v) w'): ∃ x s n,r= .inl (x,s,c.full.drop n)∧enc w' x v∧RD c w' n s∧Kp S w w':=by
 rcases r with ⟨x,s,ts⟩|⟨code,p,rest⟩
 ·obtain ⟨v',n,he,h1,h2,h3,h4⟩:=h
  cases he
  exact ⟨x,s,n,by rw [h2],h1,h3,h4⟩
 ·exact absurd h.1 (by simp)
theorem Post.pan {α:Type} {c:Cx} {S:List Nat} {w w':World} {enc:World→α→Value→Prop} {r:Sx.Rs α} {ch:List PanicEntry} (h:Post c S w enc r (.panicked ch) w'): ∃ code p rest,r= .inr (code,p,rest)∧ch=gv code p∧Kp S w w':=by
 rcases r with ⟨x,s,ts⟩|⟨code,p,rest⟩
 ·obtain ⟨v',n,he,_⟩:=h
  cases he
 ·obtain ⟨he,hk⟩:=h
  cases he
  exact ⟨code,p,rest,rfl,rfl,hk⟩
structure S9 (w:World) (b:Nat) (D at':Int) (A B T:ByteArray) (N:Int) (uE uB uL:Value):Prop where
 c0:w.cell? ⟨b,0,none⟩=some (.int .i64 D)
 c1:w.cell? ⟨b,1,none⟩=some (.int .i64 at')
 c2:w.cell? ⟨b,2,none⟩=some (.string A)
 c3:w.cell? ⟨b,3,none⟩=some (.string B)
 c4:w.cell? ⟨b,4,none⟩=some (.string T)
 c5:w.cell? ⟨b,5,none⟩=some (.int .i64 N)
 c6:w.cell? ⟨b,6,none⟩=some uE
 c7:w.cell? ⟨b,7,none⟩=some uB
 c8:w.cell? ⟨b,8,none⟩=some uL
 fz: ∀ o,w.frozen? ⟨b,o,none⟩=false
section
variable {w w':World} {S:List Nat} {b:Nat} {D at':Int} {A B T:ByteArray} {N:Int} {uE uB uL:Value}
theorem S9.lt (h:S9 w b D at' A B T N uE uB uL):b<w.heap.size:=World.block_lt_of_cell? w ⟨b,0,none⟩ h.c0
theorem S9.keep (h:S9 w b D at' A B T N uE uB uL) (k:Kp S w w') (hn:b ∉ S):S9 w' b D at' A B T N uE uB uL:=
 ⟨k.some h.c0 hn,k.some h.c1 hn,k.some h.c2 hn,k.some h.c3 hn,k.some h.c4 hn,k.some h.c5 hn,k.some h.c6 hn,k.some h.c7 hn,k.some h.c8 hn,fun o=>(k.frozen (p:=⟨b,o,none⟩) h.lt hn).trans (h.fz o)⟩
theorem S9.setA (h:S9 w b D at' A B T N uE uB uL) (x:ByteArray):S9 (w.setCell ⟨b,2,none⟩ (.string x)) b D at' x B T N uE uB uL:=
 ⟨(zab _ _ _ _ _ (by decide)).trans h.c0,(zab _ _ _ _ _ (by decide)).trans h.c1,by rw [World.cell?_setCell_same (h:=h.c2)],(zab _ _ _ _ _ (by decide)).trans h.c3,(zab _ _ _ _ _ (by decide)).trans h.c4,(zab _ _ _ _ _ (by decide)).trans h.c5,(zab _ _ _ _ _ (by decide)).trans h.c6,(zab _ _ _ _ _ (by decide)).trans h.c7,(zab _ _ _ _ _ (by decide)).trans h.c8,fun o=>by simpa using h.fz o⟩
theorem S9.setB (h:S9 w b D at' A B T N uE uB uL) (x:ByteArray):S9 (w.setCell ⟨b,3,none⟩ (.string x)) b D at' A x T N uE uB uL:=
 ⟨(zab _ _ _ _ _ (by decide)).trans h.c0,(zab _ _ _ _ _ (by decide)).trans h.c1,(zab _ _ _ _ _ (by decide)).trans h.c2,by rw [World.cell?_setCell_same (h:=h.c3)],(zab _ _ _ _ _ (by decide)).trans h.c4,(zab _ _ _ _ _ (by decide)).trans h.c5,(zab _ _ _ _ _ (by decide)).trans h.c6,(zab _ _ _ _ _ (by decide)).trans h.c7,(zab _ _ _ _ _ (by decide)).trans h.c8,fun o=>by simpa using h.fz o⟩
theorem S9.setT (h:S9 w b D at' A B T N uE uB uL) (x:ByteArray):S9 (w.setCell ⟨b,4,none⟩ (.string x)) b D at' A B x N uE uB uL:=
 ⟨(zab _ _ _ _ _ (by decide)).trans h.c0,(zab _ _ _ _ _ (by decide)).trans h.c1,(zab _ _ _ _ _ (by decide)).trans h.c2,(zab _ _ _ _ _ (by decide)).trans h.c3,by rw [World.cell?_setCell_same (h:=h.c4)],(zab _ _ _ _ _ (by decide)).trans h.c5,(zab _ _ _ _ _ (by decide)).trans h.c6,(zab _ _ _ _ _ (by decide)).trans h.c7,(zab _ _ _ _ _ (by decide)).trans h.c8,fun o=>by simpa using h.fz o⟩
theorem S9.setN (h:S9 w b D at' A B T N uE uB uL) (x:Int):S9 (w.setCell ⟨b,5,none⟩ (.int .i64 x)) b D at' A B T x uE uB uL:=
 ⟨(zab _ _ _ _ _ (by decide)).trans h.c0,(zab _ _ _ _ _ (by decide)).trans h.c1,(zab _ _ _ _ _ (by decide)).trans h.c2,(zab _ _ _ _ _ (by decide)).trans h.c3,(zab _ _ _ _ _ (by decide)).trans h.c4,by rw [World.cell?_setCell_same (h:=h.c5)],(zab _ _ _ _ _ (by decide)).trans h.c6,(zab _ _ _ _ _ (by decide)).trans h.c7,(zab _ _ _ _ _ (by decide)).trans h.c8,fun o=>by simpa using h.fz o⟩
theorem S9.setE (h:S9 w b D at' A B T N uE uB uL) (x:Value):S9 (w.setCell ⟨b,6,none⟩ x) b D at' A B T N x uB uL:=
 ⟨(zab _ _ _ _ _ (by decide)).trans h.c0,(zab _ _ _ _ _ (by decide)).trans h.c1,(zab _ _ _ _ _ (by decide)).trans h.c2,(zab _ _ _ _ _ (by decide)).trans h.c3,(zab _ _ _ _ _ (by decide)).trans h.c4,(zab _ _ _ _ _ (by decide)).trans h.c5,by rw [World.cell?_setCell_same (h:=h.c6)],(zab _ _ _ _ _ (by decide)).trans h.c7,(zab _ _ _ _ _ (by decide)).trans h.c8,fun o=>by simpa using h.fz o⟩
theorem S9.setBody (h:S9 w b D at' A B T N uE uB uL) (x:Value):S9 (w.setCell ⟨b,7,none⟩ x) b D at' A B T N uE x uL:=
 ⟨(zab _ _ _ _ _ (by decide)).trans h.c0,(zab _ _ _ _ _ (by decide)).trans h.c1,(zab _ _ _ _ _ (by decide)).trans h.c2,(zab _ _ _ _ _ (by decide)).trans h.c3,(zab _ _ _ _ _ (by decide)).trans h.c4,(zab _ _ _ _ _ (by decide)).trans h.c5,(zab _ _ _ _ _ (by decide)).trans h.c6,by rw [World.cell?_setCell_same (h:=h.c7)],(zab _ _ _ _ _ (by decide)).trans h.c8,fun o=>by simpa using h.fz o⟩
theorem S9.setElse (h:S9 w b D at' A B T N uE uB uL) (x:Value):S9 (w.setCell ⟨b,8,none⟩ x) b D at' A B T N uE uB x:=
 ⟨(zab _ _ _ _ _ (by decide)).trans h.c0,(zab _ _ _ _ _ (by decide)).trans h.c1,(zab _ _ _ _ _ (by decide)).trans h.c2,(zab _ _ _ _ _ (by decide)).trans h.c3,(zab _ _ _ _ _ (by decide)).trans h.c4,(zab _ _ _ _ _ (by decide)).trans h.c5,(zab _ _ _ _ _ (by decide)).trans h.c6,(zab _ _ _ _ _ (by decide)).trans h.c7,by rw [World.cell?_setCell_same (h:=h.c8)],fun o=>by simpa using h.fz o⟩
theorem S9.new (w:World) (D at':Int) (A B T:ByteArray) (N:Int) (uE uB uL:Value) (t:TypeId):S9 (w.alloc (.cells #[.int .i64 D,.int .i64 at',.string A,.string B,.string T,.int .i64 N,uE,uB,uL] t)) w.heap.size D at' A B T N uE uB uL:=
 ⟨by simp [go_sem],by simp [go_sem],by simp [go_sem],by simp [go_sem],by simp [go_sem],by simp [go_sem],by simp [go_sem],by simp [go_sem],by simp [go_sem],fun o=>by simp [go_sem]⟩
end
def Sx.nest (e f d:Nat) (s:Sx.St) (ts:List Tk.Tok):Sx.Rs (Sx.Flds × List Sx.Tr × List Sx.Tr):=
 Sx.bnd (Sx.nestA e f d s ts) fun x s r=>Sx.bnd (Sx.ps e f 0 [] s r) fun body s r=>
  Sx.bnd (if (d=11∨d=14)∧Sx.txt r=Sx.wElse then Sx.bnd (Sx.skp e Sx.wElse s r) fun _ s r=>Sx.ps e f 0 [] s r else .inl ([],s,r)) fun els s r=> .inl ((x,body,els),s,r)
theorem Sx.bnd_bnd {α β γ:Type} (m:Sx.Rs α) (k:α→Sx.St→List Tk.Tok→Sx.Rs β) (l:β→Sx.St→List Tk.Tok→Sx.Rs γ):Sx.bnd (Sx.bnd m k) l=Sx.bnd m fun x s r=>Sx.bnd (k x s r) l:=by
 rcases m with ⟨x,s,r⟩|f<;> rfl
def encF (w0:World) (sb:Nat) (D at':Int) (w':World) (x:Sx.Flds) (v:Value):Prop:=
 v= .tuple #[]∧ ∃ m a cap,S9 w' sb D at' (bs x.A) (bs x.B) (bs x.T) x.n (.slice a x.E.length cap) (.slice none 0 0) (.slice none 0 0)∧EL w' (fun b=>w0.heap.size≤b) m x.E (.slice a x.E.length cap)
def encB (w0:World) (sb:Nat) (D at':Int) (w':World) (x:Sx.Flds × List Sx.Tr × List Sx.Tr) (v:Value):Prop:=
 v= .tuple #[]∧ ∃ m a cap a1 cap1 a2 cap2,S9 w' sb D at' (bs x.1.A) (bs x.1.B) ⟨#[]⟩ 0 (.slice a x.1.E.length cap) (.slice a1 x.2.1.length cap1) (.slice a2 x.2.2.length cap2)∧
  EL w' (fun b=>w0.heap.size≤b) m x.1.E (.slice a x.1.E.length cap)∧SL w' (fun b=>w0.heap.size≤b) m x.2.1 (.slice a1 x.2.1.length cap1)∧SL w' (fun b=>w0.heap.size≤b) m x.2.2 (.slice a2 x.2.2.length cap2)
def encL (w0:World) (w':World) (l:List Sx.Tr) (v:Value):Prop:= ∃ m,SL w' (fun b=>w0.heap.size≤b) m l v
def encSt (w0:World) (w':World) (l:List Sx.Tr) (v:Value):Prop:= ∃ m d D at' A B T N u0 u1 u2,l=[d]∧v= .agg #[.int .i64 D,.int .i64 at',.string A,.string B,.string T,.int .i64 N,u0,u1,u2]∧
 (∃ a n cap,u0= .slice a n cap)∧(∃ a n cap,u1= .slice a n cap)∧(∃ a n cap,u2= .slice a n cap)∧
 RS w' (fun b=>w0.heap.size≤b) m d [.int .i64 D,.int .i64 at',.string A,.string B,.string T,.int .i64 N,u0,u1,u2]
def CB (f:Nat):Prop:= ∀ (c:Cx) (w:World) (n:Nat) (s:Sx.St),RD c w n s→ ¬ Dry (Sx.ps c.e f 0 [] s (c.full.drop n))→
 Calls Tryz.prog 110 #[.pointer (some ⟨c.rb,0,none⟩)] w (Post c [c.rb] w (encL w) (Sx.ps c.e f 0 [] s (c.full.drop n)))
def CS (f:Nat):Prop:= ∀ (c:Cx) (w:World) (n:Nat) (s:Sx.St),RD c w n s→ ¬ Dry (Sx.ps c.e f 1 [] s (c.full.drop n))→
 Calls Tryz.prog 130 #[.pointer (some ⟨c.rb,0,none⟩)] w (Post c [c.rb] w (encSt w) (Sx.ps c.e f 1 [] s (c.full.drop n)))
def Cx.apart (c:Cx) (sb:Nat):Prop:=c.rb ≠ sb∧(c.full ≠ []→c.tb ≠ sb)
theorem RD.set_apart {c:Cx} {w:World} {n:Nat} {s:Sx.St} {sb:Nat} (h:RD c w n s) (hA:c.apart sb) (o:Nat) (v:Value):RD c (w.setCell ⟨sb,o,none⟩ v) n s:=
 h.keep (S:=[sb]) (Kp.rb (Kp.refl _ _) _ _) (by simpa using hA.1) (fun hne=>by simpa using hA.2 hne)
end Go.Proofs.YtagblibbngmbdaaGreatDoor
namespace Go.Proofs.YtagblibbngmbdaaGreatDoor
open Go.RowKit
end Go.Proofs.YtagblibbngmbdaaGreatDoor
namespace Go.Proofs.YtagblibbngmbdaaGreatDoor
open Go.RowKit
theorem RP_len (d:Sx.Tr) (c:List Value) (h:RP d c):c.length=2:=by
 obtain ⟨nm,T,_,rfl⟩:=h
 rfl
theorem PL.nth {w:World} {P:Nat→Prop} {l:List Sx.Tr} {a:Option Addr} {cap:Nat} (h:Sl RP w P l (.slice a l.length cap)) (i:Nat) (hi:i<l.length):
  ∃ b off nm T,a=some ⟨b,off,none⟩∧P b∧l[i]? =some (Sx.tP nm T)∧w.cell? ⟨b,off+i * 2,none⟩=some (.string (bs nm))∧w.cell? ⟨b,off+i * 2+1,none⟩=some (.string (bs T)):=by
 obtain ⟨a',cap',hv,h⟩:=h
 cases hv
 rcases h with h|⟨b,off,cs,ha,hb,hr,hc⟩
 ·subst h;simp at hi
 ·obtain ⟨c,hR,hcu⟩:=hr.at RP_len i _ (List.getElem?_eq_getElem hi)
  obtain ⟨nm,T,hd,rfl⟩:=hR
  have hx:=fun j u hu=>hc _ u (hcu j u hu)
  simp only [←Nat.add_assoc] at hx
  exact ⟨b,off,nm,T,ha,hb,by rw [List.getElem?_eq_getElem hi,hd],hx 0 _ rfl,hx 1 _ rfl⟩
structure Sm (n:Nat) (l:List Sx.Tr):Prop where
 len:l.length≤1000000
 ps: ∀ (i:Nat) d,l[i]? =some d→(Sx.gP d).length≤1000000
 w:Sx.wG n l≤1000000
end Go.Proofs.YtagblibbngmbdaaGreatDoor
namespace Go.Proofs.YtagblibbngmbdaaGreatDoor
open Go.RowKit
def LbE:Nat→List Sx.Tr→Prop
 |0,_=>True
 |n+1,l=>l.length≤9223372036854775807∧ ∀ (i:Nat) d,l[i]? =some d→LbE n (Sx.eL d)
def LbS:Nat→List Sx.Tr→Prop
 |0,_=>True
 |n+1,l=>l.length≤9223372036854775807∧ ∀ (i:Nat) d,l[i]? =some d→LbE n (Sx.sE d)∧LbS n (Sx.sB d)∧LbS n (Sx.sO d)
end Go.Proofs.YtagblibbngmbdaaGreatDoor
namespace Go.Proofs.YtagblibbngmbdaaGreatDoor
open Go.RowKit
structure LbG (n:Nat) (l:List Sx.Tr):Prop where
 len:l.length≤9223372036854775807
 each: ∀ (i:Nat) d,l[i]? =some d→LbS n (Sx.gB d)∧(Sx.gP d).length≤9223372036854775807
end Go.Proofs.YtagblibbngmbdaaGreatDoor
