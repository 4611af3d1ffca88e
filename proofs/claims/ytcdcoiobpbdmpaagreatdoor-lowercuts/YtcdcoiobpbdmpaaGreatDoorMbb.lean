import Derived.Test.YtcdcoiobpbdmpaaGreatDoorMag
import Derived.Lib.ItoaMem
import Derived.BigQuiet
import Derived.Deep.RegionHeldLaw
import Derived.Test.YtcdcoiobpbdmpaaGreatDoorMba
import Derived.Test.YtcdcoiobpbdmpaaGreatDoorMay
namespace Go.Proofs.YtcdcoiobpbdmpaaGreatDoor
open Go.RowKit
end Go.Proofs.YtcdcoiobpbdmpaaGreatDoor
namespace Go.Proofs.YtcdcoiobpbdmpaaGreatDoor
open Go.RowKit
end Go.Proofs.YtcdcoiobpbdmpaaGreatDoor
namespace Go.Proofs.YtcdcoiobpbdmpaaGreatDoor
open Go.RowKit
end Go.Proofs.YtcdcoiobpbdmpaaGreatDoor
namespace Go.Proofs.YtcdcoiobpbdmpaaGreatDoor
open Go.RowKit
end Go.Proofs.YtcdcoiobpbdmpaaGreatDoor
namespace Go.Proofs.YtcdcoiobpbdmpaaGreatDoor
open Go.RowKit
end Go.Proofs.YtcdcoiobpbdmpaaGreatDoor
namespace Go.Proofs.YtcdcoiobpbdmpaaGreatDoor
open Go.RowKit
end Go.Proofs.YtcdcoiobpbdmpaaGreatDoor
namespace Go.Proofs.YtcdcoiobpbdmpaaGreatDoor
open Go.RowKit
end Go.Proofs.YtcdcoiobpbdmpaaGreatDoor
namespace Go.Proofs.YtcdcoiobpbdmpaaGreatDoor
open Go.RowKit
end Go.Proofs.YtcdcoiobpbdmpaaGreatDoor
namespace Go.Proofs.YtcdcoiobpbdmpaaGreatDoor
open Go.RowKit
end Go.Proofs.YtcdcoiobpbdmpaaGreatDoor
namespace Go.Proofs.YtcdcoiobpbdmpaaGreatDoor
open Go.RowKit
end Go.Proofs.YtcdcoiobpbdmpaaGreatDoor
namespace Go.Proofs.YtcdcoiobpbdmpaaGreatDoor
open Go.RowKit
end Go.Proofs.YtcdcoiobpbdmpaaGreatDoor
namespace Go.Proofs.YtcdcoiobpbdmpaaGreatDoor
open Go.RowKit
end Go.Proofs.YtcdcoiobpbdmpaaGreatDoor
namespace Go.Proofs.YtcdcoiobpbdmpaaGreatDoor
open Go.RowKit
end Go.Proofs.YtcdcoiobpbdmpaaGreatDoor
namespace Go.Proofs.YtcdcoiobpbdmpaaGreatDoor
open Go.RowKit
end Go.Proofs.YtcdcoiobpbdmpaaGreatDoor
namespace Go.Proofs.YtcdcoiobpbdmpaaGreatDoor
open Go.RowKit
end Go.Proofs.YtcdcoiobpbdmpaaGreatDoor
namespace Go.Proofs.YtcdcoiobpbdmpaaGreatDoor
open Go.RowKit
def Rn.nmS:Nat→List Sx.Tr→Prop
 |0,_=>True
 |n+1,l=> ∀ (i:Nat) t,l[i]? =some t→(Sx.sH t).2.1.length≤1099511627776∧(Sx.sH t).2.2.1.length≤1099511627776∧(Sx.sH t).2.2.2.1.length≤1099511627776∧
   (∀ (j:Nat) x,(Sx.sE t)[j]? =some x→Rn.nmE n x)∧Rn.nmS n (Sx.sB t)∧Rn.nmS n (Sx.sO t)
def Rn.b1 (n deep:Nat) (a:Nat) (t:Sx.Tr):Rn.Bf:=
 if 300≤a then .inr (8,a) else if Rn.sf n deep t ≠ 0 then .inr (Rn.sf n deep t,a)
 else Rn.thn (Rn.bf n (deep+1) (a+1) (Sx.sB t)) fun b=>Rn.bf n (deep+1) b (Sx.sO t)
theorem Rn.bf_goS (n deep a:Nat) (l:List Sx.Tr):Rn.bf (n+1) deep a l=Rn.goS (Rn.b1 n deep) a l:=rfl
theorem Rn.goS_drop {g:Nat→Sx.Tr→Rn.Bf} {l:List Sx.Tr} {k a:Nat} {t:Sx.Tr} (h:l[k]? =some t):Rn.goS g a (l.drop k)=Rn.thn (g a t) fun b=>Rn.goS g b (l.drop (k+1)):=by
 rw [drop_nth h]
 rfl
theorem Rn.thn_le {m:Rn.Bf} {k:Nat→Rn.Bf} {c:Nat} (h:Rn.thn m k= .inl c): ∃ b,m= .inl b∧k b= .inl c:=by
 cases m with
 |inl b=>exact ⟨b,rfl,h⟩
 |inr f=>cases h
theorem Rn.goS_le {g:Nat→Sx.Tr→Rn.Bf} (hg: ∀ a t b,a≤300→g a t= .inl b→b≤300) (l:List Sx.Tr) (a b:Nat) (ha:a≤300) (h:Rn.goS g a l= .inl b):b≤300:=by
 induction l generalizing a with
 |nil=>cases h;exact ha
 |cons t r ih=>
  obtain ⟨c,h1,h2⟩:=Rn.thn_le h
  exact ih c (hg a t c ha h1) h2
theorem Rn.bf_le (n:Nat): ∀ (deep a b:Nat) (l:List Sx.Tr),a≤300→Rn.bf n deep a l= .inl b→b≤300:=by
 induction n with
 |zero=>intro deep a b l ha h;cases h;exact ha
 |succ n ih=>
  intro deep a b l ha h
  rw [Rn.bf_goS] at h
  refine Rn.goS_le ?_ l a b ha h
  intro a t b ha h
  unfold Rn.b1 at h
  split at h
  ·cases h
  ·split at h
   ·cases h
   ·obtain ⟨c,h1,h2⟩:=Rn.thn_le h
    exact ih (deep+1) c b _ (ih (deep+1) (a+1) c _ (by omega) h1) h2
end Go.Proofs.YtcdcoiobpbdmpaaGreatDoor
namespace Go.Proofs.YtcdcoiobpbdmpaaGreatDoor
open Go.RowKit
theorem Rn.goS_ne {g:Nat→Sx.Tr→Rn.Bf} (hg: ∀ a t f,g a t= .inr f→f.1 ≠ 0) (l:List Sx.Tr) (a:Nat) (f:Int × Int) (h:Rn.goS g a l= .inr f):f.1 ≠ 0:=by
 induction l generalizing a with
 |nil=>cases h
 |cons t r ih=>
  have h':Rn.thn (g a t) (fun b=>Rn.goS g b r)= .inr f:=h
  cases hx:g a t with
  |inl b=>rw [hx] at h';exact ih b h'
  |inr e=>rw [hx] at h';cases h';exact hg a t _ hx
theorem Rn.bf_ne (n:Nat): ∀ (deep a:Nat) (l:List Sx.Tr) (f:Int × Int),Rn.bf n deep a l= .inr f→f.1 ≠ 0:=by
 induction n with
 |zero=>intro deep a l f h;cases h
 |succ n ih=>
  intro deep a l f h
  rw [Rn.bf_goS] at h
  refine Rn.goS_ne ?_ l a f h
  intro a t f h
  unfold Rn.b1 at h
  split at h
  ·cases h
   show (8:Int) ≠ 0
   decide
  ·split at h
   ·rename_i h1;cases h;exact h1
   ·cases hx:Rn.bf n (deep+1) (a+1) (Sx.sB t) with
    |inl b=>rw [hx] at h;exact ih _ _ _ _ h
    |inr e=>rw [hx] at h;cases h;exact ih _ _ _ _ hx
def Rn.cv:Rn.Bf→Int × Int
 | .inl _=>(0,0)
 | .inr f=>f
theorem Rn.wS_nth {n:Nat} {l:List Sx.Tr} {i:Nat} {d:Sx.Tr} (h:l[i]? =some d):Sx.wE n (Sx.sE d)+Sx.wS n (Sx.sB d)+Sx.wS n (Sx.sO d)≤Sx.wS (n+1) l:=by
 have:=sum_nth (fun d=>Sx.wE n (Sx.sE d)+Sx.wS n (Sx.sB d)+Sx.wS n (Sx.sO d)) h
 show _≤l.length+_
 omega
theorem stmtCode_lv (n deep:Nat) (w:World) (hT:Tb w) (P:Nat→Prop) (d at' kk:Int) (A B T:List UInt8) (E b o:List Sx.Tr) (aE aB aL:Option Addr) (cE cB cL:Nat) (hS:EL w P n E (.slice aE E.length cE)) (hW:Sx.wE n E≤1000000000) (hN: ∀ (i:Nat) x,E[i]? =some x→Rn.nmE n x) (lA:A.length≤1099511627776) (lB:B.length≤1099511627776) (lT:T.length≤1099511627776):
  Calls Tryz.prog 129 #[.agg #[.int .i64 d,.int .i64 at',.string (bs A),.string (bs B),.string (bs T),.int .i64 kk,.slice aE E.length cE,.slice aB b.length cB,.slice aL o.length cL],.int .i64 deep] w fun e w'=>e= .returned (.int .i64 (Rn.sf n deep (Sx.tS d at' A B T kk E b o)))∧Kp [] w w':=by
 cases n with
 |zero=>cases hS
 |succ n=>exact stmtCode_any n deep w hT P d at' kk A B T E aE aB aL _ _ cE cB cL b o rfl rfl hS hW hN lA lB lT
end Go.Proofs.YtcdcoiobpbdmpaaGreatDoor
namespace Go.Proofs.YtcdcoiobpbdmpaaGreatDoor
open Go.RowKit
def Rn.c1 (n deep a:Nat) (t:Sx.Tr):Int:=if 300≤a then 8 else Rn.sf n deep t
theorem Rn.b1_bad {n deep a:Nat} {t:Sx.Tr} (h:Rn.c1 n deep a t ≠ 0):Rn.b1 n deep a t= .inr (Rn.c1 n deep a t,a):=by
 unfold Rn.b1 Rn.c1 at *
 by_cases h3:300≤a
 ·rw [if_pos h3,if_pos h3]
 ·rw [if_neg h3] at h ⊢
  rw [if_neg h3,if_pos h]
theorem Rn.b1_ok {n deep a:Nat} {t:Sx.Tr} (h:Rn.c1 n deep a t=0):a<300∧Rn.b1 n deep a t=Rn.thn (Rn.bf n (deep+1) (a+1) (Sx.sB t)) fun b=>Rn.bf n (deep+1) b (Sx.sO t):=by
 unfold Rn.b1 Rn.c1 at *
 by_cases h3:300≤a
 ·rw [if_pos h3] at h;cases h
 ·rw [if_neg h3] at h ⊢
  exact ⟨by omega,by rw [if_neg (by simpa using h)]⟩
def Rn.okB (n:Nat) (l:List Sx.Tr):Prop:= ∃ deep a b,Rn.bf n deep a l= .inl b
theorem Rn.goS_each {g:Nat→Sx.Tr→Rn.Bf} (l:List Sx.Tr) (a b:Nat) (h:Rn.goS g a l= .inl b): ∀ t ∈ l,∃ a' b',g a' t= .inl b':=by
 induction l generalizing a with
 |nil=>intro t ht;cases ht
 |cons d r ih=>
  obtain ⟨c,h1,h2⟩:=Rn.thn_le (m:=g a d) (k:=fun b=>Rn.goS g b r) h
  intro t ht
  rcases List.mem_cons.1 ht with rfl|ht
  ·exact ⟨a,c,h1⟩
  ·exact ih c h2 t ht
theorem Rn.okB_each {n:Nat} {l:List Sx.Tr} (h:Rn.okB (n+1) l): ∀ t ∈ l,(∃ deep,Rn.sf n deep t=0)∧Rn.okB n (Sx.sB t)∧Rn.okB n (Sx.sO t):=by
 obtain ⟨deep,a,b,h⟩:=h
 rw [Rn.bf_goS] at h
 intro t ht
 obtain ⟨a',b',h'⟩:=Rn.goS_each l a b h t ht
 unfold Rn.b1 at h'
 split at h'
 ·cases h'
 ·split at h'
  ·cases h'
  ·rename_i h1 h2
   obtain ⟨c,h3,h4⟩:=Rn.thn_le h'
   exact ⟨⟨deep,Decidable.byContradiction h2⟩,⟨_,_,_,h3⟩,⟨_,_,_,h4⟩⟩
structure Rn.Okf (n:Nat) (D:Int) (A B T:List UInt8) (N:Int) (E body els:List Sx.Tr):Prop where
 d1:1≤D
 d2:D≤14
 tl:T.length≤4
 n0:0≤N
 n1:N<1000000000000000000
 xs: ∀ (i:Nat) d,E[i]? =some d→Rn.xf n d=0
 few:E.length≤6
 nil:Rn.hasS D=false→body=[]∧els=[]
 nilO:Rn.hasO D=false→els=[]
 nilA:Rn.hasA D=false→A=[]
 nilB:Rn.hasB D=false→B=[]
 one:D ≠ 10→E.length=Rn.fewE D
 naA:Rn.hasA D=true→Tk.isN A=true
 naB:Rn.hasB D=true→Tk.isN B=true
 tT:Rn.hasT D=true→Rn.isT T 3=true
 prt: ∀ (i:Nat) d,E[i]? =some d→Rn.prt n d≤20
theorem Rn.okf {n deep:Nat} {D at':Int} {A B T:List UInt8} {N:Int} {E body els:List Sx.Tr} (h:Rn.sf n deep (Sx.tS D at' A B T N E body els)=0):Rn.Okf n D A B T N E body els:=by
 have h':(if Rn.formed (Sx.tS D at' A B T N E body els)=false then (5:Int)
 else if 6<E.length then 8
 else if (Rn.hasA D=true∧Tk.isN A=false)∨(Rn.hasB D=true∧Tk.isN B=false) then 4
 else if Rn.hasT D=true∧Rn.isT T 3=false then 11
 else if N<0∨1000000000000000000≤N then 14
 else if Rn.firstOf (Rn.ef n) E ≠ 0 then Rn.firstOf (Rn.ef n) E
 else if Rn.hasS D=true∧8≤deep then 7 else 0)=0:=h
 split at h'
 ·cases h'
 rename_i hf
 split at h'
 ·cases h'
 rename_i h6
 split at h'
 ·cases h'
 rename_i hn
 split at h'
 ·cases h'
 rename_i ht
 split at h'
 ·cases h'
 rename_i hN
 split at h'
 ·rename_i hx;exact absurd h' hx
 rename_i hx
 have hx':Rn.firstOf (Rn.ef n) E=0:=Decidable.byContradiction hx
 have hE:=Rn.firstOf_zero hx'
 rw [Rn.formed_fm] at hf
 have hf':Rn.fm D A B T N E.length body.length els.length=true:=by
  cases hh:Rn.fm D A B T N E.length body.length els.length with
  |true=>rfl
  |false=>exact absurd hh hf
 unfold Rn.fm at hf'
 simp only [Bool.and_eq_true,Bool.or_eq_true,decide_eq_true_eq,beq_iff_eq] at hf'
 obtain ⟨⟨⟨⟨⟨⟨⟨⟨k1,k2⟩,kA⟩,kB⟩,kT⟩,kN⟩,kS⟩,kO⟩,kE⟩:=hf'
 have hT3:Rn.hasT D=true→Rn.isT T 3=true:=fun h1=>by
  cases hh:Rn.isT T 3 with
  |true=>rfl
  |false=>exact absurd ⟨h1,hh⟩ ht
 have hO:Rn.hasS D=false→Rn.hasO D=false:=fun h1=>by
  unfold Rn.hasS at h1
  have: ¬ 11≤D:=by simpa using h1
  unfold Rn.hasO
  have e1:(D == 11)=false:=by simp;omega
  have e2:(D == 14)=false:=by simp;omega
  rw [e1,e2];rfl
 have hEx: ∀ (i:Nat) d,E[i]? =some d→Rn.ef n d=0:=fun i d hi=>hE d (List.mem_of_getElem? hi)
 refine ⟨k1,k2,?_,by omega,by omega,?_,by omega,?_,?_,?_,?_,?_,?_,?_,hT3,?_⟩
 ·rcases kT with h1|h1
  ·have:=hT3 h1
   unfold Rn.isT at this
   simp only [Bool.and_eq_true,decide_eq_true_eq] at this
   omega
  ·rw [h1];simp
 ·intro i d hi
  have:=hEx i d hi
  unfold Rn.ef at this
  split at this
  ·cases this
  ·exact this
 ·intro h1
  refine ⟨?_,?_⟩
  ·rcases kS with h2|h2
   ·rw [h1] at h2;cases h2
   ·exact List.length_eq_zero_iff.1 h2
  ·rcases kO with h2|h2
   ·rw [hO h1] at h2;cases h2
   ·exact List.length_eq_zero_iff.1 h2
 ·intro h1
  rcases kO with h2|h2
  ·rw [h1] at h2;cases h2
  ·exact List.length_eq_zero_iff.1 h2
 ·intro h1
  rcases kA with h2|h2
  ·rw [h1] at h2;cases h2
  ·exact h2
 ·intro h1
  rcases kB with h2|h2
  ·rw [h1] at h2;cases h2
  ·exact h2
 ·intro h1
  rcases kE with h2|h2
  ·exact absurd h2 h1
  ·exact h2
 ·intro h1
  cases hh:Tk.isN A with
  |true=>rfl
  |false=>exact absurd (.inl ⟨h1,hh⟩) hn
 ·intro h1
  cases hh:Tk.isN B with
  |true=>rfl
  |false=>exact absurd (.inr ⟨h1,hh⟩) hn
 ·intro i d hi
  have:=hEx i d hi
  unfold Rn.ef at this
  split at this
  ·cases this
  ·omega
def Rn.st1 (n k:Nat) (t:Sx.Tr):List UInt8:=Rn.tabs k++Rn.ahead n t++
 (if Rn.hasS (Sx.sH t).1 then Rn.blt n k (Sx.sB t)++(if (Sx.sO t).isEmpty then [] else [32,101,108,115,101,32]++Rn.blt n k (Sx.sO t)) else [])++[10]
theorem Rn.blt_st (n k:Nat) (l:List Sx.Tr):Rn.blt (n+1) k l=[123,10]++Rn.cat (Rn.st1 n (k+1)) l++Rn.tabs k++[125]:=rfl
def Rn.els1 (n k:Nat) (els:List Sx.Tr):List UInt8:=if els.isEmpty then [] else [32,101,108,115,101,32]++Rn.blt n k els
def Rn.fch (n k:Nat) (A B T:List UInt8) (N:Int) (E body els:List Sx.Tr) (c:UInt8):List UInt8:=
 if c=65 then A else if c=66 then B else if c=84 then Rn.tyw T else if c=78 then Rn.digs N else if c=69 then Rn.com (E.map (Rn.xt n 0))
 else if c=83 then Rn.blt n k body else if c=79 then Rn.els1 n k els else [c]
def Rn.fcat (g:UInt8→List UInt8):List UInt8→List UInt8
 |[]=>[]
 |c::r=>g c++Rn.fcat g r
theorem Rn.fcat_append (g:UInt8→List UInt8) (a b:List UInt8):Rn.fcat g (a++b)=Rn.fcat g a++Rn.fcat g b:=by
 induction a with
 |nil=>rfl
 |cons c r ih=>simp only [List.cons_append,Rn.fcat,ih,List.append_assoc]
theorem Rn.fcat_take {g:UInt8→List UInt8} {l:List UInt8} {i:Nat} {c:UInt8} (h:l[i]? =some c):Rn.fcat g (l.take (i+1))=Rn.fcat g (l.take i)++g c:=by
 rw [List.take_add_one,h,Rn.fcat_append]
 simp [Rn.fcat]
theorem Rn.fcat_le (g:UInt8→List UInt8) (l:List UInt8) (i:Nat):(Rn.fcat g (l.take i)).length≤(Rn.fcat g l).length:=by
 have:=congrArg List.length (congrArg (Rn.fcat g) (List.take_append_drop i l))
 rw [Rn.fcat_append,List.length_append] at this
 omega
theorem Rn.fcat_form {n k:Nat} {D at':Int} {A B T:List UInt8} {N:Int} {E body els:List Sx.Tr} (h:Rn.Okf n D A B T N E body els) (f:List UInt8) (hf:Rn.forms[D.toNat]? =some f):
  Rn.tabs k++Rn.fcat (Rn.fch n k A B T N E body els) f++[10]=Rn.st1 n k (Sx.tS D at' A B T N E body els):=by
 show _=Rn.tabs k++Rn.ahead n (Sx.tS D at' A B T N E body els)++(if Rn.hasS D then Rn.blt n k body++Rn.els1 n k els else [])++[10]
 have hO:=h.nilO
 have hd1:=h.d1
 have hd2:=h.d2
 clear h
 rcases Rn.kinds hd1 hd2 with rfl|rfl|rfl|rfl|rfl|rfl|rfl|rfl|rfl|rfl|rfl|rfl|rfl|rfl
 all_goals
  cases hf
  first
  |(have e1:=hO rfl;subst e1;simp [Rn.fcat,Rn.fch,Rn.ahead,Rn.hasS,Rn.els1,Sx.sH,Sx.tS,Sx.sE];done)
  |(simp [Rn.fcat,Rn.fch,Rn.ahead,Rn.hasS,Rn.els1,Sx.sH,Sx.tS,Sx.sE];done)
end Go.Proofs.YtcdcoiobpbdmpaaGreatDoor
namespace Go.Proofs.YtcdcoiobpbdmpaaGreatDoor
open Go.RowKit
def BPt (n:Nat):Prop:= ∀ (w0:World) (pb k:Nat) (x:List UInt8) (w:World) (P:Nat→Prop) (l:List Sx.Tr) (a:Option Addr) (c:Nat),PG w0 pb x k w→Tb w0→SL w0 P n l (.slice a l.length c)→Rn.okB n l→x.length+(Rn.blt n k l).length≤140737488355328→
 Calls Tryz.prog 104 #[.pointer (some ⟨pb,0,none⟩),.slice a l.length c] w fun e w'=>e= .returned (.tuple #[])∧PG w0 pb (x++Rn.blt n k l) k w'∧Fr pb w w'
set_option maxRecDepth 100000 in
set_option maxHeartbeats 400000 in
theorem pOtherwise (n:Nat) (ih:BPt n) (w0:World) (pb k:Nat) (x:List UInt8) (w:World) (P:Nat→Prop) (l:List Sx.Tr) (a:Option Addr) (c:Nat) (h:PG w0 pb x k w) (hT:Tb w0) (hS:SL w0 P n l (.slice a l.length c)) (hb:Rn.okB n l) (hlen:x.length+(Rn.els1 n k l).length≤140737488355328):
  Calls Tryz.prog 154 #[.pointer (some ⟨pb,0,none⟩),.slice a l.length c] w fun e w'=>e= .returned (.tuple #[])∧PG w0 pb (x++Rn.els1 n k l) k w'∧Fr pb w w':=by
 by_cases h0:l.length=0
 ·obtain rfl:=List.length_eq_zero_iff.1 h0
  have e1:Rn.els1 n k []=[]:=rfl
  rw [e1,List.append_nil]
  have H:=hide h
  clear h hT hS hb
  go_enter Tryz.func154,Tryz.ntmps154
  go_wp2
  go_end0
  exact ⟨rfl,H.out,Fr.refl _ _⟩
 ·have d1:decide ((0:Int)<(l.length:Int))=true:=decide_eq_true (by omega)
  have e1:Rn.els1 n k l=[32,101,108,115,101,32]++Rn.blt n k l:=by
   unfold Rn.els1
   rw [isEmpty_len,if_neg (by simpa using h0)]
  rw [e1] at hlen ⊢
  have HC:=hide (pAdd [[32,101,108,115,101,32]] (some ⟨w.heap.size,0,none⟩) 1 (h.alloc _) (TX.new [[32,101,108,115,101,32]] w h.lt) (by simp at hlen ⊢;omega) (by simp))
  have IH:=hide (fun W y (hp:PG w0 pb y k W)=>ih w0 pb k y W P l a c hp hT hS hb)
  clear h hT hS hb ih
  generalize Rn.blt n k l=X at *
  go_enter Tryz.func154,Tryz.ntmps154
  go_wp2_with fail
  refine HC.out.mono ?_
  rintro e w2 ⟨rfl,h2,hf2⟩
  have H2:=hide h2
  have F2:=hide (((Fr.refl pb w).alloc _).trans hf2)
  clear h2 hf2
  go_wp2_with fail
  refine (IH.out _ _ H2.out (by simp at hlen ⊢;omega)).mono ?_
  rintro e w3 ⟨rfl,h3,hf3⟩
  go_wp2
  go_end0
  exact ⟨rfl,by simpa using h3,F2.out.trans hf3⟩
theorem u8_ne {c d:UInt8} (h: ¬ c=d):((c.toNat:Int) == (d.toNat:Int))=false:=by
 simp only [beq_eq_false_iff_ne]
 intro hh
 exact h (UInt8.toNat_inj.1 (by omega))
set_option maxRecDepth 100000 in
set_option maxHeartbeats 1000000 in
theorem pStmt (n:Nat) (ih:BPt n) (w0:World) (pb k:Nat) (x:List UInt8) (w:World) (P:Nat→Prop) (D at':Int) (A B T:List UInt8) (N:Int) (E body els:List Sx.Tr) (aE aB aL:Option Addr) (cE cB cL:Nat) (h:PG w0 pb x k w) (hT:Tb w0) (hE:EL w0 P n E (.slice aE E.length cE)) (hB:SL w0 P n body (.slice aB body.length cB)) (hL:SL w0 P n els (.slice aL els.length cL))
  (hf:Rn.Okf n D A B T N E body els) (ob:Rn.okB n body) (ol:Rn.okB n els) (hlen:x.length+(Rn.st1 n k (Sx.tS D at' A B T N E body els)).length≤140737488355328):
  Calls Tryz.prog 132 #[.pointer (some ⟨pb,0,none⟩),.agg #[.int .i64 D,.int .i64 at',.string (bs A),.string (bs B),.string (bs T),.int .i64 N,.slice aE E.length cE,.slice aB body.length cB,.slice aL els.length cL]] w fun e w'=>e= .returned (.tuple #[])∧PG w0 pb (x++Rn.st1 n k (Sx.tS D at' A B T N E body els)) k w'∧Fr pb w w':=by
 obtain ⟨f,hff⟩: ∃ f,Rn.forms[D.toNat]? =some f:=⟨_,List.getElem?_eq_getElem (show D.toNat<15 by have:=hf.d1;have:=hf.d2;omega)⟩
 have efm:=Rn.fcat_form (k:=k) (at':=at') hf f hff
 rw [←efm] at hlen ⊢
 have hfl:f.length≤100:=by
  have hd1:=hf.d1
  have hd2:=hf.d2
  clear hf efm hlen
  rcases Rn.kinds hd1 hd2 with rfl|rfl|rfl|rfl|rfl|rfl|rfl|rfl|rfl|rfl|rfl|rfl|rfl|rfl
  all_goals cases hff;decide
 have tf:=(hT.kp (h.kp [])).forms _ _ hff
 have hb0:(0:Int)≤D:=by have:=hf.d1;omega
 have hb9:D<15:=by have:=hf.d2;omega
 have hgl:1<w.heap.size:=by have:=hT.size;have:=h.size;omega
 have hn0:=hf.n0
 have hn1:=hf.n1
 have H:=hide h
 have HT:=hide hT
 have HX:=hide (fun W y (hp:PG w0 pb y k W)=>pExprs n w0 pb k y W P E aE cE hp hT hE hf.xs (by have:=hf.few;omega))
 have HB:=hide (fun W y (hp:PG w0 pb y k W)=>ih w0 pb k y W P body aB cB hp hT hB ob)
 have HO:=hide (fun W y (hp:PG w0 pb y k W)=>pOtherwise n ih w0 pb k y W P els aL cL hp hT hL ol)
 have zf:=bsz f
 clear h hT hE hB hL hf ob ol ih efm
 have HW:Hid (PG w0 pb x k (w.alloc (.cells #[.int .i64 D,.int .i64 at',.string (bs A),.string (bs B),.string (bs T),.int .i64 N,.slice aE E.length cE,.slice aB body.length cB,.slice aL els.length cL] 75))):=H.out.alloc _
 simp only [List.length_append] at hlen
 have HC:=hide (pBegin [] none 0 HW.out (.inl rfl) (by simp [Rn.tabs] at hlen ⊢;omega) (by simp))
 have HL:=H.out.lt
 have G0:(w.alloc (.cells #[.int .i64 D,.int .i64 at',.string (bs A),.string (bs B),.string (bs T),.int .i64 N,.slice aE E.length cE,.slice aB body.length cB,.slice aL els.length cL] 75)).heap[w.heap.size]? =some (.cells #[.int .i64 D,.int .i64 at',.string (bs A),.string (bs B),.string (bs T),.int .i64 N,.slice aE E.length cE,.slice aB body.length cB,.slice aL els.length cL] 75 (0,0)):=heap_alloc_new w _
 have FW:Hid (Fr pb w (w.alloc (.cells #[.int .i64 D,.int .i64 at',.string (bs A),.string (bs B),.string (bs T),.int .i64 N,.slice aE E.length cE,.slice aB body.length cB,.slice aL els.length cL] 75))):=(Fr.refl _ _).alloc _
 go_enter Tryz.func132,Tryz.ntmps132
 go_wp2_with fail
 refine HC.out.mono ?_
 rintro e w2 ⟨rfl,h2,hf2⟩
 have H2:Hid (PG w0 pb (x++Rn.tabs k) k w2):=hide (by simpa using h2)
 have F2:=hide (FW.out.trans hf2)
 have G2:=hf2.heap G0 (by omega) (by decide)
 have tf2:=(HT.out.kp (h2.kp [])).forms _ _ hff
 have g20:w2.cell? ⟨w.heap.size,0,none⟩=some (.int .i64 D):=by rw [Lib.cell_of_heap G2];rfl
 clear h2 hf2 HC tf G0 FW HW
 go_wp2_with fail
 go_loopw [14] (fun iv wr=> ∃ (i:Nat),i≤f.length∧iv= .int .i64 i∧Hid (PG w0 pb (x++Rn.tabs k++Rn.fcat (Rn.fch n k A B T N E body els) (f.take i)) k wr)∧Hid (Fr pb w2 wr)) (fun iv _=>f.length - (intOf iv).toNat)
 case atStart=>exact ⟨0,Nat.zero_le _,rfl,hide (by simpa [Rn.fcat] using H2.out),Fr.refl _ _⟩
 case round=>
  obtain ⟨i,hi,rfl,HP,HF⟩:=hrel
  by_cases hlt:i<f.length
  ·have d1:decide ((i:Int)<(f.length:Int))=true:=by simp;omega
   have hz:i<(bs f).size:=by omega
   have hc:f[i]? =some (bs f)[i]:=bs_nth f i hz
   have hk0:(0:Int)≤(i:Int):=by omega
   have hk1:(i:Int)<(f.length:Int):=by omega
   have e1:=Rn.fcat_take (g:=Rn.fch n k A B T N E body els) hc
   have hle:=Rn.fcat_le (Rn.fch n k A B T N E body els) f (i+1)
   rw [e1,List.length_append] at hle
   have E1:=hide e1
   have HZ:Hid ((x++Rn.tabs k++Rn.fcat (Rn.fch n k A B T N E body els) (f.take i)).length+(Rn.fch n k A B T N E body els (bs f)[i]).length≤140737488355328):=by
    show _≤_
    simp only [List.length_append]
    omega
   have G3:=HF.out.heap G2 (by omega) (by decide)
   clear hle e1
   by_cases h65:(bs f)[i]=65
   ·have q65:(((bs f)[i].toNat:Int) == 65)=true:=by rw [h65];rfl
    have e2:Rn.fch n k A B T N E body els (bs f)[i]=A:=by rw [Rn.fch,if_pos h65]
    rw [e2] at HZ
    have g2:wr.cell? ⟨w.heap.size,2,none⟩=some (.string (bs A)):=by rw [Lib.cell_of_heap G3];rfl
    have HC:=hide (pAdd [A] (some ⟨wr.heap.size,0,none⟩) 1 (HP.out.alloc _) (TX.new [A] wr HP.out.lt) (by simpa using HZ.out) (by simp))
    go_wp2_with fail
    refine HC.out.mono ?_
    rintro e w4 ⟨rfl,h4,hf4⟩
    have H4:Hid (PG w0 pb (x++Rn.tabs k++Rn.fcat (Rn.fch n k A B T N E body els) (f.take i)++A) k w4):=hide (by simpa using h4)
    have F4:=hide (HF.out.trans (((Fr.refl pb wr).alloc _).trans hf4))
    clear h4 hf4
    go_wp2
    go_roundw
    case rel=>exact ⟨i+1,by omega,by go_num,by rw [E1.out,e2,←List.append_assoc];exact H4,F4⟩
    case measure=>simp [intOf];omega
   have q65:(((bs f)[i].toNat:Int) == 65)=false:=u8_ne h65
   by_cases h66:(bs f)[i]=66
   ·have q66:(((bs f)[i].toNat:Int) == 66)=true:=by rw [h66];rfl
    have e2:Rn.fch n k A B T N E body els (bs f)[i]=B:=by rw [Rn.fch,if_neg h65,if_pos h66]
    rw [e2] at HZ
    have g3:wr.cell? ⟨w.heap.size,3,none⟩=some (.string (bs B)):=by rw [Lib.cell_of_heap G3];rfl
    have HC:=hide (pAdd [B] (some ⟨wr.heap.size,0,none⟩) 1 (HP.out.alloc _) (TX.new [B] wr HP.out.lt) (by simpa using HZ.out) (by simp))
    go_wp2_with fail
    refine HC.out.mono ?_
    rintro e w4 ⟨rfl,h4,hf4⟩
    have H4:Hid (PG w0 pb (x++Rn.tabs k++Rn.fcat (Rn.fch n k A B T N E body els) (f.take i)++B) k w4):=hide (by simpa using h4)
    have F4:=hide (HF.out.trans (((Fr.refl pb wr).alloc _).trans hf4))
    clear h4 hf4
    go_wp2
    go_roundw
    case rel=>exact ⟨i+1,by omega,by go_num,by rw [E1.out,e2,←List.append_assoc];exact H4,F4⟩
    case measure=>simp [intOf];omega
   have q66:(((bs f)[i].toNat:Int) == 66)=false:=u8_ne h66
   by_cases h84:(bs f)[i]=84
   ·have q84:(((bs f)[i].toNat:Int) == 84)=true:=by rw [h84];rfl
    have e2:Rn.fch n k A B T N E body els (bs f)[i]=Rn.tyw T:=by rw [Rn.fch,if_neg h65,if_neg h66,if_pos h84]
    rw [e2] at HZ
    have g4:wr.cell? ⟨w.heap.size,4,none⟩=some (.string (bs T)):=by rw [Lib.cell_of_heap G3];rfl
    go_wp2_with fail
    refine (pTypeWords T HP.out HZ.out).mono ?_
    rintro e w4 ⟨rfl,h4,hf4⟩
    have H4:=hide h4
    have F4:=hide (HF.out.trans hf4)
    clear h4 hf4
    go_wp2
    go_roundw
    case rel=>exact ⟨i+1,by omega,by go_num,by rw [E1.out,e2,←List.append_assoc];exact H4,F4⟩
    case measure=>simp [intOf];omega
   have q84:(((bs f)[i].toNat:Int) == 84)=false:=u8_ne h84
   by_cases h78:(bs f)[i]=78
   ·have q78:(((bs f)[i].toNat:Int) == 78)=true:=by rw [h78];rfl
    have e2:Rn.fch n k A B T N E body els (bs f)[i]=Rn.digs N:=by rw [Rn.fch,if_neg h65,if_neg h66,if_neg h84,if_pos h78]
    rw [e2] at HZ
    have g5:wr.cell? ⟨w.heap.size,5,none⟩=some (.int .i64 N):=by rw [Lib.cell_of_heap G3];rfl
    have HI:=hide (itoa_any N wr (by omega) (by omega) (HT.out.kp (HP.out.kp [])))
    change Hid (Calls _ _ _ _ fun e w'=>e= .returned (.string (bs (Rn.digs N)))∧_) at HI
    go_wp2_with fail
    refine HI.out.mono ?_
    rintro e w3 ⟨rfl,hk3⟩
    have H3:=hide (HP.out.kept hk3)
    have F3:Hid (Fr pb w2 w3):=HF.out.trans (Fr.of_kp hk3)
    have HC:=hide (pAdd [Rn.digs N] (some ⟨w3.heap.size,0,none⟩) 1 (H3.out.alloc _) (TX.new [Rn.digs N] w3 H3.out.lt) (by simpa using HZ.out) (by simp))
    clear hk3
    go_wp2_with fail
    refine HC.out.mono ?_
    rintro e w4 ⟨rfl,h4,hf4⟩
    have H4:Hid (PG w0 pb (x++Rn.tabs k++Rn.fcat (Rn.fch n k A B T N E body els) (f.take i)++Rn.digs N) k w4):=hide (by simpa using h4)
    have F4:=hide (F3.out.trans (((Fr.refl pb w3).alloc _).trans hf4))
    clear h4 hf4
    go_wp2
    go_roundw
    case rel=>exact ⟨i+1,by omega,by go_num,by rw [E1.out,e2,←List.append_assoc];exact H4,F4⟩
    case measure=>simp [intOf];omega
   have q78:(((bs f)[i].toNat:Int) == 78)=false:=u8_ne h78
   by_cases h69:(bs f)[i]=69
   ·have q69:(((bs f)[i].toNat:Int) == 69)=true:=by rw [h69];rfl
    have e2:Rn.fch n k A B T N E body els (bs f)[i]=Rn.com (E.map (Rn.xt n 0)):=by rw [Rn.fch,if_neg h65,if_neg h66,if_neg h84,if_neg h78,if_pos h69]
    rw [e2] at HZ
    have g6:wr.cell? ⟨w.heap.size,6,none⟩=some (.slice aE E.length cE):=by rw [Lib.cell_of_heap G3];rfl
    go_wp2_with fail
    refine (HX.out _ _ HP.out HZ.out).mono ?_
    rintro e w4 ⟨rfl,h4,hf4⟩
    have H4:=hide h4
    have F4:=hide (HF.out.trans hf4)
    clear h4 hf4
    go_wp2
    go_roundw
    case rel=>exact ⟨i+1,by omega,by go_num,by rw [E1.out,e2,←List.append_assoc];exact H4,F4⟩
    case measure=>simp [intOf];omega
   have q69:(((bs f)[i].toNat:Int) == 69)=false:=u8_ne h69
   by_cases h83:(bs f)[i]=83
   ·have q83:(((bs f)[i].toNat:Int) == 83)=true:=by rw [h83];rfl
    have e2:Rn.fch n k A B T N E body els (bs f)[i]=Rn.blt n k body:=by rw [Rn.fch,if_neg h65,if_neg h66,if_neg h84,if_neg h78,if_neg h69,if_pos h83]
    rw [e2] at HZ
    have g7:wr.cell? ⟨w.heap.size,7,none⟩=some (.slice aB body.length cB):=by rw [Lib.cell_of_heap G3];rfl
    go_wp2_with fail
    refine (HB.out _ _ HP.out HZ.out).mono ?_
    rintro e w4 ⟨rfl,h4,hf4⟩
    have H4:=hide h4
    have F4:=hide (HF.out.trans hf4)
    clear h4 hf4
    go_wp2
    go_roundw
    case rel=>exact ⟨i+1,by omega,by go_num,by rw [E1.out,e2,←List.append_assoc];exact H4,F4⟩
    case measure=>simp [intOf];omega
   have q83:(((bs f)[i].toNat:Int) == 83)=false:=u8_ne h83
   by_cases h79:(bs f)[i]=79
   ·have q79:(((bs f)[i].toNat:Int) == 79)=true:=by rw [h79];rfl
    have e2:Rn.fch n k A B T N E body els (bs f)[i]=Rn.els1 n k els:=by rw [Rn.fch,if_neg h65,if_neg h66,if_neg h84,if_neg h78,if_neg h69,if_neg h83,if_pos h79]
    rw [e2] at HZ
    have g8:wr.cell? ⟨w.heap.size,8,none⟩=some (.slice aL els.length cL):=by rw [Lib.cell_of_heap G3];rfl
    go_wp2_with fail
    refine (HO.out _ _ HP.out HZ.out).mono ?_
    rintro e w4 ⟨rfl,h4,hf4⟩
    have H4:=hide h4
    have F4:=hide (HF.out.trans hf4)
    clear h4 hf4
    go_wp2
    go_roundw
    case rel=>exact ⟨i+1,by omega,by go_num,by rw [E1.out,e2,←List.append_assoc];exact H4,F4⟩
    case measure=>simp [intOf];omega
   have q79:(((bs f)[i].toNat:Int) == 79)=false:=u8_ne h79
   have e2:Rn.fch n k A B T N E body els (bs f)[i]=[(bs f)[i]]:=by rw [Rn.fch,if_neg h65,if_neg h66,if_neg h84,if_neg h78,if_neg h69,if_neg h83,if_neg h79]
   rw [e2] at HZ
   have HC:=hide (fun W (hp:PG w0 pb _ k W)=>pWriteByte (bs f)[i] hp HZ.out)
   go_wp2
   go_region_held_law (fun _=>True) (trivial)
    ((go_at_call 130;refine (HC.out _ (HP.out.kept ((Kp.refl [] _).drew))).mono ?_;rintro e w4 ⟨rfl,h4,hf4⟩;have H4:=hide h4;have F4:Hid (Fr pb w2 w4):=HF.out.trans ((Fr.of_kp ((Kp.refl [] _).drew)).trans hf4);clear h4 hf4))
   go_wp2
   go_roundw
   case rel=>exact ⟨i+1,by omega,by go_num,by rw [E1.out,e2,←List.append_assoc];exact H4,F4⟩
   case measure=>simp [intOf];omega
  ·obtain rfl:i=f.length:=by omega
   have d1:decide ((f.length:Int)<(f.length:Int))=false:=by simp
   rw [List.take_length] at HP
   have HC:=hide (pAdd [[10]] (some ⟨wr.heap.size,0,none⟩) 1 (HP.out.alloc _) (TX.new [[10]] wr HP.out.lt) (by simp at hlen ⊢;omega) (by simp))
   go_wp2_with fail
   refine HC.out.mono ?_
   rintro e w4 ⟨rfl,h4,hf4⟩
   go_wp2
   go_end0
   exact ⟨rfl,by simpa using h4,F2.out.trans (HF.out.trans (((Fr.refl _ _).alloc _).trans hf4))⟩
end Go.Proofs.YtcdcoiobpbdmpaaGreatDoor
