import Derived.Test.YthcapfojofahkaaGreatDoorMae
import Derived.Test.YthcapfojofahkaaGreatDoorMad
import Derived.Test.YthcapfojofahkaaGreatDoorMaf
import Derived.Maps.OwnSet
import Derived.WideKeyEntry
namespace Go.Proofs.YthcapfojofahkaaGreatDoor.Kn
open Go.Proofs.YthcapfojofahkaaGreatDoor Go.Proofs.YthcapfojofahkaaGreatDoor.Sx
abbrev Nv:=List UInt8 × List UInt8
def typ:List Nv→List UInt8→List UInt8
 |[],_=>[]
 |v::r,nm=>if v.1=nm then v.2 else typ r nm
def isIn (bd:List Nv) (nm:List UInt8):Bool:=bd.any fun v=>v.1 == nm
def mst (ns:List Nv) (nm:List UInt8) (b:UInt8):Int:=if typ ns nm=[] then 10 else if (typ ns nm).head? ≠ some b then 11 else 0
def num:Nat→List Nv→Tr→Int
 |0,_,_=>0
 |n+1,ns,d=>
  if (if (eH d).1=2 then mst ns (eH d).2.1 105 else 0) ≠ 0 then mst ns (eH d).2.1 105 else Rn.firstOf (num n ns) (eL d)
def thg (n:Nat) (ns:List Nv) (d:Tr) (t:List UInt8):Int:=
 if t=[105] then num n ns d else if (eH d).1 ≠ 2 then 11 else if typ ns (eH d).2.1=[] then 10 else if typ ns (eH d).2.1 ≠ t then 11 else 0
def thgs (n:Nat) (ns:List Nv):List Tr→List (List UInt8)→Int
 |d::r,t::s=>if thg n ns d t ≠ 0 then thg n ns d t else thgs n ns r s
 |_,_=>0
def binding (d:Int):Bool:=d == 1 || d == 4 || d == 5 || d == 11 || d == 12
def abv:List Tr→List UInt8→Option Tr
 |[],_=>none
 |g::r,nm=>if gN g=nm then some g else abv r nm
def used (t:Tr):Option (List UInt8 × UInt8):=
 let (d,A,B,_,_):=sH t
 if d=5 then some (B,115) else if d=6∨d=7 then some (A,115) else if d=8∨d=9 then some (A,114) else if d=11∨d=12 then some (B,114) else if d=2 then some (A,105) else none
def usedF (ns:List Nv) (t:Tr):Int:=match used t with
 |some (nm,b)=>mst ns nm b
 |none=>0
def twice (bd:List Nv) (t:Tr):Bool:=
 let (d,A,B,_,_):=sH t
 binding d && (isIn bd A || (d == 4 && (isIn bd B || A == B)))
def rest (n:Nat) (ab:List Tr) (ns:List Nv) (t:Tr):Int:=
 let (d,A,_,T,k):=sH t
 if d=6 then thg n ns ((sE t).headD d0) (typ ns A).tail
 else if d=10 then match abv ab A with
  |none=>12
  |some g=>if (gP g).length ≠ (sE t).length then 15 else thgs n ns (sE t) ((gP g).map fun p=>(pH p).2)
 else if d=4 then if k<1∨5<k then 14 else if 3<T.length then 11 else 0
 else Rn.firstOf (num n ns) (sE t)
def sc (n:Nat) (ab:List Tr) (ns bd:List Nv) (t:Tr):Int:=
 if twice bd t then 9 else if usedF ns t ≠ 0 then usedF ns t else rest n ab ns t
def bnds (ns:List Nv) (t:Tr):List Nv:=
 let (d,A,B,T,_):=sH t
 if d=1 then [(A,[105])] else if d=4 then [(A,115::T),(B,114::T)] else if d=5 then [(A,typ ns B)] else if d=11∨d=12 then [(A,(typ ns B).tail)] else []
structure St where
 ns:List Nv
 bd:List Nv
 at':Nat
abbrev Rs:=Sum St (Int × Int)
def thn (m:Rs) (k:St→Rs):Rs:=match m with
 | .inl s=>k s
 | .inr f=> .inr f
def one (n:Nat) (ab:List Tr) (blk:St→List Tr→Rs) (s:St) (t:Tr):Rs:=
 if sc n ab s.ns s.bd t ≠ 0 then .inr (sc n ab s.ns s.bd t,s.at') else
 let b:=bnds s.ns t
 if (sH t).1=11∨(sH t).1=12 then
  thn (blk ⟨s.ns++b,s.bd++b,s.at'+1⟩ (sB t)) fun s1=>thn (blk ⟨s.ns,s1.bd,s1.at'⟩ (sO t)) fun s2=> .inl ⟨s.ns,s2.bd,s2.at'⟩
 else
  thn (blk ⟨s.ns++b,s.bd++b,s.at'+1⟩ (sB t)) fun s1=>thn (blk ⟨s.ns++b,s1.bd,s1.at'⟩ (sO t)) fun s2=> .inl ⟨s.ns++b,s2.bd,s2.at'⟩
def goK (g:St→Tr→Rs):St→List Tr→Rs
 |s,[]=> .inl s
 |s,t::r=>thn (g s t) fun s'=>goK g s' r
def sts:Nat→List Tr→St→List Tr→Rs
 |0,_,s,_=> .inl s
 |n+1,ab,s,l=>goK (fun s t=>one n ab (sts n ab) s t) s l
def par (g:Tr):List Nv:=(gP g).map fun p=>((pH p).1,(pH p).2)
def twiceP:List Nv→List Nv→Bool
 |_,[]=>false
 |bd,v::r=>isIn bd v.1 || twiceP (bd++[v]) r
def stg (n:Nat):Nat→Nat→List Tr→List (List Nv)→List Tr→Sum (List (List Nv)) (Int × Int)
 |_,_,_,out,[]=> .inl out
 |i,a,ab,out,g::r=>
  if (abv ab (gN g)).isSome || twiceP [] (par g) then .inr (9,-2 - (i:Int)) else
  match sts n ab ⟨par g,par g,a⟩ (gB g) with
  | .inr f=> .inr f
  | .inl s=>if 30<s.bd.length then .inr (8,-2 - (i:Int)) else stg n (i+1) s.at' (ab++[g]) (out++[s.bd]) r
def isMain (g:Tr):Bool:=gN g == [109,97,105,110] && match gP g with
 |[p]=>(pH p).2 == [114,105]
 |_=>false
def vars (n:Nat) (l:List Tr):Sum (List (List Nv)) (Int × Int):=
 if (Rn.told n l).1 ≠ 0 then .inr (Rn.told n l) else
 match stg n 0 0 [] [] l with
 | .inr f=> .inr f
 | .inl o=>if l.any isMain then .inl o else .inr (13,-1)
theorem sts_nil (n:Nat) (ab:List Tr) (s:St):sts n ab s []= .inl s:=by cases n<;> rfl
theorem goK_at (g:St→Tr→Rs) (s:St) (l:List Tr) (i:Nat) (t:Tr) (h:l[i]? =some t):goK g s (l.drop i)=thn (g s t) fun s'=>goK g s' (l.drop (i+1)):=by
 obtain ⟨hi,rfl⟩:=List.getElem?_eq_some_iff.1 h
 rw [List.drop_eq_getElem_cons hi]
 rfl
theorem one_flat (n:Nat) (ab:List Tr) (s:St) (t:Tr) (h:sc n ab s.ns s.bd t=0) (hB:sB t=[]) (hO:sO t=[]) (hd:(sH t).1<11):one n ab (sts n ab) s t= .inl ⟨s.ns++bnds s.ns t,s.bd++bnds s.ns t,s.at'+1⟩:=by
 unfold one
 rw [if_neg (by simpa using h),if_neg (by omega),hB,hO,sts_nil]
 show thn (sts n ab _ []) _=_
 rw [sts_nil]
 rfl
theorem one_bad (n:Nat) (ab:List Tr) (blk:St→List Tr→Rs) (s:St) (t:Tr) (h:sc n ab s.ns s.bd t ≠ 0):one n ab blk s t= .inr (sc n ab s.ns s.bd t,s.at'):=by
 unfold one
 rw [if_pos h]
theorem bnds_len (ns:List Nv) (t:Tr):(bnds ns t).length≤2:=by
 unfold bnds
 dsimp only
 split
 ·simp
 ·split
  ·simp
  ·split
   ·simp
   ·split<;> simp
structure Go' (k:Nat) (s s':St):Prop where
 ns: ∃ x,s'.ns=s.ns++x
 bd: ∃ x,s'.bd=s.bd++x
 fw:s'.bd.length≤s.bd.length+2 * k
 at':s'.at'=s.at'+k
theorem Go'.refl (s:St):Go' 0 s s:=⟨⟨[],by simp⟩,⟨[],by simp⟩,by omega,rfl⟩
theorem Go'.trans {k m:Nat} {a b c:St} (h:Go' k a b) (g:Go' m b c):Go' (k+m) a c:=by
 obtain ⟨x,hx⟩:=h.ns
 obtain ⟨y,hy⟩:=g.ns
 obtain ⟨x',hx'⟩:=h.bd
 obtain ⟨y',hy'⟩:=g.bd
 exact ⟨⟨x++y,by rw [hy,hx,List.append_assoc]⟩,⟨x'++y',by rw [hy',hx',List.append_assoc]⟩,by have:=h.fw;have:=g.fw;omega,by have:=h.at';have:=g.at';omega⟩
def cs:Nat→List Tr→Nat
 |0,_=>0
 |n+1,l=>(l.map fun t=>1+cs n (sB t)+cs n (sO t)).sum
theorem thn_inl {m:Rs} {k:St→Rs} {s':St} (h:thn m k= .inl s'): ∃ s,m= .inl s∧k s= .inl s':=by
 cases m with
 |inl s=>exact ⟨s,rfl,h⟩
 |inr f=>cases h
theorem one_go (n:Nat) (ab:List Tr) (blk:St→List Tr→Rs) (c:List Tr→Nat) (hb: ∀ s l s',blk s l= .inl s'→Go' (c l) s s') (s:St) (t:Tr) (s':St) (h:one n ab blk s t= .inl s'):Go' (1+c (sB t)+c (sO t)) s s':=by
 unfold one at h
 split at h
 ·cases h
 ·have hl:=bnds_len s.ns t
  dsimp only at h
  split at h
  ·obtain ⟨s1,h1,h⟩:=thn_inl h
   obtain ⟨s2,h2,h⟩:=thn_inl h
   obtain rfl:=Sum.inl.inj h
   have g1:=hb _ _ _ h1
   have g2:=hb _ _ _ h2
   obtain ⟨x,hx⟩:=g1.bd
   obtain ⟨y,hy⟩:=g2.bd
   refine ⟨⟨[],by simp⟩,⟨bnds s.ns t++x++y,?_⟩,?_,?_⟩
   ·show s2.bd=_
    rw [hy]
    show s1.bd++y=_
    rw [hx]
    simp
   ·have a1:=g1.fw
    have a2:=g2.fw
    simp only [List.length_append] at a1 a2
    show s2.bd.length≤_
    omega
   ·have a1:=g1.at'
    have a2:=g2.at'
    dsimp only at a1 a2
    show s2.at'=_
    omega
  ·obtain ⟨s1,h1,h⟩:=thn_inl h
   obtain ⟨s2,h2,h⟩:=thn_inl h
   obtain rfl:=Sum.inl.inj h
   have g1:=hb _ _ _ h1
   have g2:=hb _ _ _ h2
   obtain ⟨x,hx⟩:=g1.bd
   obtain ⟨y,hy⟩:=g2.bd
   refine ⟨⟨bnds s.ns t,rfl⟩,⟨bnds s.ns t++x++y,?_⟩,?_,?_⟩
   ·show s2.bd=_
    rw [hy]
    show s1.bd++y=_
    rw [hx]
    simp
   ·have a1:=g1.fw
    have a2:=g2.fw
    simp only [List.length_append] at a1 a2
    show s2.bd.length≤_
    omega
   ·have a1:=g1.at'
    have a2:=g2.at'
    dsimp only at a1 a2
    show s2.at'=_
    omega
theorem goK_go (g:St→Tr→Rs) (c:Tr→Nat) (hg: ∀ s t s',g s t= .inl s'→Go' (c t) s s'): ∀ (l:List Tr) (s s':St),goK g s l= .inl s'→Go' (l.map c).sum s s':=by
 intro l
 induction l with
 |nil=>intro s s' h;obtain rfl:=Sum.inl.inj h;exact Go'.refl _
 |cons t r ih=>
  intro s s' h
  obtain ⟨s1,h1,h2⟩:=thn_inl h
  have:=(hg _ _ _ h1).trans (ih _ _ h2)
  simpa using this
theorem sts_go (n:Nat) (ab:List Tr): ∀ (s:St) (l:List Tr) (s':St),sts n ab s l= .inl s'→Go' (cs n l) s s':=by
 induction n with
 |zero=>intro s l s' h;obtain rfl:=Sum.inl.inj h;exact Go'.refl _
 |succ n ih=>
  intro s l s' h
  exact goK_go _ (fun t=>1+cs n (sB t)+cs n (sO t)) (fun s t s' h=>one_go n ab _ (cs n) ih s t s' h) l s s' h
end Go.Proofs.YthcapfojofahkaaGreatDoor.Kn
namespace Go.Proofs.YthcapfojofahkaaGreatDoor
open Go.RowKit
def VR (w:World) (v:Value) (l:List Kn.Nv):Prop:=
 ∃ a c,v= .slice a l.length c∧(l ≠ []→ ∃ g o,a=some ⟨g,o,none⟩∧ ∀ (k:Nat) x,l[k]? =some x→w.cell? ⟨g,o+k * 2,none⟩=some (.string (bs x.1))∧w.cell? ⟨g,o+k * 2+1,none⟩=some (.string (bs x.2)))
def vcells (l:List Kn.Nv):List Value:=l.flatMap fun x=>[.string (bs x.1),.string (bs x.2)]
theorem vcells_app (a b:List Kn.Nv):vcells (a++b)=vcells a++vcells b:=by simp [vcells]
theorem vcells_get (l:List Kn.Nv) (k:Nat) (x:Kn.Nv) (h:l[k]? =some x):(vcells l)[k * 2]? =some (.string (bs x.1))∧(vcells l)[k * 2+1]? =some (.string (bs x.2)):=by
 induction l generalizing k with
 |nil=>cases h
 |cons y r ih=>
  match k,h with
  |0,h=>simp only [List.getElem?_cons_zero,Option.some.injEq] at h;subst h;exact ⟨rfl,rfl⟩
  |k+1,h=>
   have:=ih k (by simpa using h)
   have e1:(k+1) * 2=k * 2+1+1:=by omega
   rw [e1]
   exact this
theorem typ_at {l:List Kn.Nv} {nm:List UInt8} {k:Nat} (h: ∀ (j:Nat) x,j<k→l[j]? =some x→x.1 ≠ nm): ∀ x,l[k]? =some x→x.1=nm→Kn.typ l nm=x.2:=by
 induction l generalizing k with
 |nil=>intro x hx;cases hx
 |cons y r ih=>
  intro x hx he
  match k,h,hx with
  |0,_,hx=>simp only [List.getElem?_cons_zero,Option.some.injEq] at hx;subst hx;unfold Kn.typ;rw [if_pos he]
  |k+1,h,hx=>
   unfold Kn.typ
   rw [if_neg (h 0 y (by omega) rfl)]
   exact ih (k:=k) (fun j z hj hz=>h (j+1) z (by omega) (by simpa using hz)) x (by simpa using hx) he
theorem typ_none {l:List Kn.Nv} {nm:List UInt8} (h: ∀ (j:Nat) x,l[j]? =some x→x.1 ≠ nm):Kn.typ l nm=[]:=by
 induction l with
 |nil=>rfl
 |cons y r ih=>
  unfold Kn.typ
  rw [if_neg (h 0 y rfl)]
  exact ih (fun j z hz=>h (j+1) z (by simpa using hz))
theorem isIn_none {l:List Kn.Nv} {nm:List UInt8} (h: ∀ (j:Nat) x,l[j]? =some x→x.1 ≠ nm):Kn.isIn l nm=false:=by
 unfold Kn.isIn
 rw [List.any_eq_false]
 intro x hx
 obtain ⟨j,hj⟩:=List.mem_iff_getElem?.1 hx
 simpa using h j x hj
theorem isIn_at {l:List Kn.Nv} {nm:List UInt8} {k:Nat} {x:Kn.Nv} (hx:l[k]? =some x) (he:x.1=nm):Kn.isIn l nm=true:=by
 unfold Kn.isIn
 rw [List.any_eq_true]
 exact ⟨x,List.mem_of_getElem? hx,by simpa using he⟩
set_option maxRecDepth 100000 in
set_option maxHeartbeats 1000000 in
theorem nmTyp_any (g:Nat) (l:List Kn.Nv) (nm:List UInt8) (v:Value) (w:World) (hn:l.length≤1000000) (h1:VR w v l) (hc:w.cell? ⟨g,2,none⟩=some v):
  Calls Tryz.prog 91 #[.pointer (some ⟨g,0,none⟩),.string (bs nm)] w fun e w'=>e= .returned (.string (bs (Kn.typ l nm)))∧ ∃ n,w'=w.drewN n:=by
 obtain ⟨a,c,rfl,h1⟩:=h1
 by_cases h0:l=[]
 ·subst h0
  go_enter Tryz.func91,Tryz.ntmps91
  go_wp2
  go_loop [5] (fun i=>i= .int .i64 0) (fun i=>0)
  case atStart=>rfl
  case round=>
   obtain rfl:=hrel
   go_wp2
   go_ret
   exact ⟨rfl,0,rfl⟩
 ·obtain ⟨b,o,rfl,q1⟩:=h1 h0
  have H1:=hide q1
  clear h1 h0 q1
  go_enter Tryz.func91,Tryz.ntmps91
  go_wp2
  go_loopw [5] (fun i wr=> ∃ k:Nat,k≤l.length∧i= .int .i64 k∧(∃ n,wr=w.drewN n)∧Hid (∀ (j:Nat) x,j<k→l[j]? =some x→x.1 ≠ nm)) (fun i _=>l.length - (intOf i).toNat)
  case atStart=>exact ⟨0,Nat.zero_le _,rfl,⟨0,rfl⟩,hide (fun j x hj=>by omega)⟩
  case round=>
   obtain ⟨k,hk,rfl,⟨n,rfl⟩,HN⟩:=hrel
   by_cases hlt:k<l.length
   ·obtain ⟨x,hx⟩: ∃ x,l[k]? =some x:=⟨_,List.getElem?_eq_getElem hlt⟩
    obtain ⟨g1,g2⟩:=H1.out k x hx
    by_cases he:x.1=nm
    ·have ht:=typ_at HN.out x hx he
     have hb:((bs x.1).toList == (bs nm).toList)=true:=by rw [he];simp
     have HX:=hide hx
     clear hx
     go_wp2
     go_ret
     exact ⟨by rw [ht];rfl,_,rfl⟩
    ·have hb:=bs_ne he
     have HX:=hide hx
     clear hx
     go_wp2
     go_roundw
     case rel=>
      refine ⟨k+1,by omega,by go_num,⟨_,rfl⟩,hide (fun j y hj hy=> ?_)⟩
      by_cases hjk:j=k
      ·subst hjk;rw [HX.out] at hy;cases hy;exact he
      ·exact HN.out j y (by omega) hy
     case measure=>simp [intOf];omega
   ·have hlen:k=l.length:=by omega
    have ht:Kn.typ l nm=[]:=typ_none (fun j x hx=>HN.out j x (by have:=(List.getElem?_eq_some_iff.1 hx).1;omega) hx)
    go_wp2
    go_ret
    exact ⟨by rw [ht];rfl,_,rfl⟩
set_option maxRecDepth 100000 in
set_option maxHeartbeats 1000000 in
theorem nmIsBound_any (g:Nat) (l:List Kn.Nv) (nm:List UInt8) (v:Value) (w:World) (hn:l.length≤1000000) (h1:VR w v l) (hc:w.cell? ⟨g,3,none⟩=some v):
  Calls Tryz.prog 25 #[.pointer (some ⟨g,0,none⟩),.string (bs nm)] w fun e w'=>e= .returned (.bool (Kn.isIn l nm))∧ ∃ n,w'=w.drewN n:=by
 obtain ⟨a,c,rfl,h1⟩:=h1
 by_cases h0:l=[]
 ·subst h0
  go_enter Tryz.func25,Tryz.ntmps25
  go_wp2
  go_loop [5] (fun i=>i= .int .i64 0) (fun i=>0)
  case atStart=>rfl
  case round=>
   obtain rfl:=hrel
   go_wp2
   go_ret
   exact ⟨rfl,0,rfl⟩
 ·obtain ⟨b,o,rfl,q1⟩:=h1 h0
  have H1:=hide q1
  clear h1 h0 q1
  go_enter Tryz.func25,Tryz.ntmps25
  go_wp2
  go_loopw [5] (fun i wr=> ∃ k:Nat,k≤l.length∧i= .int .i64 k∧(∃ n,wr=w.drewN n)∧Hid (∀ (j:Nat) x,j<k→l[j]? =some x→x.1 ≠ nm)) (fun i _=>l.length - (intOf i).toNat)
  case atStart=>exact ⟨0,Nat.zero_le _,rfl,⟨0,rfl⟩,hide (fun j x hj=>by omega)⟩
  case round=>
   obtain ⟨k,hk,rfl,⟨n,rfl⟩,HN⟩:=hrel
   by_cases hlt:k<l.length
   ·obtain ⟨x,hx⟩: ∃ x,l[k]? =some x:=⟨_,List.getElem?_eq_getElem hlt⟩
    obtain ⟨g1,g2⟩:=H1.out k x hx
    by_cases he:x.1=nm
    ·have ht:=isIn_at hx he
     have hb:((bs x.1).toList == (bs nm).toList)=true:=by rw [he];simp
     have HX:=hide hx
     clear hx
     go_wp2
     go_ret
     exact ⟨by rw [ht];rfl,_,rfl⟩
    ·have hb:=bs_ne he
     have HX:=hide hx
     clear hx
     go_wp2
     go_roundw
     case rel=>
      refine ⟨k+1,by omega,by go_num,⟨_,rfl⟩,hide (fun j y hj hy=> ?_)⟩
      by_cases hjk:j=k
      ·subst hjk;rw [HX.out] at hy;cases hy;exact he
      ·exact HN.out j y (by omega) hy
     case measure=>simp [intOf];omega
   ·have hlen:k=l.length:=by omega
    have ht:Kn.isIn l nm=false:=isIn_none (fun j x hx=>HN.out j x (by have:=(List.getElem?_eq_some_iff.1 hx).1;omega) hx)
    go_wp2
    go_ret
    exact ⟨by rw [ht];rfl,_,rfl⟩
end Go.Proofs.YthcapfojofahkaaGreatDoor
namespace Go.Proofs.YthcapfojofahkaaGreatDoor
open Go.RowKit Go.Maps Go.ChangeMaps
theorem Tryz.keyedS:Keyed Tryz.prog 9:=string_keyed Tryz.underlying9
theorem Tryz.lawS:WideMaps.KeyLaw Tryz.prog 9:=WideMaps.string_law Tryz.underlying9
def heldE (v:Value):Option (DataW Value × List MemPlace):=some (.held v,[])
def MV (w:World) (b m:Nat) (f:List UInt8→Option Value):Prop:=
 ∃ D:DataW Value,w.ownsMap Tryz.prog 9 heldE b m D∧ ∀ nm:List UInt8,Maps.has D (.string nm)=(f nm).isSome∧ ∀ v,f nm=some v→ ∀ z,D.atKey (.string nm) z= .held v
theorem MV.of_block {w w':World} {b m:Nat} {f:List UInt8→Option Value} (h:MV w b m f) (e:w'.heap[b]? =w.heap[b]?):MV w' b m f:=by
 obtain ⟨D,⟨es,cl,h1,h2⟩,hv⟩:=h
 exact ⟨D,⟨es,cl,e.trans h1,h2⟩,hv⟩
theorem MV.lt {w:World} {b m:Nat} {f:List UInt8→Option Value} (h:MV w b m f):b<w.heap.size:=by
 obtain ⟨D,ho,_⟩:=h
 exact ho.lt
theorem MV.made (w:World):MV (w.alloc (.map #[] 0)) w.heap.size 0 (fun _=>none):=
 ⟨.map [],World.ownsMap_made w _ _ _,fun nm=>⟨rfl,fun v h=>by cases h⟩⟩
theorem MV.no_cell {w:World} {b m:Nat} {f:List UInt8→Option Value} (h:MV w b m f) (k:Nat) (v:Value):w.cell? ⟨b,k,none⟩ ≠ some v:=by
 obtain ⟨D,⟨es,cl,h1,_⟩,_⟩:=h
 intro e
 simp [World.cell?,h1] at e
theorem keyS (nm:List UInt8) (hl:nm.length≤1000000):keyOf Tryz.prog 9 (.string (bs nm))=some (.string nm):=by
 have:=WideMaps.keyOf_string_mk (P:=Tryz.prog) (s:=bs nm) Tryz.underlying9 (by rw [bsz];unfold maxLen;omega)
 rw [this]
 rfl
theorem MV.at {f:List UInt8→Option Value} {D:DataW Value} (hv: ∀ nm:List UInt8,Maps.has D (.string nm)=(f nm).isSome∧ ∀ v,f nm=some v→ ∀ z,D.atKey (.string nm) z= .held v) (nm:List UInt8) (z:Value):D.atKey (.string nm) (.held z)= .held ((f nm).getD z):=by
 cases hf:f nm with
 |some v=>exact (hv nm).2 v hf _
 |none=>
  have h0:=(hv nm).1
  rw [hf] at h0
  exact atKey_of_not_has h0 _
theorem MV.look {w:World} {b m:Nat} {f:List UInt8→Option Value} (h:MV w b m f) (nm:List UInt8) (hl:nm.length≤1000000) {t e:TypeId} (ht:Tryz.prog.underlying t=some (.map 9 e)) {z:Value} (hz:(zeroValue e).run Tryz.prog w= .ok z w):
  (Instr.lookup t (.map (some b)) (.string (bs nm)) true).run Tryz.prog w= .ok (.tuple #[(f nm).getD z,.bool (f nm).isSome]) w:=by
 obtain ⟨D,ho,hv⟩:=h
 obtain ⟨v,ps,hrun,hR⟩:=ho.look_ok Tryz.keyedS ht hz (zd:= .held z) (zp:=[]) rfl (keyS nm hl)
 have e1:=MV.at hv nm z
 rw [e1] at hR
 simp only [heldE,Option.some.injEq,Prod.mk.injEq,DataW.held.injEq] at hR
 rw [hrun,hR.1,(hv nm).1]
theorem MV.look0 {w:World} {b m:Nat} {f:List UInt8→Option Value} (h:MV w b m f) (nm:List UInt8) (hl:nm.length≤1000000) {t e:TypeId} (ht:Tryz.prog.underlying t=some (.map 9 e)) {z:Value} (hz:(zeroValue e).run Tryz.prog w= .ok z w):
  (Instr.lookup t (.map (some b)) (.string (bs nm)) false).run Tryz.prog w= .ok ((f nm).getD z) w:=by
 obtain ⟨D,ho,hv⟩:=h
 obtain ⟨v,ps,hrun,hR⟩:=ho.lookup Tryz.keyedS ht hz (zd:= .held z) (zp:=[]) rfl (keyS nm hl)
 have e1:=MV.at hv nm z
 rw [e1] at hR
 simp only [heldE,Option.some.injEq,Prod.mk.injEq,DataW.held.injEq] at hR
 rw [hrun,hR.1]
def upd (f:List UInt8→Option Value) (nm:List UInt8) (v:Value):List UInt8→Option Value:=fun x=>if x=nm then some v else f x
def del (f:List UInt8→Option Value) (nm:List UInt8):List UInt8→Option Value:=fun x=>if x=nm then none else f x
theorem isKeyS (nm:List UInt8):WideAt.IsKeyLit (.string nm):=by simp [WideAt.IsKeyLit]
theorem lit_ne {a b:List UInt8} (h:a ≠ b):Lit.string a ≠ Lit.string b:=fun e=>h (by injection e)
theorem MV.view_upd {f:List UInt8→Option Value} {D:DataW Value} (hD:IsMap D) (hv: ∀ nm:List UInt8,Maps.has D (.string nm)=(f nm).isSome∧ ∀ v,f nm=some v→ ∀ z,D.atKey (.string nm) z= .held v) (x:List UInt8) (u:Value):
  ∀ nm:List UInt8,Maps.has (D.put (.string x) (.held u)) (.string nm)=(upd f x u nm).isSome∧ ∀ v,upd f x u nm=some v→ ∀ z,(D.put (.string x) (.held u)).atKey (.string nm) z= .held v:=by
 intro nm
 by_cases h:nm=x
 ·subst h
  refine ⟨by rw [has_put_same hD (isKeyS _)];simp [upd],fun v hv z=> ?_⟩
  simp only [upd,if_true,Option.some.injEq] at hv
  subst hv
  exact atKey_put_same hD (isKeyS _) _ _
 ·have e:upd f x u nm=f nm:=if_neg h
  rw [e,has_put_other (lit_ne h)]
  refine ⟨(hv nm).1,fun v hf z=> ?_⟩
  rw [atKey_put_other (lit_ne h)]
  exact (hv nm).2 v hf z
theorem MV.view_del {f:List UInt8→Option Value} {D:DataW Value} (hv: ∀ nm:List UInt8,Maps.has D (.string nm)=(f nm).isSome∧ ∀ v,f nm=some v→ ∀ z,D.atKey (.string nm) z= .held v) (x:List UInt8):
  ∀ nm:List UInt8,Maps.has (D.del (.string x)) (.string nm)=(del f x nm).isSome∧ ∀ v,del f x nm=some v→ ∀ z,(D.del (.string x)).atKey (.string nm) z= .held v:=by
 intro nm
 by_cases h:nm=x
 ·subst h
  refine ⟨by rw [has_del_same];simp [del],fun v hv z=> ?_⟩
  simp [del] at hv
 ·have e:del f x nm=f nm:=if_neg h
  rw [e,has_del_other (lit_ne h)]
  refine ⟨(hv nm).1,fun v hf z=> ?_⟩
  rw [atKey_del_other (lit_ne h)]
  exact (hv nm).2 v hf z
theorem MV.store {w:World} {b m:Nat} {f:List UInt8→Option Value} (h:MV w b m f) (nm:List UInt8) (hl:nm.length≤1000000) (u:Value) (hm:m≤1000000) {t e:TypeId} (ht:Tryz.prog.underlying t=some (.map 9 e)):
  ∃ o,(Instr.mapUpdate t (.map (some b)) (.string (bs nm)) u).run Tryz.prog w= .ok () (setBlock w b o)∧MV (setBlock w b o) b (m+1) (upd f nm u):=by
 obtain ⟨D,ho,hv⟩:=h
 obtain ⟨w',hrun,h1,es,cl,es',cl',-,rfl⟩:=ho.store Tryz.keyedS ht (by unfold maxLen;omega) (keyS nm hl) (val:=u) (d:= .held u) (ps:=[]) rfl
 exact ⟨_,hrun,_,h1,MV.view_upd ho.isMap hv nm u⟩
theorem MV.drop {w:World} {b m:Nat} {f:List UInt8→Option Value} (h:MV w b m f) (nm:List UInt8) (hl:nm.length≤1000000) {t e:TypeId} (ht:Tryz.prog.underlying t=some (.map 9 e)) (ty:TypeId):
  ∃ o,(Builtin.delete_ #[t,9] ty #[.map (some b),.string (bs nm)]).run Tryz.prog w= .ok (.tuple #[]) (setBlock w b o)∧MV (setBlock w b o) b m (del f nm):=by
 obtain ⟨D,ho,hv⟩:=h
 obtain ⟨w',hrun,h1,es,cl,es',cl',-,rfl⟩:=ho.drop Tryz.keyedS ht (keyS nm hl) ty
 exact ⟨_,hrun,_,h1,MV.view_del hv nm⟩
theorem MV.entry {w:World} {b m:Nat} {f:List UInt8→Option Value} (h:MV w b m f) (nm:List UInt8) (hl:nm.length≤1000000) (hm:m≤1000000) {t e:TypeId} (ht:Tryz.prog.underlying t=some (.map 9 e)) {z:Value} (hz: ∀ u:World,(zeroValue e).run Tryz.prog u= .ok z u):
  ∃ (v0:Value) (st:Nat) (o:Obj),(Instr.mapEntry t (.map (some b)) (.string (bs nm))).run Tryz.prog w= .ok (.tuple #[v0,goInt st]) (setBlock w b o)∧
    ∀ (u:Value) (w2:World),w2.heap[b]? =some o→ ∃ o',(Instr.entryStore t (.map (some b)) (goInt st) u).run Tryz.prog w2= .ok () (setBlock w2 b o')∧MV (setBlock w2 b o') b (m+1) (upd f nm u):=by
 have h':=h
 obtain ⟨D,⟨es,cl,hb,F,-,rfl⟩,-⟩:=h'
 obtain ⟨v0,st,es1,cl1,hrun,-,hst⟩:=WideElems.entry_then_store Tryz.lawS ht hz hb F (keyS nm hl)
 refine ⟨v0,st,.map es1 cl1,hrun,fun u w2 hw2=> ?_⟩
 obtain ⟨es',cl',h1,h2⟩:=hst w2 u hw2
 refine ⟨_,h1,?_⟩
 obtain ⟨o,h3,h4⟩:=h.store nm hl u hm ht
 rw [h2] at h3
 injection h3 with _ h3
 rw [←h3] at h4
 refine h4.of_block ?_
 rw [heap_setBlock_same hw2,heap_setBlock_same hb]
end Go.Proofs.YthcapfojofahkaaGreatDoor
