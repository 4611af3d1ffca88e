import Derived.Test.YtagblibbngmbdaaGreatDoorMai
import Derived.Test.YtagblibbngmbdaaGreatDoorMaj
import Derived.Maps.OwnSet
import Derived.WideKeyEntry
import Derived.Deep.RegionHeld3
import Derived.BigQuiet
import Derived.Deep.AppendLies
namespace Go.Proofs.YtagblibbngmbdaaGreatDoor.Kn
open Go.Proofs.YtagblibbngmbdaaGreatDoor Go.Proofs.YtagblibbngmbdaaGreatDoor.Sx
abbrev Nv:=List UInt8 × List UInt8
def typ:List Nv→List UInt8→List UInt8
 |[],_=>[]
 |v::r,nm=>if v.1=nm then v.2 else typ r nm
def isIn (bd:List Nv) (nm:List UInt8):Bool:=bd.any fun v=>v.1 == nm
def mst (ns:List Nv) (nm:List UInt8) (b:UInt8):Int:=if typ ns nm=[] then 10 else if (typ ns nm).head? ≠ some b then 11 else 0
def num:Nat→List Nv→Tr→Int
 |0,_,_=>0
 |n+1,ns,d=>
  if (if (eH d).1=2 then mst ns (eH d).2.1 105 else 0) ≠ 0 then mst ns (eH d).2.1 105 else Rn.firstOf (num n ns) (eL d)
def thg (n:Nat) (ns:List Nv) (d:Tr) (t:List UInt8):Int:=
 if t=[105] then num n ns d else if (eH d).1 ≠ 2 then 11 else if typ ns (eH d).2.1=[] then 10 else if typ ns (eH d).2.1 ≠ t then 11 else 0
def thgs (n:Nat) (ns:List Nv):List Tr→List (List UInt8)→Int
 |d::r,t::s=>if thg n ns d t ≠ 0 then thg n ns d t else thgs n ns r s
 |_,_=>0
def zgv (d:Int):Bool:=d == 1 || d == 4 || d == 5 || d == 11 || d == 12
def abv:List Tr→List UInt8→Option Tr
 |[],_=>none
 |g::r,nm=>if gN g=nm then some g else abv r nm
def used (t:Tr):Option (List UInt8 × UInt8):=
 let (d,A,B,_,_):=sH t
 if d=5 then some (B,115) else if d=6∨d=7 then some (A,115) else if d=8∨d=9 then some (A,114) else if d=11∨d=12 then some (B,114) else if d=2 then some (A,105) else none
def usedF (ns:List Nv) (t:Tr):Int:=match used t with
 |some (nm,b)=>mst ns nm b
 |none=>0
def twice (bd:List Nv) (t:Tr):Bool:=
 let (d,A,B,_,_):=sH t
 zgv d && (isIn bd A || (d == 4 && (isIn bd B || A == B)))
def rest (n:Nat) (ab:List Tr) (ns:List Nv) (t:Tr):Int:=
 let (d,A,_,T,k):=sH t
 if d=6 then thg n ns ((sE t).headD d0) (typ ns A).tail
 else if d=10 then match abv ab A with
  |none=>12
  |some g=>if (gP g).length ≠ (sE t).length then 15 else thgs n ns (sE t) ((gP g).map fun p=>(pH p).2)
 else if d=4 then if k<1∨5<k then 14 else if 3<T.length then 11 else 0
 else Rn.firstOf (num n ns) (sE t)
def sc (n:Nat) (ab:List Tr) (ns bd:List Nv) (t:Tr):Int:=
 if twice bd t then 9 else if usedF ns t ≠ 0 then usedF ns t else rest n ab ns t
def bnds (ns:List Nv) (t:Tr):List Nv:=
 let (d,A,B,T,_):=sH t
 if d=1 then [(A,[105])] else if d=4 then [(A,115::T),(B,114::T)] else if d=5 then [(A,typ ns B)] else if d=11∨d=12 then [(A,(typ ns B).tail)] else []
structure St where
 ns:List Nv
 bd:List Nv
 at':Nat
abbrev Rs:=Sum St (Int × Int)
def thn (m:Rs) (k:St→Rs):Rs:=match m with
 | .inl s=>k s
 | .inr f=> .inr f
def one (n:Nat) (ab:List Tr) (blk:St→List Tr→Rs) (s:St) (t:Tr):Rs:=
 if sc n ab s.ns s.bd t ≠ 0 then .inr (sc n ab s.ns s.bd t,s.at') else
 let b:=bnds s.ns t
 if (sH t).1=11∨(sH t).1=12 then
  thn (blk ⟨s.ns++b,s.bd++b,s.at'+1⟩ (sB t)) fun s1=>thn (blk ⟨s.ns,s1.bd,s1.at'⟩ (sO t)) fun s2=> .inl ⟨s.ns,s2.bd,s2.at'⟩
 else
  thn (blk ⟨s.ns++b,s.bd++b,s.at'+1⟩ (sB t)) fun s1=>thn (blk ⟨s.ns++b,s1.bd,s1.at'⟩ (sO t)) fun s2=> .inl ⟨s.ns++b,s2.bd,s2.at'⟩
def goK (g:St→Tr→Rs):St→List Tr→Rs
 |s,[]=> .inl s
 |s,t::r=>thn (g s t) fun s'=>goK g s' r
def sts:Nat→List Tr→St→List Tr→Rs
 |0,_,s,_=> .inl s
 |n+1,ab,s,l=>goK (fun s t=>one n ab (sts n ab) s t) s l
def par (g:Tr):List Nv:=(gP g).map fun p=>((pH p).1,(pH p).2)
def twiceP:List Nv→List Nv→Bool
 |_,[]=>false
 |bd,v::r=>isIn bd v.1 || twiceP (bd++[v]) r
def stg (n:Nat):Nat→Nat→List Tr→List (List Nv)→List Tr→Sum (List (List Nv)) (Int × Int)
 |_,_,_,out,[]=> .inl out
 |i,a,ab,out,g::r=>
  if (abv ab (gN g)).isSome || twiceP [] (par g) then .inr (9,-2 - (i:Int)) else
  match sts n ab ⟨par g,par g,a⟩ (gB g) with
  | .inr f=> .inr f
  | .inl s=>if 30<s.bd.length then .inr (8,-2 - (i:Int)) else stg n (i+1) s.at' (ab++[g]) (out++[s.bd]) r
def isMain (g:Tr):Bool:=gN g == [109,97,105,110] && match gP g with
 |[p]=>(pH p).2 == [114,105]
 |_=>false
def vars (n:Nat) (l:List Tr):Sum (List (List Nv)) (Int × Int):=
 if (Rn.told n l).1 ≠ 0 then .inr (Rn.told n l) else
 match stg n 0 0 [] [] l with
 | .inr f=> .inr f
 | .inl o=>if l.any isMain then .inl o else .inr (13,-1)
def Alk (x y:List Tr):Prop:=x.map (fun g=>(gN g,gP g))=y.map (fun g=>(gN g,gP g))
theorem Alk.refl (x:List Tr):Alk x x:=rfl
theorem Alk.abv {x y:List Tr} (h:Alk x y) (nm:List UInt8):(abv x nm).map gP=(abv y nm).map gP:=by
 unfold Alk at h
 induction x generalizing y with
 |nil=>
  cases y with
  |nil=>rfl
  |cons _ _=>simp at h
 |cons g r ih=>
  cases y with
  |nil=>simp at h
  |cons g' r'=>
   simp only [List.map_cons,List.cons.injEq,Prod.mk.injEq] at h
   obtain ⟨⟨h1,h2⟩,h3⟩:=h
   simp only [Kn.abv]
   rw [h1]
   by_cases hc:gN g'=nm
   ·rw [if_pos hc,if_pos hc];simp [h2]
   ·rw [if_neg hc,if_neg hc];exact ih h3
theorem Alk.isSome {x y:List Tr} (h:Alk x y) (nm:List UInt8):(Kn.abv x nm).isSome=(Kn.abv y nm).isSome:=by
 have:=h.abv nm
 cases hx:Kn.abv x nm<;> cases hy:Kn.abv y nm<;> rw [hx,hy] at this<;> simp at this ⊢
theorem zlo {x y:List Tr} (h:Alk x y) (n:Nat) (ns:List Nv) (t:Tr):rest n x ns t=rest n y ns t:=by
 have hk:=h.abv (sH t).2.1
 unfold rest
 cases hx:Kn.abv x (sH t).2.1<;> cases hy:Kn.abv y (sH t).2.1<;> rw [hx,hy] at hk<;> simp at hk
 ·simp only [hx,hy]
 ·simp only [hx,hy,hk]
theorem zod {x y:List Tr} (h:Alk x y) (n:Nat) (ns bd:List Nv) (t:Tr):sc n x ns bd t=sc n y ns bd t:=by
 unfold sc
 rw [zlo h]
theorem zfn {m:Rs} {k:St→Rs} {s:St} (h:thn m k= .inl s): ∃ s1,m= .inl s1∧k s1= .inl s:=by
 cases m with
 |inl s1=>exact ⟨s1,rfl,h⟩
 |inr f=>cases h
theorem zoe {n:Nat} {x y:List Tr} (h:Alk x y) {blk blk':St→List Tr→Rs}
  (hb: ∀ s l s',blk s l= .inl s'→ ∀ a,∃ a',blk' ⟨s.ns,s.bd,a⟩ l= .inl ⟨s'.ns,s'.bd,a'⟩) {s s':St} {t:Tr} (ho:one n x blk s t= .inl s') (a:Nat):
  ∃ a',one n y blk' ⟨s.ns,s.bd,a⟩ t= .inl ⟨s'.ns,s'.bd,a'⟩:=by
 unfold one at ho ⊢
 by_cases h0:sc n x s.ns s.bd t ≠ 0
 ·rw [if_pos h0] at ho;cases ho
 rw [if_neg h0] at ho
 rw [←zod h,if_neg h0]
 by_cases h1:(sH t).1=11∨(sH t).1=12
 ·simp only [if_pos h1] at ho ⊢
  obtain ⟨s1,e1,ho⟩:=zfn ho
  obtain ⟨s2,e2,ho⟩:=zfn ho
  cases ho
  obtain ⟨a1,f1⟩:=hb _ _ _ e1 (a+1)
  obtain ⟨a2,f2⟩:=hb _ _ _ e2 a1
  rw [f1]
  simp only [thn]
  rw [f2]
  exact ⟨a2,rfl⟩
 ·simp only [if_neg h1] at ho ⊢
  obtain ⟨s1,e1,ho⟩:=zfn ho
  obtain ⟨s2,e2,ho⟩:=zfn ho
  cases ho
  obtain ⟨a1,f1⟩:=hb _ _ _ e1 (a+1)
  obtain ⟨a2,f2⟩:=hb _ _ _ e2 a1
  rw [f1]
  simp only [thn]
  rw [f2]
  exact ⟨a2,rfl⟩
theorem zfo {x y:List Tr} (h:Alk x y): ∀ (n:Nat) (s:St) (l:List Tr) (s':St),sts n x s l= .inl s'→ ∀ a,∃ a',sts n y ⟨s.ns,s.bd,a⟩ l= .inl ⟨s'.ns,s'.bd,a'⟩
 |0,s,l,s',e,a=>by
  simp only [sts] at e ⊢
  cases e
  exact ⟨a,rfl⟩
 |n+1,s,l,s',e,a=>by
  have hb:=zfo h n
  simp only [sts] at e ⊢
  induction l generalizing s a with
  |nil=>cases e;exact ⟨a,rfl⟩
  |cons t r ih=>
   simp only [goK] at e ⊢
   obtain ⟨s1,e1,e⟩:=zfn e
   obtain ⟨a1,f1⟩:=zoe h hb e1 a
   rw [f1]
   exact ih _ e a1
def okG (n:Nat) (ab:List Tr) (g:Tr):Prop:=((abv ab (gN g)).isSome || twiceP [] (par g))=false∧ ∃ s,sts n ab ⟨par g,par g,0⟩ (gB g)= .inl s∧s.bd.length≤30
theorem okG.alk {n:Nat} {x y:List Tr} {g:Tr} (h:okG n x g) (k:Alk x y):okG n y g:=by
 obtain ⟨h1,s,h2,h3⟩:=h
 obtain ⟨a',e⟩:=zfo k n _ _ _ h2 0
 exact ⟨by rw [←k.isSome];exact h1,_,e,h3⟩
theorem zmh (n:Nat): ∀ (l:List Tr) (i a:Nat) (ab:List Tr) (out o:List (List Nv)),stg n i a ab out l= .inl o→ ∀ k g,l[k]? =some g→okG n (ab++l.take k) g
 |[],_,_,_,_,_,_,k,g,hk=>by simp at hk
 |x::l,i,a,ab,out,o,h,k,g,hk=>by
  simp only [stg] at h
  by_cases h0:((abv ab (gN x)).isSome || twiceP [] (par x))=true
  ·rw [if_pos h0] at h;cases h
  rw [if_neg h0] at h
  cases hs:sts n ab ⟨par x,par x,a⟩ (gB x) with
  |inr f=>rw [hs] at h;cases h
  |inl s=>
   rw [hs] at h
   simp only at h
   by_cases h1:30<s.bd.length
   ·rw [if_pos h1] at h;cases h
   rw [if_neg h1] at h
   cases k with
   |zero=>
    simp at hk
    subst hk
    obtain ⟨a',e⟩:=zfo (Alk.refl ab) n _ _ _ hs 0
    exact ⟨by simpa using h0,_,by simpa using e,by simpa using h1⟩
   |succ k=>
    have:=zmh n l (i+1) s.at' (ab++[x]) _ o h k g (by simpa using hk)
    simpa using this
theorem zmi (n:Nat): ∀ (l:List Tr) (i a:Nat) (ab:List Tr) (out:List (List Nv)),(∀ k g,l[k]? =some g→okG n (ab++l.take k) g)→ ∃ o,stg n i a ab out l= .inl o
 |[],_,_,_,out,_=>⟨out,rfl⟩
 |x::l,i,a,ab,out,h=>by
  obtain ⟨h0,s,hs,h1⟩:=h 0 x rfl
  simp only [List.take_zero,List.append_nil] at h0 hs
  obtain ⟨a',e⟩:=zfo (Alk.refl ab) n _ _ _ hs a
  simp only [stg]
  rw [if_neg (by rw [h0];simp),e]
  simp only
  rw [if_neg (by omega)]
  refine zmi n l (i+1) a' (ab++[x]) _ fun k g hk=> ?_
  have:=h (k+1) g (by simpa using hk)
  simpa using this
theorem zj6 {n:Nat} {l:List Tr} {o:List (List Nv)} (h:vars n l= .inl o):(∀ k g,l[k]? =some g→okG n (l.take k) g)∧l.any isMain=true:=by
 unfold vars at h
 by_cases h0:(Rn.told n l).1 ≠ 0
 ·rw [if_pos h0] at h;cases h
 rw [if_neg h0] at h
 cases hs:stg n 0 0 [] [] l with
 |inr f=>rw [hs] at h;cases h
 |inl o'=>
  rw [hs] at h
  simp only at h
  by_cases h1:l.any isMain=true
  ·exact ⟨fun k g hk=>by simpa using zmh n l 0 0 [] [] o' hs k g hk,h1⟩
  ·rw [if_neg h1] at h;cases h
theorem zj7 {n:Nat} {l:List Tr} (h0:(Rn.told n l).1=0) (h: ∀ k g,l[k]? =some g→okG n (l.take k) g) (h1:l.any isMain=true): ∃ o,vars n l= .inl o:=by
 obtain ⟨o,e⟩:=zmi n l 0 0 [] [] (by simpa using h)
 exact ⟨o,by unfold vars;rw [if_neg (by simp [h0]),e];simp only;rw [if_pos h1]⟩
theorem zlp {ab:List Tr} {nm:List UInt8} (h: ∀ g ∈ ab,gN g ≠ nm):abv ab nm=none:=by
 induction ab with
 |nil=>rfl
 |cons g r ih=>
  simp only [abv]
  rw [if_neg (h g (List.mem_cons_self ..))]
  exact ih fun x hx=>h x (List.mem_cons_of_mem _ hx)
def zS:Tr:=tG [122,122,122] 0 [tP [97] [105]] [tS 3 0 [] [] [] 0 [tE 2 [97] 0 []] [] []]
theorem zS_ok (n:Nat) {ab:List Tr} (h: ∀ g ∈ ab,gN g ≠ [122,122,122]):okG (n+2) ab zS:=by
 refine ⟨by rw [show gN zS=[122,122,122] from rfl,zlp h];rfl,⟨[([97],[105])],[([97],[105])],1⟩,?_,by decide⟩
 rfl
theorem more_ok {n:Nat} {l:List Tr} {o:List (List Nv)} (h:vars (n+2) l= .inl o) (hz: ∀ g ∈ l,gN g ≠ [122,122,122]) (ht:(Rn.told (n+2) (l++[zS])).1=0): ∃ o',vars (n+2) (l++[zS])= .inl o':=by
 obtain ⟨h1,h2⟩:=zj6 h
 refine zj7 ht (fun k g hk=> ?_) (by rw [List.any_append,h2];rfl)
 by_cases hlt:k<l.length
 ·rw [List.getElem?_append_left hlt] at hk
  rw [List.take_append_of_le_length (by omega)]
  exact h1 k g hk
 ·rw [List.getElem?_append_right (by omega)] at hk
  obtain ⟨hk0,hg⟩:k - l.length=0∧zS=g:=by
   cases hd:k - l.length with
   |zero=>rw [hd] at hk;simpa using hk
   |succ m=>rw [hd] at hk;simp at hk
  subst hg
  rw [show k=l.length by omega,List.take_left]
  exact zS_ok n hz
def ifS (b:List Tr):Tr:=tS 14 0 [] [] [] 0 [tE 1 [] 1 []] b []
def ifG (g:Tr) (at':Int):Tr:=tG (gN g) at' (gP g) [ifS (gB g)]
theorem zof {n:Nat} {ab:List Tr} {g:Tr} {at':Int} (h:okG (n+1) ab g):okG (n+2) ab (ifG g at'):=by
 obtain ⟨h0,s,h1,h2⟩:=h
 obtain ⟨a',e⟩:=zfo (Alk.refl ab) (n+1) _ _ _ h1 1
 refine ⟨h0,⟨par g,s.bd,a'⟩,?_,h2⟩
 show thn (one (n+1) ab (sts (n+1) ab) ⟨par g,par g,0⟩ (ifS (gB g))) _=_
 have:one (n+1) ab (sts (n+1) ab) ⟨par g,par g,0⟩ (ifS (gB g))= .inl ⟨par g,s.bd,a'⟩:=by
  have hs:sc (n+1) ab (par g) (par g) (ifS (gB g))=0:=rfl
  have hH:(sH (ifS (gB g))).1=14:=rfl
  have hB:sB (ifS (gB g))=gB g:=rfl
  have hO:sO (ifS (gB g))=[]:=rfl
  have hb:bnds (par g) (ifS (gB g))=[]:=rfl
  unfold one
  simp only [hs,hH,hB,hO,hb,List.append_nil]
  rw [if_neg (by decide),if_neg (by decide)]
  rw [show (0:Nat)+1=1 from rfl,e]
  rfl
 rw [this]
 rfl
theorem Alk.take_set {l:List Tr} {k:Nat} {g g':Tr} (hg:l[k]? =some g) (h1:gN g=gN g') (h2:gP g=gP g') (j:Nat):Alk (l.take j) ((l.set k g').take j):=by
 unfold Alk
 apply List.ext_getElem?
 intro i
 simp only [List.getElem?_map,List.getElem?_take,List.getElem?_set]
 by_cases hi:i<j
 ·simp only [if_pos hi]
  by_cases hk:k=i
  ·subst hk
   obtain ⟨hl,he⟩:=List.getElem?_eq_some_iff.1 hg
   simp [hl,he,h1,h2]
  ·simp [hk]
 ·simp [hi]
end Go.Proofs.YtagblibbngmbdaaGreatDoor.Kn
namespace Go.Proofs.YtagblibbngmbdaaGreatDoor
open Go.RowKit
def VR (w:World) (v:Value) (l:List Kn.Nv):Prop:=
 ∃ a c,v= .slice a l.length c∧(l ≠ []→ ∃ g o,a=some ⟨g,o,none⟩∧ ∀ (k:Nat) x,l[k]? =some x→w.cell? ⟨g,o+k * 2,none⟩=some (.string (bs x.1))∧w.cell? ⟨g,o+k * 2+1,none⟩=some (.string (bs x.2)))
def zbm (l:List Kn.Nv):List Value:=l.flatMap fun x=>[.string (bs x.1),.string (bs x.2)]
theorem zd6 (a b:List Kn.Nv):zbm (a++b)=zbm a++zbm b:=by simp [zbm]
theorem zig (l:List Kn.Nv) (k:Nat) (x:Kn.Nv) (h:l[k]? =some x):(zbm l)[k * 2]? =some (.string (bs x.1))∧(zbm l)[k * 2+1]? =some (.string (bs x.2)):=by
 induction l generalizing k with
 |nil=>cases h
 |cons y r ih=>
  match k,h with
  |0,h=>simp only [List.getElem?_cons_zero,Option.some.injEq] at h;subst h;exact ⟨rfl,rfl⟩
  |k+1,h=>
   have:=ih k (by simpa using h)
   have e1:(k+1) * 2=k * 2+1+1:=by omega
   rw [e1]
   exact this
end Go.Proofs.YtagblibbngmbdaaGreatDoor
namespace Go.Proofs.YtagblibbngmbdaaGreatDoor
open Go.RowKit Go.Maps Go.ChangeMaps
theorem Tryz.keyedS:Keyed Tryz.prog 9:=string_keyed Tryz.underlying9
theorem Tryz.lawS:WideMaps.KeyLaw Tryz.prog 9:=WideMaps.string_law Tryz.underlying9
def heldE (v:Value):Option (DataW Value × List MemPlace):=some (.held v,[])
def MV (w:World) (b m:Nat) (f:List UInt8→Option Value):Prop:=
 ∃ D:DataW Value,w.ownsMap Tryz.prog 9 heldE b m D∧ ∀ nm:List UInt8,Maps.has D (.string nm)=(f nm).isSome∧ ∀ v,f nm=some v→ ∀ z,D.atKey (.string nm) z= .held v
theorem MV.of_block {w w':World} {b m:Nat} {f:List UInt8→Option Value} (h:MV w b m f) (e:w'.heap[b]? =w.heap[b]?):MV w' b m f:=by
 obtain ⟨D,⟨es,cl,h1,h2⟩,hv⟩:=h
 exact ⟨D,⟨es,cl,e.trans h1,h2⟩,hv⟩
theorem MV.lt {w:World} {b m:Nat} {f:List UInt8→Option Value} (h:MV w b m f):b<w.heap.size:=by
 obtain ⟨D,ho,_⟩:=h
 exact ho.lt
theorem MV.made (w:World):MV (w.alloc (.map #[] 0)) w.heap.size 0 (fun _=>none):=
 ⟨.map [],World.ownsMap_made w _ _ _,fun nm=>⟨rfl,fun v h=>by cases h⟩⟩
theorem MV.no_cell {w:World} {b m:Nat} {f:List UInt8→Option Value} (h:MV w b m f) (k:Nat) (v:Value):w.cell? ⟨b,k,none⟩ ≠ some v:=by
 obtain ⟨D,⟨es,cl,h1,_⟩,_⟩:=h
 intro e
 simp [World.cell?,h1] at e
theorem keyS (nm:List UInt8) (hl:nm.length≤1000000):keyOf Tryz.prog 9 (.string (bs nm))=some (.string nm):=by
 have:=WideMaps.keyOf_string_mk (P:=Tryz.prog) (s:=bs nm) Tryz.underlying9 (by rw [bsz];unfold maxLen;omega)
 rw [this]
 rfl
theorem MV.at {f:List UInt8→Option Value} {D:DataW Value} (hv: ∀ nm:List UInt8,Maps.has D (.string nm)=(f nm).isSome∧ ∀ v,f nm=some v→ ∀ z,D.atKey (.string nm) z= .held v) (nm:List UInt8) (z:Value):D.atKey (.string nm) (.held z)= .held ((f nm).getD z):=by
 cases hf:f nm with
 |some v=>exact (hv nm).2 v hf _
 |none=>
  have h0:=(hv nm).1
  rw [hf] at h0
  exact atKey_of_not_has h0 _
theorem MV.look {w:World} {b m:Nat} {f:List UInt8→Option Value} (h:MV w b m f) (nm:List UInt8) (hl:nm.length≤1000000) {t e:TypeId} (ht:Tryz.prog.underlying t=some (.map 9 e)) {z:Value} (hz:(zeroValue e).run Tryz.prog w= .ok z w):
  (Instr.lookup t (.map (some b)) (.string (bs nm)) true).run Tryz.prog w= .ok (.tuple #[(f nm).getD z,.bool (f nm).isSome]) w:=by
 obtain ⟨D,ho,hv⟩:=h
 obtain ⟨v,ps,hrun,hR⟩:=ho.look_ok Tryz.keyedS ht hz (zd:= .held z) (zp:=[]) rfl (keyS nm hl)
 have e1:=MV.at hv nm z
 rw [e1] at hR
 simp only [heldE,Option.some.injEq,Prod.mk.injEq,DataW.held.injEq] at hR
 rw [hrun,hR.1,(hv nm).1]
theorem MV.look0 {w:World} {b m:Nat} {f:List UInt8→Option Value} (h:MV w b m f) (nm:List UInt8) (hl:nm.length≤1000000) {t e:TypeId} (ht:Tryz.prog.underlying t=some (.map 9 e)) {z:Value} (hz:(zeroValue e).run Tryz.prog w= .ok z w):
  (Instr.lookup t (.map (some b)) (.string (bs nm)) false).run Tryz.prog w= .ok ((f nm).getD z) w:=by
 obtain ⟨D,ho,hv⟩:=h
 obtain ⟨v,ps,hrun,hR⟩:=ho.lookup Tryz.keyedS ht hz (zd:= .held z) (zp:=[]) rfl (keyS nm hl)
 have e1:=MV.at hv nm z
 rw [e1] at hR
 simp only [heldE,Option.some.injEq,Prod.mk.injEq,DataW.held.injEq] at hR
 rw [hrun,hR.1]
def upd (f:List UInt8→Option Value) (nm:List UInt8) (v:Value):List UInt8→Option Value:=fun x=>if x=nm then some v else f x
def del (f:List UInt8→Option Value) (nm:List UInt8):List UInt8→Option Value:=fun x=>if x=nm then none else f x
theorem zml (nm:List UInt8):WideAt.IsKeyLit (.string nm):=by simp [WideAt.IsKeyLit]
theorem zhs {a b:List UInt8} (h:a ≠ b):Lit.string a ≠ Lit.string b:=fun e=>h (by injection e)
theorem MV.view_upd {f:List UInt8→Option Value} {D:DataW Value} (hD:IsMap D) (hv: ∀ nm:List UInt8,Maps.has D (.string nm)=(f nm).isSome∧ ∀ v,f nm=some v→ ∀ z,D.atKey (.string nm) z= .held v) (x:List UInt8) (u:Value):
  ∀ nm:List UInt8,Maps.has (D.put (.string x) (.held u)) (.string nm)=(upd f x u nm).isSome∧ ∀ v,upd f x u nm=some v→ ∀ z,(D.put (.string x) (.held u)).atKey (.string nm) z= .held v:=by
 intro nm
 by_cases h:nm=x
 ·subst h
  refine ⟨by rw [has_put_same hD (zml _)];simp [upd],fun v hv z=> ?_⟩
  simp only [upd,if_true,Option.some.injEq] at hv
  subst hv
  exact atKey_put_same hD (zml _) _ _
 ·have e:upd f x u nm=f nm:=if_neg h
  rw [e,has_put_other (zhs h)]
  refine ⟨(hv nm).1,fun v hf z=> ?_⟩
  rw [atKey_put_other (zhs h)]
  exact (hv nm).2 v hf z
theorem MV.view_del {f:List UInt8→Option Value} {D:DataW Value} (hv: ∀ nm:List UInt8,Maps.has D (.string nm)=(f nm).isSome∧ ∀ v,f nm=some v→ ∀ z,D.atKey (.string nm) z= .held v) (x:List UInt8):
  ∀ nm:List UInt8,Maps.has (D.del (.string x)) (.string nm)=(del f x nm).isSome∧ ∀ v,del f x nm=some v→ ∀ z,(D.del (.string x)).atKey (.string nm) z= .held v:=by
 intro nm
 by_cases h:nm=x
 ·subst h
  refine ⟨by rw [has_del_same];simp [del],fun v hv z=> ?_⟩
  simp [del] at hv
 ·have e:del f x nm=f nm:=if_neg h
  rw [e,has_del_other (zhs h)]
  refine ⟨(hv nm).1,fun v hf z=> ?_⟩
  rw [atKey_del_other (zhs h)]
  exact (hv nm).2 v hf z
theorem MV.store {w:World} {b m:Nat} {f:List UInt8→Option Value} (h:MV w b m f) (nm:List UInt8) (hl:nm.length≤1000000) (u:Value) (hm:m≤1000000) {t e:TypeId} (ht:Tryz.prog.underlying t=some (.map 9 e)):
  ∃ o,(Instr.mapUpdate t (.map (some b)) (.string (bs nm)) u).run Tryz.prog w= .ok () (setBlock w b o)∧MV (setBlock w b o) b (m+1) (upd f nm u):=by
 obtain ⟨D,ho,hv⟩:=h
 obtain ⟨w',hrun,h1,es,cl,es',cl',-,rfl⟩:=ho.store Tryz.keyedS ht (by unfold maxLen;omega) (keyS nm hl) (val:=u) (d:= .held u) (ps:=[]) rfl
 exact ⟨_,hrun,_,h1,MV.view_upd ho.isMap hv nm u⟩
theorem MV.drop {w:World} {b m:Nat} {f:List UInt8→Option Value} (h:MV w b m f) (nm:List UInt8) (hl:nm.length≤1000000) {t e:TypeId} (ht:Tryz.prog.underlying t=some (.map 9 e)) (ty:TypeId):
  ∃ o,(Builtin.delete_ #[t,9] ty #[.map (some b),.string (bs nm)]).run Tryz.prog w= .ok (.tuple #[]) (setBlock w b o)∧MV (setBlock w b o) b m (del f nm):=by
 obtain ⟨D,ho,hv⟩:=h
 obtain ⟨w',hrun,h1,es,cl,es',cl',-,rfl⟩:=ho.drop Tryz.keyedS ht (keyS nm hl) ty
 exact ⟨_,hrun,_,h1,MV.view_del hv nm⟩
theorem MV.entry {w:World} {b m:Nat} {f:List UInt8→Option Value} (h:MV w b m f) (nm:List UInt8) (hl:nm.length≤1000000) (hm:m≤1000000) {t e:TypeId} (ht:Tryz.prog.underlying t=some (.map 9 e)) {z:Value} (hz: ∀ u:World,(zeroValue e).run Tryz.prog u= .ok z u):
  ∃ (v0:Value) (st:Nat) (o:Obj),(Instr.mapEntry t (.map (some b)) (.string (bs nm))).run Tryz.prog w= .ok (.tuple #[v0,goInt st]) (setBlock w b o)∧
   ∀ (u:Value) (w2:World),w2.heap[b]? =some o→ ∃ o',(Instr.entryStore t (.map (some b)) (goInt st) u).run Tryz.prog w2= .ok () (setBlock w2 b o')∧MV (setBlock w2 b o') b (m+1) (upd f nm u):=by
 have h':=h
 obtain ⟨D,⟨es,cl,hb,F,-,rfl⟩,-⟩:=h'
 obtain ⟨v0,st,es1,cl1,hrun,-,hst⟩:=WideElems.entry_then_store Tryz.lawS ht hz hb F (keyS nm hl)
 refine ⟨v0,st,.map es1 cl1,hrun,fun u w2 hw2=> ?_⟩
 obtain ⟨es',cl',h1,h2⟩:=hst w2 u hw2
 refine ⟨_,h1,?_⟩
 obtain ⟨o,h3,h4⟩:=h.store nm hl u hm ht
 rw [h2] at h3
 injection h3 with _ h3
 rw [←h3] at h4
 refine h4.of_block ?_
 rw [heap_setBlock_same hw2,heap_setBlock_same hb]
end Go.Proofs.YtagblibbngmbdaaGreatDoor
namespace Go.Proofs.YtagblibbngmbdaaGreatDoor
open Go.RowKit
theorem zcv {w:World} {B:Nat} {v:Value} {l:List Kn.Nv} (h:w.ownsRow B 39 2 v l.length (zbm l)):VR w v l:=by
 rcases h.2 with ⟨hv,h0⟩|⟨g,cap,cur,hv,hb,hg,hnc,hcm,_,_⟩
 ·refine ⟨none,0,by rw [hv,h0],fun hn=> ?_⟩
  exact absurd (List.length_eq_zero_iff.1 h0) hn
 ·refine ⟨_,cap,hv,fun _=>⟨g,0,rfl,fun k x hx=> ?_⟩⟩
  obtain ⟨e1,e2⟩:=zig l k x hx
  have f1:=h.cells (g:=g) (by rw [hv];rfl) _ _ e1
  have f2:=h.cells (g:=g) (by rw [hv];rfl) _ _ e2
  have ea: ∀ j:Nat,(⟨g,0,none⟩:Addr).add j=⟨g,j,none⟩:=fun j=>by unfold Addr.add;split<;> simp_all
  rw [ea] at f1 f2
  rw [Nat.zero_add]
  exact ⟨f1,f2⟩
theorem zbe {B e z:Nat} {w w':World} {v:Value} {n:Nat} {xs:List Value} (h:w.ownsRow B e z v n xs) (hk: ∀ g,v.ownBlock=some g→w'.heap[g]? =w.heap[g]?):w'.ownsRow B e z v n xs:=by
 refine ⟨h.1,h.2.imp id ?_⟩
 rintro ⟨g,cap,cur,e1,e2,e3,e4⟩
 exact ⟨g,cap,cur,e1,e2,by rw [hk g (by rw [e1];rfl)];exact e3,e4⟩
end Go.Proofs.YtagblibbngmbdaaGreatDoor
set_option maxRecDepth 100000
set_option maxHeartbeats 1000000
namespace Go.Proofs.YtagblibbngmbdaaGreatDoor
open Go.RowKit Go.Maps Go.ChangeMaps
theorem Tryz.zeroInt (w:World):(zeroValue 3).run Tryz.prog w= .ok (.int .i64 0) w:=by kernel_rfl
namespace Kn
def ix:List Nv→List UInt8→Option Nat
 |[],_=>none
 |v::r,nm=>if v.1=nm then some 0 else (ix r nm).map (· +1)
theorem ix_isIn (bd:List Nv) (nm:List UInt8):(ix bd nm).isSome=isIn bd nm:=by
 induction bd with
 |nil=>rfl
 |cons v r ih=>
  unfold ix isIn
  rw [List.any_cons]
  by_cases h:v.1=nm
  ·rw [if_pos h];simp [h]
  ·rw [if_neg h,Option.isSome_map,ih]
   simp [h,isIn]
theorem zng {bd:List Nv} {nm:List UInt8} {k:Nat} (h:ix bd nm=some k): ∃ v,bd[k]? =some v∧v.1=nm:=by
 induction bd generalizing k with
 |nil=>cases h
 |cons v r ih=>
  unfold ix at h
  split at h
  ·rename_i e;cases h;exact ⟨v,rfl,e⟩
  ·cases hr:ix r nm with
   |none=>rw [hr] at h;cases h
   |some j=>
    rw [hr] at h
    simp only [Option.map_some,Option.some.injEq] at h
    subst h
    exact ih hr
theorem zbu {bd:List Nv} {nm:List UInt8}:isIn bd nm=true ↔ ∃ v,v ∈ bd∧v.1=nm:=by
 unfold isIn
 rw [List.any_eq_true]
 exact ⟨fun ⟨v,h1,h2⟩=>⟨v,h1,by simpa using h2⟩,fun ⟨v,h1,h2⟩=>⟨v,h1,by simpa using h2⟩⟩
theorem ix_snoc {bd:List Nv} (v:Nv) (h:isIn bd v.1=false) (nm:List UInt8):ix (bd++[v]) nm=if nm=v.1 then some bd.length else ix bd nm:=by
 induction bd with
 |nil=>
  show (if v.1=nm then some 0 else none)=_
  by_cases e:nm=v.1
  ·rw [if_pos e,if_pos e.symm];rfl
  ·rw [if_neg e,if_neg (fun h=>e h.symm)];rfl
 |cons u r ih=>
  have hu:u.1 ≠ v.1∧isIn r v.1=false:=by
   unfold isIn at h
   rw [List.any_cons,Bool.or_eq_false_iff] at h
   exact ⟨by simpa using h.1,h.2⟩
  show (if u.1=nm then some 0 else (ix (r++[v]) nm).map (· +1))=_
  rw [ih hu.2]
  show _=if nm=v.1 then _ else (if u.1=nm then some 0 else (ix r nm).map (· +1))
  by_cases e:nm=v.1
  ·rw [if_pos e,if_pos e,if_neg (fun h=>hu.1 (h.trans e))];simp
  ·rw [if_neg e,if_neg e]
def Nd:List Nv→Prop
 |[]=>True
 |v::r=>isIn r v.1=false∧Nd r
theorem Nd.same {bd:List Nv} (h:Nd bd) {u v:Nv} (hu:u ∈ bd) (hv:v ∈ bd) (e:u.1=v.1):u=v:=by
 induction bd with
 |nil=>cases hu
 |cons x r ih=>
  have key: ∀ y,y ∈ r→y.1 ≠ x.1:=fun y hy he=>by
   have:=h.1
   rw [zbu.2 ⟨y,hy,he⟩] at this
   cases this
  rcases List.mem_cons.1 hu with h1|h1
  ·rcases List.mem_cons.1 hv with h2|h2
   ·rw [h1,h2]
   ·rw [h1] at e;exact absurd e.symm (key v h2)
  ·rcases List.mem_cons.1 hv with h2|h2
   ·rw [h2] at e;exact absurd e (key u h1)
   ·exact ih h.2 h1 h2
theorem Nd.snoc {bd:List Nv} (h:Nd bd) {v:Nv} (hv:isIn bd v.1=false):Nd (bd++[v]):=by
 induction bd with
 |nil=>exact ⟨rfl,trivial⟩
 |cons x r ih=>
  have hx:x.1 ≠ v.1∧isIn r v.1=false:=by
   unfold isIn at hv
   rw [List.any_cons,Bool.or_eq_false_iff] at hv
   exact ⟨by simpa using hv.1,hv.2⟩
  refine ⟨?_,ih h.2 hx.2⟩
  have h1:=h.1
  unfold isIn at h1 ⊢
  show ((r++[v]).any fun v=>v.1 == x.1)=false
  rw [List.any_append,h1]
  simpa using fun e=>hx.1 e.symm
theorem zeu {ns:List Nv} {nm:List UInt8} (h:isIn ns nm=true): ∃ v,v ∈ ns∧v.1=nm∧typ ns nm=v.2:=by
 induction ns with
 |nil=>cases h
 |cons x r ih=>
  unfold typ
  by_cases e:x.1=nm
  ·rw [if_pos e];exact ⟨x,List.mem_cons_self,e,rfl⟩
  ·rw [if_neg e]
   have:isIn r nm=true:=by
    unfold isIn at h ⊢
    rw [List.any_cons] at h
    simpa [e] using h
   obtain ⟨v,h1,h2,h3⟩:=ih this
   exact ⟨v,List.mem_cons_of_mem _ h1,h2,h3⟩
theorem typ_not {ns:List Nv} {nm:List UInt8} (h:isIn ns nm=false):typ ns nm=[]:=by
 induction ns with
 |nil=>rfl
 |cons x r ih=>
  unfold isIn at h
  rw [List.any_cons,Bool.or_eq_false_iff] at h
  unfold typ
  rw [if_neg (by simpa using h.1)]
  exact ih h.2
def fb (bd:List Nv) (nm:List UInt8):Option Value:=(ix bd nm).map fun k=> .int .i64 k
def fkn (ns bd:List Nv) (nm:List UInt8):Option Value:=if isIn ns nm then fb bd nm else none
structure Sb (ns bd:List Nv):Prop where
 nd:Nd bd
 sub: ∀ v,v ∈ ns→v ∈ bd
theorem Sb.at {ns bd:List Nv} (h:Sb ns bd) {nm:List UInt8} (hn:isIn ns nm=true): ∃ k,fkn ns bd nm=some (.int .i64 (k:Nat))∧bd[k]? =some (nm,typ ns nm):=by
 obtain ⟨v,h1,h2,h3⟩:=zeu hn
 have hb:isIn bd nm=true:=zbu.2 ⟨v,h.sub v h1,h2⟩
 rw [←ix_isIn] at hb
 obtain ⟨k,hk⟩:=Option.isSome_iff_exists.1 hb
 obtain ⟨u,hu,hu1⟩:=zng hk
 have:u=v:=h.nd.same (List.mem_of_getElem? hu) (h.sub v h1) (by rw [hu1,h2])
 subst this
 refine ⟨k,by unfold fkn fb;rw [hn,hk];rfl,?_⟩
 rw [hu,h3,←h2]
end Kn
structure Kg where
 g:Nat
 mb:Nat
 mo:Nat
 ma:Nat
 na:Nat
 fa:List UInt8→Option Value
structure KS (c:Kg) (w:World) (vv:Value) (bd:List Kn.Nv) (fk:List UInt8→Option Value) (t:Nat):Prop where
 lt:c.g<w.heap.size
 c0:w.cell? ⟨c.g,0,none⟩=some vv
 c1:w.cell? ⟨c.g,1,none⟩=some (.map (some c.mb))
 c2:w.cell? ⟨c.g,2,none⟩=some (.map (some c.mo))
 c3:w.cell? ⟨c.g,3,none⟩=some (.map (some c.ma))
 c4:w.cell? ⟨c.g,4,none⟩=some (.int .i64 t)
 fz: ∀ k,w.frozen? ⟨c.g,k,none⟩=false
 ob:w.ownsRow (c.g+1) 39 2 vv bd.length (zbm bd)
 mb:MV w c.mb bd.length (Kn.fb bd)
 mo:MV w c.mo bd.length fk
 ma:MV w c.ma c.na c.fa
 ne:c.mb ≠ c.mo
 na:c.ma ≠ c.mb∧c.ma ≠ c.mo
 gm:c.g<c.mb∧c.g<c.mo
 lb:bd.length≤1000
 lat:t≤100000
 sz: ∀ v,v ∈ bd→v.1.length≤1000000∧v.2.length≤1000000
theorem KS.keep {c:Kg} {w w':World} {S:List Nat} {vv:Value} {bd:List Kn.Nv} {fk:List UInt8→Option Value} {t:Nat} (h:KS c w vv bd fk t) (hk:Kp S w w') (hS: ∀ b,b ∈ S→w.heap.size≤b):KS c w' vv bd fk t:=
 have hno: ∀ b,b<w.heap.size→b ∉ S:=fun b hb hm=>by have:=hS _ hm;omega
 have hg:=hno _ h.lt
 ⟨Nat.lt_of_lt_of_le h.lt hk.size,hk.some h.c0 hg,hk.some h.c1 hg,hk.some h.c2 hg,hk.some h.c3 hg,hk.some h.c4 hg,fun k=>(hk.frozen (p:=⟨c.g,k,none⟩) h.lt hg).trans (h.fz k),zbe h.ob (fun b hb=>hk.block b (h.ob.lt b hb).2 (hno _ (h.ob.lt b hb).2)),h.mb.of_block (hk.block _ h.mb.lt (hno _ h.mb.lt)),h.mo.of_block (hk.block _ h.mo.lt (hno _ h.mo.lt)),h.ma.of_block (hk.block _ h.ma.lt (hno _ h.ma.lt)),h.ne,h.na,h.gm,h.lb,h.lat,h.sz⟩
theorem KS.kp {c:Kg} {w w':World} {vv:Value} {bd:List Kn.Nv} {fk:List UInt8→Option Value} {t:Nat} (h:KS c w vv bd fk t) (hk:Kp [] w w'):KS c w' vv bd fk t:=h.keep hk (by simp)
theorem zbc (c:Kg) (w:World) (vv:Value) (bd ns:List Kn.Nv) (t:Nat) (nm:List UInt8) (h:KS c w vv bd (Kn.fkn ns bd) t) (hs:Kn.Sb ns bd) (hl:nm.length≤1000000):
  Calls Tryz.prog 118 #[.pointer (some ⟨c.g,0,none⟩),.string (bs nm)] w fun e w'=>e= .returned (.string (bs (Kn.typ ns nm)))∧Kp [] w w':=by
 have c2:=h.c2
 have c0:=h.c0
 have HL:=h.mo.look nm hl Tryz.underlying58 (Tryz.zeroInt w)
 cases hi:Kn.isIn ns nm with
 |false=>
  have e1:Kn.fkn ns bd nm=none:=by unfold Kn.fkn;rw [hi];rfl
  rw [e1] at HL
  rw [Kn.typ_not hi]
  clear h hs
  go_enter Tryz.func118,Tryz.ntmps118
  go_wp2
  go_ret
  exact ⟨rfl,Kp.refl _ _⟩
 |true=>
  obtain ⟨k,e1,e2⟩:=hs.at hi
  rw [e1] at HL
  obtain ⟨a,cap,rfl,hc⟩:=zcv h.ob
  obtain ⟨b,o,rfl,hd⟩:=hc (fun e=>by rw [e] at e2;cases e2)
  obtain ⟨x1,x2⟩:=hd k _ e2
  have hk:k<bd.length:=(List.getElem?_eq_some_iff.1 e2).1
  have hk0:(0:Int)≤(k:Int):=by omega
  have hk1:(k:Int)<(bd.length:Int):=by omega
  clear h hs hc hd e1 e2
  go_enter Tryz.func118,Tryz.ntmps118
  go_wp2
  go_ret
  exact ⟨rfl,Kp.refl _ _⟩
end Go.Proofs.YtagblibbngmbdaaGreatDoor
namespace Go.Proofs.YtagblibbngmbdaaGreatDoor.Kn
open Go.Proofs.YtagblibbngmbdaaGreatDoor Go.Proofs.YtagblibbngmbdaaGreatDoor.Sx
theorem one_bad (n:Nat) (ab:List Tr) (blk:St→List Tr→Rs) (s:St) (t:Tr) (h:sc n ab s.ns s.bd t ≠ 0):one n ab blk s t= .inr (sc n ab s.ns s.bd t,s.at'):=by
 unfold one
 rw [if_pos h]
theorem bnds_len (ns:List Nv) (t:Tr):(bnds ns t).length≤2:=by
 unfold bnds
 dsimp only
 split
 ·simp
 ·split
  ·simp
  ·split
   ·simp
   ·split<;> simp
structure Go' (k:Nat) (s s':St):Prop where
 ns: ∃ x,s'.ns=s.ns++x
 bd: ∃ x,s'.bd=s.bd++x
 fw:s'.bd.length≤s.bd.length+2 * k
 at':s'.at'=s.at'+k
theorem Go'.refl (s:St):Go' 0 s s:=⟨⟨[],by simp⟩,⟨[],by simp⟩,by omega,rfl⟩
theorem Go'.trans {k m:Nat} {a b c:St} (h:Go' k a b) (g:Go' m b c):Go' (k+m) a c:=by
 obtain ⟨x,hx⟩:=h.ns
 obtain ⟨y,hy⟩:=g.ns
 obtain ⟨x',hx'⟩:=h.bd
 obtain ⟨y',hy'⟩:=g.bd
 exact ⟨⟨x++y,by rw [hy,hx,List.append_assoc]⟩,⟨x'++y',by rw [hy',hx',List.append_assoc]⟩,by have:=h.fw;have:=g.fw;omega,by have:=h.at';have:=g.at';omega⟩
def cs:Nat→List Tr→Nat
 |0,_=>0
 |n+1,l=>(l.map fun t=>1+cs n (sB t)+cs n (sO t)).sum
theorem zbp {m:Rs} {k:St→Rs} {s':St} (h:thn m k= .inl s'): ∃ s,m= .inl s∧k s= .inl s':=by
 cases m with
 |inl s=>exact ⟨s,rfl,h⟩
 |inr f=>cases h
theorem one_go (n:Nat) (ab:List Tr) (blk:St→List Tr→Rs) (c:List Tr→Nat) (hb: ∀ s l s',blk s l= .inl s'→Go' (c l) s s') (s:St) (t:Tr) (s':St) (h:one n ab blk s t= .inl s'):Go' (1+c (sB t)+c (sO t)) s s':=by
 unfold one at h
 split at h
 ·cases h
 ·have hl:=bnds_len s.ns t
  dsimp only at h
  split at h
  ·obtain ⟨s1,h1,h⟩:=zbp h
   obtain ⟨s2,h2,h⟩:=zbp h
   obtain rfl:=Sum.inl.inj h
   have g1:=hb _ _ _ h1
   have g2:=hb _ _ _ h2
   obtain ⟨x,hx⟩:=g1.bd
   obtain ⟨y,hy⟩:=g2.bd
   refine ⟨⟨[],by simp⟩,⟨bnds s.ns t++x++y,?_⟩,?_,?_⟩
   ·show s2.bd=_
    rw [hy]
    show s1.bd++y=_
    rw [hx]
    simp
   ·have a1:=g1.fw
    have a2:=g2.fw
    simp only [List.length_append] at a1 a2
    show s2.bd.length≤_
    omega
   ·have a1:=g1.at'
    have a2:=g2.at'
    dsimp only at a1 a2
    show s2.at'=_
    omega
  ·obtain ⟨s1,h1,h⟩:=zbp h
   obtain ⟨s2,h2,h⟩:=zbp h
   obtain rfl:=Sum.inl.inj h
   have g1:=hb _ _ _ h1
   have g2:=hb _ _ _ h2
   obtain ⟨x,hx⟩:=g1.bd
   obtain ⟨y,hy⟩:=g2.bd
   refine ⟨⟨bnds s.ns t,rfl⟩,⟨bnds s.ns t++x++y,?_⟩,?_,?_⟩
   ·show s2.bd=_
    rw [hy]
    show s1.bd++y=_
    rw [hx]
    simp
   ·have a1:=g1.fw
    have a2:=g2.fw
    simp only [List.length_append] at a1 a2
    show s2.bd.length≤_
    omega
   ·have a1:=g1.at'
    have a2:=g2.at'
    dsimp only at a1 a2
    show s2.at'=_
    omega
theorem zoy (g:St→Tr→Rs) (c:Tr→Nat) (hg: ∀ s t s',g s t= .inl s'→Go' (c t) s s'): ∀ (l:List Tr) (s s':St),goK g s l= .inl s'→Go' (l.map c).sum s s':=by
 intro l
 induction l with
 |nil=>intro s s' h;obtain rfl:=Sum.inl.inj h;exact Go'.refl _
 |cons t r ih=>
  intro s s' h
  obtain ⟨s1,h1,h2⟩:=zbp h
  have:=(hg _ _ _ h1).trans (ih _ _ h2)
  simpa using this
theorem sts_go (n:Nat) (ab:List Tr): ∀ (s:St) (l:List Tr) (s':St),sts n ab s l= .inl s'→Go' (cs n l) s s':=by
 induction n with
 |zero=>intro s l s' h;obtain rfl:=Sum.inl.inj h;exact Go'.refl _
 |succ n ih=>
  intro s l s' h
  exact zoy _ (fun t=>1+cs n (sB t)+cs n (sO t)) (fun s t s' h=>one_go n ab _ (cs n) ih s t s' h) l s s' h
end Go.Proofs.YtagblibbngmbdaaGreatDoor.Kn
namespace Go.Proofs.YtagblibbngmbdaaGreatDoor
open Go.RowKit
end Go.Proofs.YtagblibbngmbdaaGreatDoor
namespace Go.Proofs.YtagblibbngmbdaaGreatDoor
open Go.RowKit
end Go.Proofs.YtagblibbngmbdaaGreatDoor
namespace Go.Proofs.YtagblibbngmbdaaGreatDoor
open Go.RowKit
end Go.Proofs.YtagblibbngmbdaaGreatDoor
namespace Go.Proofs.YtagblibbngmbdaaGreatDoor
open Go.RowKit
theorem Tryz.infoVar:(Tryz.prog.info? 39).map (fun i=>(i.zero,i.size,i.bytes))=some (some (.agg #[.string ⟨#[]⟩,.string ⟨#[]⟩]),2,32):=by kernel_rfl
theorem zea (w:World) (x y:Value) (t:TypeId): ∀ j u,[x,y][j]? =some u→(w.alloc (.cells #[x,y] t)).cell? ((⟨w.heap.size,0,none⟩:Addr).add j)=some u:=by
 intro j u hu
 match j,hu with
 |0,hu=>simp at hu;subst hu;simp [go_sem,Addr.add]
 |1,hu=>simp at hu;subst hu;simp [go_sem,Addr.add]
end Go.Proofs.YtagblibbngmbdaaGreatDoor
