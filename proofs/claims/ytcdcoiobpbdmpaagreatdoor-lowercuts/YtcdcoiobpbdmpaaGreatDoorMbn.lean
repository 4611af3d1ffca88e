import Derived.Test.YtcdcoiobpbdmpaaGreatDoorMai
import Derived.Test.YtcdcoiobpbdmpaaGreatDoorMau
import Derived.Test.YtcdcoiobpbdmpaaGreatDoorMbm
import Derived.Test.YtcdcoiobpbdmpaaGreatDoorMae
namespace Go.Proofs.YtcdcoiobpbdmpaaGreatDoor.Lr
open Go.Proofs.YtcdcoiobpbdmpaaGreatDoor Go.Proofs.YtcdcoiobpbdmpaaGreatDoor.Sx
def ftE:Nat→List Tr→Prop
 |0,_=>False
 |n+1,l=> ∀ d ∈ l,ftE n (eL d)
def ftS:Nat→List Tr→Prop
 |0,_=>False
 |n+1,l=> ∀ t ∈ l,ftE n (sE t)∧ftS n (sB t)∧ftS n (sO t)
theorem ft_el {w:World} {P:Nat→Prop}: ∀ (n:Nat) (l:List Tr) (v:Value),EL w P n l v→ftE n l
 |0,_,_,h=>by cases h
 |n+1,l,v,h=>by
  obtain ⟨a,cap,-,h⟩:=h
  intro d hd
  rcases h with rfl|⟨b,off,-,-,h⟩
  ·cases hd
  ·obtain ⟨i,hi⟩:=List.getElem?_of_mem hd
   obtain ⟨op,nm,k,L,u,rfl,-,-,-,-,hL⟩:=h i d hi
   exact ft_el n L u hL
theorem ft_sl {w:World} {P:Nat→Prop}: ∀ (n:Nat) (l:List Tr) (v:Value),SL w P n l v→ftS n l
 |0,_,_,h=>by cases h
 |n+1,l,v,h=>by
  obtain ⟨a,cap,rfl⟩:=h.slice
  intro d hd
  obtain ⟨i,hi⟩:=List.getElem?_of_mem hd
  obtain ⟨hlt,-⟩:=List.getElem?_eq_some_iff.1 hi
  obtain ⟨b,off,D,at2,A,B,T,N,E,body,els,uE,uB,uL,-,-,hd2,-,-,-,-,-,-,-,-,-,hE,hB,hL⟩:=h.nth i hlt
  obtain rfl:d=tS D at2 A B T N E body els:=by rw [hi] at hd2;simpa using hd2
  exact ⟨ft_el n E uE hE,ft_sl n body uB hB,ft_sl n els uL hL⟩
def tI:Lw.Vr:=(⟨#[]⟩,⟨#[105]⟩)
def nmd (row:List Kn.Nv):List Lw.Vr:=row.map fun v=>(bs v.1,bs v.2)
def vsOf (row:List Kn.Nv) (k:Nat):List Lw.Vr:=nmd row++List.replicate k tI
structure Ro (row:List Kn.Nv):Prop where
 nd:row.Pairwise fun a b=>a.1 ≠ b.1
 ne: ∀ v ∈ row,v.1 ≠ []
 ty: ∀ v ∈ row,Rn.isT v.2 3=true
 few:row.length≤1000
theorem bs_inj {a b:List UInt8} (h:bs a=bs b):a=b:=by rw [←bsl a,h,bsl]
theorem nmb_row {row:List Kn.Nv} {k K:Nat} {v:Kn.Nv} (hr:Ro row) (h:row[k]? =some v):Cd.nmb (vsOf row K) (bs v.1)=(k:Int)∧(vsOf row K)[k]? =some (bs v.1,bs v.2):=by
 obtain ⟨hk,hv⟩:=List.getElem?_eq_some_iff.1 h
 have h2: ∀ (j:Nat) u,row[j]? =some u→(vsOf row K)[j]? =some (bs u.1,bs u.2):=fun j u hu=>by
  unfold vsOf nmd
  rw [List.getElem?_append_left (by simpa using (List.getElem?_eq_some_iff.1 hu).1),List.getElem?_map,hu]
  rfl
 refine ⟨Cd.nmb_at (h2 k v h) rfl (fun j y hj hy e=> ?_),h2 k v h⟩
 have hj2:j<row.length:=by omega
 rw [h2 j row[j] (List.getElem?_eq_getElem hj2)] at hy
 obtain rfl:=Option.some.inj hy
 have:=(List.pairwise_iff_getElem.1 hr.nd) j k hj2 hk hj
 exact this (by rw [bs_inj e,hv])
theorem isT_sides {t:List UInt8} (h:Rn.isT t 3=true):Rn.sides t=true∧t.length≤4:=by
 unfold Rn.isT at h
 simp only [Bool.and_eq_true,decide_eq_true_eq] at h
 exact ⟨h.1,by omega⟩
theorem known {row ns:List Kn.Nv} {nm:List UInt8} (hr:Ro row) (hs: ∀ v ∈ ns,v ∈ row) (h:Kn.typ ns nm ≠ []): ∃ k:Nat,row[k]? =some (nm,Kn.typ ns nm)∧ ∀ K,Cd.nmb (vsOf row K) (bs nm)=(k:Int)∧(vsOf row K)[k]? =some (bs nm,bs (Kn.typ ns nm)):=by
 have hi:Kn.isIn ns nm=true:=by
  cases hh:Kn.isIn ns nm with
  |true=>rfl
  |false=>exact absurd (Kn.typ_not hh) h
 obtain ⟨v,hv,rfl,ht⟩:=Kn.typ_mem hi
 obtain ⟨k,hk⟩:=List.getElem?_of_mem (hs v hv)
 refine ⟨k,by rw [hk,ht],fun K=> ?_⟩
 rw [ht]
 exact nmb_row hr hk
theorem bound {row:List Kn.Nv} {v:Kn.Nv} (hr:Ro row) (hv:v ∈ row): ∃ k:Nat,row[k]? =some v∧ ∀ K,Cd.nmb (vsOf row K) (bs v.1)=(k:Int)∧(vsOf row K)[k]? =some (bs v.1,bs v.2):=by
 obtain ⟨k,hk⟩:=List.getElem?_of_mem hv
 exact ⟨k,hk,fun K=>nmb_row hr hk⟩
theorem mst_zero {ns:List Kn.Nv} {nm:List UInt8} {b:UInt8} (h:Kn.mst ns nm b=0):Kn.typ ns nm ≠ []∧(Kn.typ ns nm).head? =some b:=by
 unfold Kn.mst at h
 split at h
 ·cases h
 ·rename_i h1
  split at h
  ·cases h
  ·rename_i h2
   exact ⟨h1,Decidable.not_not.1 h2⟩
theorem sides_i {t:List UInt8} (h:Rn.sides t=true) (hh:t.head? =some 105):t=[105]:=Kn.sides_head h hh
def pv (vs:List Lw.Vr) (L NB:Nat):Cd.Pr:=⟨⟨#[]⟩,vs,0,List.replicate NB (0,0,0,0),List.replicate L (Cd.jmp 0)⟩
theorem typ_pv {vs:List Lw.Vr} {L NB k:Nat} {x:Lw.Vr} (h:vs[k]? =some x):Cd.typ (pv vs L NB) (k:Int)=x.2:=Cd.typ_in (p:=pv vs L NB) h
theorem eqT_self (a:ByteArray):Ck.eqT a a=true:=Ck.eqT_iff.2 rfl
theorem row_ty {row:List Kn.Nv} (hr:Ro row) {k:Nat} {v:Kn.Nv} (h:row[k]? =some v):Rn.sides v.2=true∧v.2.length≤4:=isT_sides (hr.ty v (List.mem_of_getElem? h))
theorem num_cons (p:Cd.Pr) (h:Nat) (op n:Int) (r:List (Int × Int)):Ck.num p h ((op,n)::r)=if op=1 then Ck.num p (h+1) r
  else if op=2 then Ck.eqT (Cd.typ p n) Ck.ti && Ck.num p (h+1) r
  else if op=3 then decide (1≤h) && Ck.num p h r
  else if 4≤op∧op≤8 then decide (2≤h) && Ck.num p (h - 1) r
  else false:=rfl
theorem num_zero {n:Nat} {ns:List Kn.Nv} {d:Tr} (h:Kn.num (n+1) ns d=0):((eH d).1=2→Kn.mst ns (eH d).2.1 105=0)∧ ∀ x ∈ eL d,Kn.num n ns x=0:=by
 have h':(if (if (eH d).1=2 then Kn.mst ns (eH d).2.1 105 else 0) ≠ 0 then Kn.mst ns (eH d).2.1 105 else Rn.firstOf (Kn.num n ns) (eL d))=0:=h
 by_cases o2:(eH d).1=2
 ·rw [if_pos o2] at h'
  by_cases hm:Kn.mst ns (eH d).2.1 105=0
  ·rw [if_neg (by simpa using hm)] at h'
   exact ⟨fun _=>hm,Rn.firstOf_zero h'⟩
  ·rw [if_pos hm] at h'
   exact absurd h' hm
 ·rw [if_neg o2,if_neg (by simp)] at h'
  exact ⟨fun h=>absurd h o2,Rn.firstOf_zero h'⟩
theorem steps {row ns:List Kn.Nv} (hr:Ro row) (hs: ∀ v ∈ ns,v ∈ row) (k K L NB:Nat): ∀ (m:Nat) (l:List Tr),ftE m l→(∀ d ∈ l,Rn.xf m d=0∧Kn.num m ns d=0)→ ∀ (h:Nat) (rest:List (Int × Int)),Ck.num (pv (vsOf row K) L NB) h (Lw.stps (vsOf row k) m l++rest)=Ck.num (pv (vsOf row K) L NB) (h+l.length) rest
 |0,_,hf,_,_,_=>by cases hf
 |m+1,[],_,_,h,rest=>rfl
 |m+1,d::r,hf,hok,h,rest=>by
  have e:Lw.stps (vsOf row k) (m+1) (d::r)=(Lw.stps (vsOf row k) m (eL d)++[Cd.stp (vsOf row k) (eH d).1 (bs (eH d).2.1) (eH d).2.2])++Lw.stps (vsOf row k) (m+1) r:=by
   show (d::r).flatMap _=_
   rw [List.flatMap_cons]
   rfl
  obtain ⟨hx,hn⟩:=hok d (List.mem_cons_self ..)
  have hfd:ftE m (eL d):=hf d (List.mem_cons_self ..)
  unfold Rn.xf at hx
  dsimp only at hx
  split at hx
  ·cases hx
  rename_i h1
  split at hx
  ·cases hx
  split at hx
  ·cases hx
  have hxl:=Rn.firstOf_zero hx
  obtain ⟨hm2,hnl⟩:=num_zero hn
  have hw:(eL d).length=Rn.want (eH d).1:=Decidable.byContradiction fun hne=>h1 (.inr (.inr (.inl hne)))
  have ho1:1≤(eH d).1∧(eH d).1≤8:=⟨by
   rcases Int.lt_or_le (eH d).1 1 with h2|h2
   ·exact absurd (Or.inl h2) h1
   ·exact h2,by
   rcases Int.lt_or_le 8 (eH d).1 with h2|h2
   ·exact absurd (Or.inr (Or.inl h2)) h1
   ·exact h2⟩
  rw [e,List.append_assoc,List.append_assoc,steps hr hs k K L NB m (eL d) hfd (fun x hx=>⟨hxl x hx,hnl x hx⟩),hw]
  have ih:=steps hr hs k K L NB (m+1) r (fun x hx=>hf x (List.mem_cons_of_mem _ hx)) (fun x hx=>hok x (List.mem_cons_of_mem _ hx))
  have el:h+(d::r).length=h+1+r.length:=by simp;omega
  rw [el]
  show Ck.num _ _ (((eH d).1,if (eH d).1=2 then Cd.nmb (vsOf row k) (bs (eH d).2.1) else (eH d).2.2)::(Lw.stps (vsOf row k) (m+1) r++rest))=_
  rw [num_cons]
  by_cases o1:(eH d).1=1
  ·have hwt:Rn.want (eH d).1=0:=by rw [o1];rfl
   rw [if_pos o1,hwt]
   exact ih (h+1) rest
  ·by_cases o2:(eH d).1=2
   ·have hwt:Rn.want (eH d).1=0:=by rw [o2];rfl
    obtain ⟨q1,q2⟩:=mst_zero (hm2 o2)
    obtain ⟨j,hj,hK⟩:=known hr hs q1
    have ht:=sides_i (row_ty hr hj).1 q2
    rw [if_neg o1,if_pos o2,if_pos o2,hwt,(hK k).1,typ_pv (hK K).2]
    dsimp only at ht ⊢
    rw [ht,show Ck.eqT (bs [105]) Ck.ti=true from eqT_self _,Bool.true_and]
    exact ih (h+1) rest
   ·rw [if_neg o1,if_neg o2]
    by_cases o3:(eH d).1=3
    ·have hwt:Rn.want (eH d).1=1:=by rw [o3];rfl
     rw [if_pos o3,hwt,decide_eq_true (by omega:1≤h+1),Bool.true_and]
     exact ih (h+1) rest
    ·have hwt:Rn.want (eH d).1=2:=by unfold Rn.want;rw [if_neg (by omega),if_neg o3]
     rw [if_neg o3,if_pos ⟨by omega,by omega⟩,hwt,decide_eq_true (by omega:2≤h+2),Bool.true_and,show h+2 - 1=h+1 by omega]
     exact ih (h+1) rest
theorem one_step {row ns:List Kn.Nv} (hr:Ro row) (hs: ∀ v ∈ ns,v ∈ row) (k K L NB:Nat) {m:Nat} {d:Tr} (hf:ftE m [d]) (hx:Rn.xf m d=0) (hn:Kn.num m ns d=0):Ck.num (pv (vsOf row K) L NB) 0 (Lw.stps (vsOf row k) m [d])=true:=by
 have:=steps hr hs k K L NB m [d] hf (fun x hx'=>by obtain rfl:=List.mem_singleton.1 hx';exact ⟨hx,hn⟩) 0 []
 rw [List.append_nil] at this
 rw [this]
 rfl
structure Gw (ab:List Cd.Pr) (row:List Kn.Nv) (s s':Lw.St) (k k' m b c:Nat):Prop where
 vs:s'.vs=vsOf row k'
 kk:k≤k'
 bs: ∃ nb:List Lw.Bk,s'.bs=s.bs++nb∧ ∀ (i:Nat) y,nb[i]? =some y→ ∀ K L NB,k'≤K→Ck.blk (pv (vsOf row K) L NB) (s.bs.length+i) y=true
 is: ∃ ni:List Cd.In,s'.is=s.is++ni∧ ∀ x ∈ ni,∀ K L NB,k'≤K→s'.is.length≤L→s'.bs.length≤NB→Ck.ins ab (pv (vsOf row K) (L+1) NB) x=true
 lm:s'.is.length≤s.is.length+m
 lb:s'.bs.length≤s.bs.length+b
 lk:k'≤k+c
variable {ab:List Cd.Pr} {row:List Kn.Nv}
theorem Gw.refl {s:Lw.St} {k:Nat} (h:s.vs=vsOf row k):Gw ab row s s k k 0 0 0:=
 ⟨h,Nat.le_refl _,⟨[],by simp,fun i y hy=>by cases hy⟩,⟨[],by simp,fun x hx=>by cases hx⟩,Nat.le_refl _,Nat.le_refl _,Nat.le_refl _⟩
theorem Gw.isl {s s':Lw.St} {k k' m b c:Nat} (h:Gw ab row s s' k k' m b c):s.is.length≤s'.is.length:=by
 obtain ⟨ni,e,-⟩:=h.is
 rw [e,List.length_append]
 omega
theorem Gw.bsl {s s':Lw.St} {k k' m b c:Nat} (h:Gw ab row s s' k k' m b c):s.bs.length≤s'.bs.length:=by
 obtain ⟨nb,e,-⟩:=h.bs
 rw [e,List.length_append]
 omega
theorem Gw.trans {s s1 s2:Lw.St} {k k1 k2 m m' b b' c c':Nat} (h:Gw ab row s s1 k k1 m b c) (g:Gw ab row s1 s2 k1 k2 m' b' c'):Gw ab row s s2 k k2 (m+m') (b+b') (c+c'):=by
 obtain ⟨nb,e1,f1⟩:=h.bs
 obtain ⟨nb',e2,f2⟩:=g.bs
 obtain ⟨ni,e3,f3⟩:=h.is
 obtain ⟨ni',e4,f4⟩:=g.is
 have a1:=g.isl
 have a2:=g.bsl
 have a3:=g.kk
 refine ⟨g.vs,Nat.le_trans h.kk g.kk,⟨nb++nb',by rw [e2,e1,List.append_assoc],fun i y hy K L NB hK=> ?_⟩,⟨ni++ni',by rw [e4,e3,List.append_assoc],fun x hx K L NB hK hL hN=> ?_⟩,by have:=h.lm;have:=g.lm;omega,by have:=h.lb;have:=g.lb;omega,by have:=h.lk;have:=g.lk;omega⟩
 ·by_cases hi:i<nb.length
  ·rw [List.getElem?_append_left hi] at hy
   exact f1 i y hy K L NB (by omega)
  ·rw [List.getElem?_append_right (by omega)] at hy
   have:=f2 (i - nb.length) y hy K L NB hK
   rw [e1,List.length_append,show s.bs.length+nb.length+(i - nb.length)=s.bs.length+i by omega] at this
   exact this
 ·rcases List.mem_append.1 hx with hx|hx
  ·exact f3 x hx K L NB (by omega) (by omega) (by omega)
  ·exact f4 x hx K L NB hK hL hN
theorem Gw.le {s s':Lw.St} {k k' m b c m' b' c':Nat} (h:Gw ab row s s' k k' m b c) (h1:m≤m') (h2:b≤b') (h3:c≤c'):Gw ab row s s' k k' m' b' c':=
 ⟨h.vs,h.kk,h.bs,h.is,by have:=h.lm;omega,by have:=h.lb;omega,by have:=h.lk;omega⟩
theorem isB_pv {vs:List Lw.Vr} {L NB:Nat} {n:Int} (h0:0≤n) (h1:n<(NB:Int)):Ck.isB (pv vs L NB) n=true:=by
 unfold Ck.isB pv
 simp [h0,h1]
theorem isI_pv {vs:List Lw.Vr} {L NB:Nat} {n:Int} (h0:0≤n) (h1:n<(L:Int)):Ck.isI (pv vs L NB) n=true:=by
 unfold Ck.isI pv
 simp [h0,h1]
theorem put_ok {s:Lw.St} {k:Nat} {blk at':Int} {x:Cd.In} (hv:s.vs=vsOf row k) (hl:s.is.length<1000000) (h0:0≤blk) (h1:blk<(s.bs.length:Int)) (h2:0≤x.lp) (h3:x.lp<(s.bs.length:Int))
  (hx: ∀ K L NB,k≤K→s.is.length+1≤L→Ck.fits ab (pv (vsOf row K) (L+1) NB) ⟨x.op,x.a,x.b,x.n,x.to,x.t,x.e,x.args,blk,x.lp,at'⟩=true):
  ∃ s',Lw.put s blk at' x=some s'∧Gw ab row s s' k k 1 0 0∧s'.bs=s.bs∧s'.vs=s.vs∧s'.is.length=s.is.length+1:=by
 refine ⟨⟨s.vs,s.bs,s.is++[⟨x.op,x.a,x.b,x.n,x.to,x.t,x.e,x.args,blk,x.lp,at'⟩]⟩,by unfold Lw.put;rw [if_pos hl],?_,rfl,rfl,by simp⟩
 refine ⟨hv,Nat.le_refl _,⟨[],by simp,fun i y hy=>by cases hy⟩,⟨_,rfl,fun y hy K L NB hK hL hN=> ?_⟩,by simp,Nat.le_refl _,Nat.le_refl _⟩
 obtain rfl:=List.mem_singleton.1 hy
 unfold Ck.ins
 simp only [List.length_append,List.length_singleton] at hL hN
 rw [isB_pv (by exact h0) (by show blk<_;omega),isB_pv (by exact h2) (by show x.lp<_;omega),hx K L NB hK hL]
 rfl
theorem endT_bs (t:List UInt8):Cd.endT (bs t)=(decide (t.head? =some 115) || decide (t.head? =some 114)):=by
 unfold Cd.endT
 rw [show (bs t).data.toList=t by unfold bs;simp]
theorem pfx_bs (b:UInt8) (t:List UInt8):Ck.pfx b (bs t)=decide (t.head? =some b):=by
 unfold Ck.pfx
 rw [show (bs t).data.toList=t by unfold bs;simp]
theorem vat_at {vs:List Lw.Vr} {k:Nat} {y:Lw.Vr} (h:vs[k]? =some y):Lw.vat vs (k:Int)=some y:=by
 unfold Lw.vat
 rw [if_pos (by omega),Int.toNat_natCast,h]
theorem over_ok (hr:Ro row) {at':Int}: ∀ (l:List Kn.Nv) (s:Lw.St) (k:Nat) (blk:Nat),(∀ v ∈ l,v ∈ row)→s.vs=vsOf row k→blk<s.bs.length→s.is.length+l.length<1000000→
  ∃ s',Lw.over s blk at' (l.map fun v=>bs v.1)=some s'∧Gw ab row s s' k k l.length 0 0∧s'.bs=s.bs∧s'.vs=s.vs
 |[],s,k,blk,_,hv,_,_=>⟨s,rfl,Gw.refl hv,rfl,rfl⟩
 |v::r,s,k,blk,hm,hv,hb,hl=>by
  obtain ⟨j,hj,hK⟩:=bound hr (hm v (List.mem_cons_self ..))
  simp only [List.length_cons] at hl
  have key: ∃ s1,Lw.ov1 s blk at' (bs v.1)=some s1∧Gw ab row s s1 k k 1 0 0∧s1.bs=s.bs∧s1.vs=s.vs:=by
   unfold Lw.ov1
   rw [hv,(hK k).1,vat_at (hK k).2]
   dsimp only
   by_cases he:Cd.endT (bs v.2)=true
   ·rw [if_pos he]
    obtain ⟨s1,e1,g1,e2,e3,-⟩:=put_ok (ab:=ab) (row:=row) (s:=s) (k:=k) (blk:=blk) (at':=at') (x:=Cd.ovI (j:Int)) hv (by omega) (by omega) (by omega) (by exact Int.le_refl 0) (by show (0:Int)<_;omega) (fun K L NB hK' _=>by
     show Ck.fits ab _ ⟨16,_,_,_,_,_,_,_,_,_,_⟩=true
     unfold Ck.fits
     simp only [Int.reduceEq,or_self,if_false,if_true]
     rw [show (Cd.ovI (j:Int)).a=(j:Int) from rfl,typ_pv (hK K).2]
     exact he)
    exact ⟨s1,e1,g1,e2,e3.trans hv⟩
   ·rw [if_neg he]
    exact ⟨s,rfl,(Gw.refl hv).le (by omega) (Nat.le_refl _) (Nat.le_refl _),rfl,hv⟩
  obtain ⟨s1,e1,g1,b1,v1⟩:=key
  obtain ⟨s2,e2,g2,b2,v2⟩:=over_ok hr r s1 k blk (fun x hx=>hm x (List.mem_cons_of_mem _ hx)) (v1.trans hv) (by rw [b1];exact hb) (by have:=g1.lm;omega)
  refine ⟨s2,?_,(g1.trans g2).le (by simp;omega) (by omega) (by omega),b2.trans b1,v2.trans v1⟩
  show (Lw.ov1 s blk at' (bs v.1)).bind (fun s2=>Lw.over s2 blk at' (r.map fun v=>bs v.1))=_
  rw [e1]
  exact e2
variable {ab:List Cd.Pr} {row:List Kn.Nv}
def nB (l:List Tr):Nat:=(l.map fun t=>(Lw.bnds t).length).sum
theorem overs_ok (hr:Ro row) {at':Int}: ∀ (l:List Tr) (s:Lw.St) (k:Nat) (blk:Nat),(∀ t ∈ l,∃ vl:List Kn.Nv,Lw.bnds t=vl.map (fun v=>bs v.1)∧ ∀ v ∈ vl,v ∈ row)→s.vs=vsOf row k→blk<s.bs.length→s.is.length+nB l<1000000→
  ∃ s',Lw.overs s blk at' l=some s'∧Gw ab row s s' k k (nB l) 0 0∧s'.bs=s.bs∧s'.vs=s.vs
 |[],s,k,blk,_,hv,_,_=>⟨s,rfl,Gw.refl hv,rfl,rfl⟩
 |t::r,s,k,blk,hm,hv,hb,hl=>by
  obtain ⟨vl,e,hvl⟩:=hm t (List.mem_cons_self ..)
  have hn:nB (t::r)=vl.length+nB r:=by unfold nB;simp [e]
  rw [hn] at hl ⊢
  obtain ⟨s1,e1,g1,b1,v1⟩:=over_ok (ab:=ab) hr (at':=at') vl s k blk hvl hv hb (by omega)
  obtain ⟨s2,e2,g2,b2,v2⟩:=overs_ok hr r s1 k blk (fun x hx=>hm x (List.mem_cons_of_mem _ hx)) (v1.trans hv) (by rw [b1];exact hb) (by have:=g1.lm;omega)
  refine ⟨s2,?_,g1.trans g2,b2.trans b1,v2.trans v1⟩
  show (Lw.over s blk at' (Lw.bnds t)).bind (fun s2=>Lw.overs s2 blk at' r)=_
  rw [e,e1]
  exact e2
theorem within_ok {st:Lw.St→Int→Tr→Option Lw.St} {s s2 s3 s4:Lw.St} {blk at':Int} {b:Int × Int × Int} {body:List Tr} {last:Lw.St→Int→Option Lw.St} {k k2 m1 b1 c1 m2 m3:Nat}
  (hv:s.vs=vsOf row k) (hb:s.bs.length<1000000) (hl:body.length≤1000000)
  (hk: ∀ K L NB,k≤K→Ck.blk (pv (vsOf row K) L NB) s.bs.length (b.1,blk,b.2.1,b.2.2)=true)
  (h1:Lw.stmts st ⟨s.vs,s.bs++[(b.1,blk,b.2.1,b.2.2)],s.is⟩ s.bs.length body=some s2) (g1:Gw ab row ⟨s.vs,s.bs++[(b.1,blk,b.2.1,b.2.2)],s.is⟩ s2 k k2 m1 b1 c1)
  (h2:Lw.overs s2 s.bs.length at' body=some s3) (g2:Gw ab row s2 s3 k2 k2 m2 0 0) (h3:last s3 s.bs.length=some s4) (g3:Gw ab row s3 s4 k2 k2 m3 0 0):
  Lw.within st s blk at' b body last=some s4∧Gw ab row s s4 k k2 (m1+m2+m3) (b1+1) c1:=by
 have g0:Gw ab row s ⟨s.vs,s.bs++[(b.1,blk,b.2.1,b.2.2)],s.is⟩ k k 0 1 0:=
  ⟨hv,Nat.le_refl _,⟨_,rfl,fun i y hy K L NB hK=>by
   match i,hy with
   |0,hy=>
    obtain rfl:_=y:=by simpa using hy
    exact hk K L NB hK⟩,⟨[],by simp,fun x hx=>by cases hx⟩,Nat.le_refl _,by simp,Nat.le_refl _⟩
 refine ⟨?_,(((g0.trans g1).trans g2).trans g3).le (by omega) (by omega) (by omega)⟩
 unfold Lw.within
 rw [if_pos ⟨hb,hl⟩,h1,Option.bind_some,h2,Option.bind_some]
 exact h3
theorem fits_to {p:Cd.Pr} {x:Cd.In} {to:Int} (h:Ck.fits ab p x=true) (ht:Ck.isI p to=true):Ck.fits ab p ⟨x.op,x.a,x.b,x.n,to,x.t,x.e,x.args,x.bk,x.lp,x.at'⟩=true:=by
 unfold Ck.fits at h ⊢
 dsimp only at h ⊢
 by_cases o0:x.op=1∨x.op=12
 ·rw [if_pos o0] at h ⊢
  exact h
 rw [if_neg o0] at h ⊢
 by_cases o1:x.op=2
 ·rw [if_pos o1] at h ⊢
  exact h
 rw [if_neg o1] at h ⊢
 by_cases o2:x.op=3
 ·rw [if_pos o2] at h ⊢
  exact h
 rw [if_neg o2] at h ⊢
 by_cases o3:x.op=4
 ·rw [if_pos o3] at h ⊢
  exact h
 rw [if_neg o3] at h ⊢
 by_cases o4:x.op=5
 ·rw [if_pos o4] at h ⊢
  exact h
 rw [if_neg o4] at h ⊢
 by_cases o5:x.op=6
 ·rw [if_pos o5] at h ⊢
  exact h
 rw [if_neg o5] at h ⊢
 by_cases o6:x.op=7
 ·rw [if_pos o6] at h ⊢
  exact h
 rw [if_neg o6] at h ⊢
 by_cases o7:x.op=8∨x.op=9
 ·rw [if_pos o7] at h ⊢
  exact h
 rw [if_neg o7] at h ⊢
 by_cases o8:x.op=10
 ·rw [if_pos o8] at h ⊢
  exact h
 rw [if_neg o8] at h ⊢
 by_cases o9:x.op=11
 ·rw [if_pos o9] at h ⊢
  rw [Bool.and_eq_true] at h ⊢
  exact ⟨h.1,ht⟩
 rw [if_neg o9] at h ⊢
 by_cases o10:x.op=13
 ·rw [if_pos o10] at h ⊢
  rw [Bool.and_eq_true] at h ⊢
  exact ⟨h.1,ht⟩
 rw [if_neg o10] at h ⊢
 by_cases o11:x.op=14
 ·rw [if_pos o11] at h ⊢
  rw [Bool.and_eq_true] at h ⊢
  exact ⟨h.1,ht⟩
 rw [if_neg o11] at h ⊢
 by_cases o12:x.op=15
 ·rw [if_pos o12] at h ⊢
  exact ht
 rw [if_neg o12] at h ⊢
 by_cases o13:x.op=16
 ·rw [if_pos o13] at h ⊢
  exact h
 rw [if_neg o13] at h ⊢
 exact h
theorem setTo_ok {s s2:Lw.St} {k k2 m b c j:Nat} {to:Int} (g:Gw ab row s s2 k k2 m b c) (h1:s.is.length≤j) (h2:j<s2.is.length) (h3:0≤to) (h4:to≤(s2.is.length:Int)):
  ∃ s',Lw.setTo s2 j to=some s'∧Gw ab row s s' k k2 m b c∧s'.is.length=s2.is.length∧s'.bs=s2.bs∧s'.vs=s2.vs:=by
 obtain ⟨ni,e,f⟩:=g.is
 have hx:s2.is[j]? =some s2.is[j]:=List.getElem?_eq_getElem h2
 have hni:j - s.is.length<ni.length:=by rw [e,List.length_append] at h2;omega
 have hxn:ni[j - s.is.length]? =some s2.is[j]:=by
  rw [←hx]
  conv=>rhs;rw [e]
  rw [List.getElem?_append_right h1]
 generalize s2.is[j]=x at hx hxn
 refine ⟨⟨s2.vs,s2.bs,s2.is.set j ⟨x.op,x.a,x.b,x.n,to,x.t,x.e,x.args,x.bk,x.lp,x.at'⟩⟩,by unfold Lw.setTo;rw [hx],?_,by simp,rfl,rfl⟩
 refine ⟨g.vs,g.kk,g.bs,⟨ni.set (j - s.is.length) ⟨x.op,x.a,x.b,x.n,to,x.t,x.e,x.args,x.bk,x.lp,x.at'⟩,?_,fun y hy K L NB hK hL hN=> ?_⟩,by simpa using g.lm,g.lb,g.lk⟩
 ·show s2.is.set j _=_
  conv=>lhs;rw [e]
  rw [List.set_append_right _ _ h1]
 ·simp only [List.length_set] at hL
  rcases List.mem_or_eq_of_mem_set hy with hy|rfl
  ·exact f y hy K L NB hK hL hN
  ·have:=f x (List.mem_of_getElem? hxn) K L NB hK hL hN
   unfold Ck.ins at this ⊢
   simp only [Bool.and_eq_true] at this ⊢
   exact ⟨this.1,fits_to this.2 (isI_pv h3 (by omega))⟩
theorem last_ok (hr:Ro row) {at' to:Int} (l:List Kn.Nv) (s:Lw.St) (k:Nat) (blk:Nat) (hm: ∀ v ∈ l,v ∈ row) (hv:s.vs=vsOf row k) (hb:blk<s.bs.length) (hl:s.is.length+l.length+1<1000000) (h0:0≤to) (h1:to≤(s.is.length:Int)):
  ∃ s',((Lw.over s blk at' (l.map fun v=>bs v.1)).bind fun s4=>Lw.put s4 blk at' (Cd.jmp to))=some s'∧Gw ab row s s' k k (l.length+1) 0 0∧s.is.length+1≤s'.is.length:=by
 obtain ⟨s1,e1,g1,b1,v1⟩:=over_ok (ab:=ab) hr (at':=at') l s k blk hm hv hb (by omega)
 have hg:=g1.isl
 obtain ⟨s2,e2,g2,-,-,l2⟩:=put_ok (ab:=ab) (row:=row) (s:=s1) (k:=k) (blk:=blk) (at':=at') (x:=Cd.jmp to) (v1.trans hv) (by have:=g1.lm;omega) (by omega) (by rw [b1];omega) (by exact Int.le_refl 0) (by rw [b1];show (0:Int)<_;omega) (fun K L NB _ hL=>by
  show Ck.fits ab _ ⟨15,_,_,_,_,_,_,_,_,_,_⟩=true
  unfold Ck.fits
  simp only [Int.reduceEq,or_self,if_false,if_true]
  exact isI_pv (by exact h0) (by show to<_;omega))
 refine ⟨s2,?_,(g1.trans g2).le (by omega) (by omega) (by omega),by omega⟩
 rw [e1,Option.bind_some]
 exact e2
theorem loop_ok {st:Lw.St→Int→Tr→Option Lw.St} {s:Lw.St} {blk at':Int} {h:Cd.In} {b:Int × Int × Int} {body:List Tr} {nms:List ByteArray} {k m b1 c:Nat}
  (hl:s.is.length<1000000) (h0:0≤blk) (h1:blk<(s.bs.length:Int)) (h2:h.to=0)
  (hh: ∀ (K L NB:Nat) (to:Int),k≤K→0≤to→to≤(L:Int)→Ck.fits ab (pv (vsOf row K) (L+1) NB) ⟨h.op,h.a,h.b,h.n,to,h.t,h.e,h.args,blk,s.bs.length,at'⟩=true)
  (hw: ∀ s1:Lw.St,s1.vs=s.vs→s1.bs=s.bs→s1.is.length=s.is.length+1→ ∃ s2 k2,Lw.within st s1 blk at' b body (fun s3 nb=>(Lw.over s3 nb at' nms).bind fun s4=>Lw.put s4 nb at' (Cd.jmp s.is.length))=some s2∧Gw ab row s1 s2 k k2 m b1 c∧s.bs.length+1≤s2.bs.length):
  ∃ s' k',Lw.loop st s blk at' h b body nms=some s'∧Gw ab row s s' k k' (m+1) b1 c:=by
 obtain ⟨s2,k2,e2,g2,hb2⟩:=hw ⟨s.vs,s.bs,s.is++[⟨h.op,h.a,h.b,h.n,h.to,h.t,h.e,h.args,blk,s.bs.length,at'⟩]⟩ rfl rfl (by simp)
 obtain ⟨ni,e3,f3⟩:=g2.is
 have g:Gw ab row s s2 k k2 (m+1) b1 c:=by
  refine ⟨g2.vs,g2.kk,g2.bs,⟨⟨h.op,h.a,h.b,h.n,h.to,h.t,h.e,h.args,blk,s.bs.length,at'⟩::ni,by rw [e3];simp,fun x hx K L NB hK hL hN=> ?_⟩,by have:=g2.lm;simp only [List.length_append,List.length_singleton] at this;omega,g2.lb,g2.lk⟩
  rcases List.mem_cons.1 hx with rfl|hx
  ·unfold Ck.ins
   rw [isB_pv (by exact h0) (by show blk<_;omega),isB_pv (by show (0:Int)≤((s.bs.length:Nat):Int);omega) (by show ((s.bs.length:Nat):Int)<_;omega),h2,hh K L NB 0 (Nat.le_trans g2.kk hK) (Int.le_refl 0) (by omega)]
   rfl
  ·exact f3 x hx K L NB hK hL hN
 have hlen:s.is.length+1≤s2.is.length:=by rw [e3];simp
 obtain ⟨s',e4,g4,-,-,-⟩:=setTo_ok (j:=s.is.length) (to:=s2.is.length) g (Nat.le_refl _) (by omega) (by omega) (Int.le_refl _)
 refine ⟨s',k2,?_,g4⟩
 have e0:Lw.put s blk at' ⟨h.op,h.a,h.b,h.n,h.to,h.t,h.e,h.args,h.bk,s.bs.length,h.at'⟩=some ⟨s.vs,s.bs,s.is++[⟨h.op,h.a,h.b,h.n,h.to,h.t,h.e,h.args,blk,s.bs.length,at'⟩]⟩:=by unfold Lw.put;rw [if_pos hl]
 unfold Lw.loop
 rw [e0,Option.bind_some,e2,Option.bind_some]
 exact e4
theorem either_ok {st:Lw.St→Int→Tr→Option Lw.St} {s:Lw.St} {blk at':Int} {h:Cd.In} {body els:List Tr} {nms:List ByteArray} {k m1 b1 c1 m2 b2 c2:Nat}
  (hv:s.vs=vsOf row k) (hl:s.is.length<1000000) (h0:0≤blk) (h1:blk<(s.bs.length:Int)) (h2:h.to=0) (h3:h.lp=0)
  (hh: ∀ (K L NB:Nat) (to:Int),k≤K→0≤to→to≤(L:Int)→Ck.fits ab (pv (vsOf row K) (L+1) NB) ⟨h.op,h.a,h.b,h.n,to,h.t,h.e,h.args,blk,h.lp,at'⟩=true)
  (hw: ∀ s1:Lw.St,s1.vs=s.vs→s1.bs=s.bs→s1.is.length=s.is.length+1→ ∃ s2 k2,Lw.within st s1 blk at' (3,0,0) body (fun s3 nb=>(Lw.over s3 nb at' nms).bind fun s4=>Lw.put s4 nb at' (Cd.jmp 0))=some s2∧Gw ab row s1 s2 k k2 m1 b1 c1∧
   ∀ s5:Lw.St,s5.vs=s2.vs→s5.bs=s2.bs→s5.is.length=s2.is.length→ ∃ s6 k6,Lw.within st s5 blk at' (4,0,0) els (fun s3 _=>some s3)=some s6∧Gw ab row s5 s6 k2 k6 m2 b2 c2):
  ∃ s' k',Lw.either st s blk at' h body els nms=some s'∧Gw ab row s s' k k' (m1+m2+1) (b1+b2) (c1+c2):=by
 obtain ⟨s1,e1,g1,q1,v1,l1⟩:=put_ok (ab:=ab) (row:=row) (s:=s) (k:=k) (blk:=blk) (at':=at') (x:=h) hv hl h0 h1 (by omega) (by omega) (fun K L NB hK hL=>by rw [h2];exact hh K L NB 0 hK (Int.le_refl 0) (by omega))
 obtain ⟨s2,k2,e2,g2,hw⟩:=hw s1 v1 q1 l1
 have hl2:=g2.isl
 obtain ⟨s5,e5,g5,l5,q5,v5⟩:=setTo_ok (j:=s.is.length) (to:=s2.is.length) (g1.trans g2) (Nat.le_refl _) (by omega) (by omega) (Int.le_refl _)
 obtain ⟨s6,k6,e6,g6⟩:=hw s5 v5 q5 l5
 have hl6:=g6.isl
 obtain ⟨s',e7,g7,-,-,-⟩:=setTo_ok (j:=s2.is.length - 1) (to:=s6.is.length) (g5.trans g6) (by omega) (by omega) (by omega) (Int.le_refl _)
 refine ⟨s',k6,?_,g7.le (by omega) (by omega) (by omega)⟩
 unfold Lw.either
 rw [e1,Option.bind_some,e2,Option.bind_some,e5,Option.bind_some,e6,Option.bind_some]
 exact e7
end Go.Proofs.YtcdcoiobpbdmpaaGreatDoor.Lr
