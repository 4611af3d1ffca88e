import Derived.Test.YtcdcoiobpbdmpaaGreatDoorMbn
namespace Go.Proofs.YtcdcoiobpbdmpaaGreatDoor.Lr
open Go.Proofs.YtcdcoiobpbdmpaaGreatDoor Go.Proofs.YtcdcoiobpbdmpaaGreatDoor.Sx
structure AbR (abT:List Tr) (ab:List Cd.Pr):Prop where
 ln:abT.length=ab.length
 at': ∀ (i:Nat) g p,abT[i]? =some g→ab[i]? =some p→p.name=bs (gN g)∧p.params=((gP g).length:Int)∧ ∃ row k rest,p.vars=vsOf row k∧Ro row∧row=Kn.par g++rest
def abL (ab:List Cd.Pr):List Lw.Ab:=ab.map fun p=>(p.name,p.vars)
theorem abv_idx: ∀ (l:List Tr) (nm:List UInt8) (g:Tr),Kn.abv l nm=some g→ ∃ i:Nat,l[i]? =some g∧gN g=nm∧ ∀ (j:Nat) x,j<i→l[j]? =some x→gN x ≠ nm
 |[],_,_,h=>by cases h
 |y::r,nm,g,h=>by
  have h':(if gN y=nm then some y else Kn.abv r nm)=some g:=h
  by_cases e:gN y=nm
  ·rw [if_pos e] at h'
   obtain rfl:=Option.some.inj h'
   exact ⟨0,rfl,e,fun j x hj=>by omega⟩
  ·rw [if_neg e] at h'
   obtain ⟨i,h1,h2,h3⟩:=abv_idx r nm g h'
   refine ⟨i+1,by simpa using h1,h2,fun j x hj hx=> ?_⟩
   match j,hx with
   |0,hx=>obtain rfl:=Option.some.inj hx;exact e
   |j+1,hx=>exact h3 j x (by omega) (by simpa using hx)
theorem AbR.find {abT:List Tr} {ab:List Cd.Pr} (h:AbR abT ab) {nm:List UInt8} {g:Tr} (hg:Kn.abv abT nm=some g): ∃ (i:Nat) (p:Cd.Pr),(abL ab).findIdx? (fun g=>decide (g.1=bs nm))=some i∧ab[i]? =some p∧abT[i]? =some g:=by
 obtain ⟨i,h1,h2,h3⟩:=abv_idx abT nm g hg
 have hi:i<ab.length:=by rw [←h.ln];exact (List.getElem?_eq_some_iff.1 h1).1
 refine ⟨i,ab[i],?_,List.getElem?_eq_getElem hi,h1⟩
 rw [List.findIdx?_eq_some_iff_getElem]
 refine ⟨by unfold abL;simpa using hi,?_,fun j hj=> ?_⟩
 ·have:=(h.at' i g ab[i] h1 (List.getElem?_eq_getElem hi)).1
  simp only [abL,List.getElem_map,decide_eq_true_eq]
  rw [this,h2]
 ·have hj1:j<ab.length:=by omega
  have hj2:j<abT.length:=by rw [h.ln];exact hj1
  have:=(h.at' j abT[j] ab[j] (List.getElem?_eq_getElem hj2) (List.getElem?_eq_getElem hj1)).1
  simp only [abL,List.getElem_map,Bool.not_eq_true,decide_eq_false_iff_not]
  rw [this]
  exact fun e=>h3 j _ hj (List.getElem?_eq_getElem hj2) (bs_inj e)
theorem sides_end {t:List UInt8} (h:Rn.sides t=true) (hn:t ≠ [105]):Cd.endT (bs t)=true:=by
 rw [endT_bs]
 match t,h,hn with
 |[b],h,hn=>
  have:(b == 105)=true:=h
  exact absurd (by rw [show b=105 by simpa using this]) hn
 |b::c::r,h,_=>
  have:((b == 115 || b == 114) && Rn.sides (c::r))=true:=h
  rw [Bool.and_eq_true,Bool.or_eq_true] at this
  rcases this.1 with e|e
  ·rw [show b=115 by simpa using e];rfl
  ·rw [show b=114 by simpa using e];simp
theorem end_i:Cd.endT (bs [105])=false:=by rw [endT_bs];rfl
theorem eqT_bs {a b:List UInt8} (h:a ≠ b):Ck.eqT (bs a) (bs b)=false:=Ck.eqT_false.2 fun e=>h (bs_inj e)
variable {ab:List Cd.Pr} {row:List Kn.Nv}
theorem thg_end {n:Nat} {ns:List Kn.Nv} {d:Tr} {t:List UInt8} (h:Kn.thg n ns d t=0) (ht:t ≠ [105]):Kn.typ ns (eH d).2.1 ≠ []∧Kn.typ ns (eH d).2.1=t:=by
 unfold Kn.thg at h
 rw [if_neg ht] at h
 split at h
 ·cases h
 split at h
 ·cases h
 rename_i h1
 split at h
 ·cases h
 rename_i h2
 exact ⟨h1,Decidable.not_not.1 h2⟩
theorem sps_ok (hr:Ro row) {ns:List Kn.Nv} (hs: ∀ v ∈ ns,v ∈ row) {s:Lw.St} {k n:Nat} (hv:s.vs=vsOf row k) {row':List Kn.Nv} {k':Nat} (hr':Ro row'): ∀ (E:List Tr) (i:Nat) (P:List Kn.Nv),ftE n E→(∀ d ∈ E,Rn.xf n d=0)→E.length=P.length→Kn.thgs n ns E (P.map (·.2))=0→(∀ (j:Nat) v,P[j]? =some v→row'[i+j]? =some v)→
  ∃ q,Lw.sps s n (vsOf row' k') i E=some q∧q.length=E.length∧ ∀ K L NB,k≤K→Ck.args (pv (vsOf row K) L NB) q ((vsOf row' k').drop i)=true
 |[],i,P,_,_,_,_,_=>⟨[],rfl,rfl,fun _ _ _ _=>rfl⟩
 |d::r,i,[],_,_,hl,_,_=>by simp at hl
 |d::r,i,v::P,hf,hx,hl,ht,hp=>by
  have hv0:=hp 0 v rfl
  rw [Nat.add_zero] at hv0
  obtain ⟨-,hw⟩:=nmb_row (K:=k') hr' hv0
  have h1:Kn.thg n ns d v.2=0∧Kn.thgs n ns r (P.map (·.2))=0:=by
   have h':(if Kn.thg n ns d v.2 ≠ 0 then Kn.thg n ns d v.2 else Kn.thgs n ns r (P.map (·.2)))=0:=ht
   split at h'
   ·rename_i h2;exact absurd h' h2
   ·rename_i h2;exact ⟨Decidable.not_not.1 h2,h'⟩
  have hfr:ftE n r:=by
   cases n with
   |zero=>cases hf
   |succ n=>exact fun x hx=>hf x (List.mem_cons_of_mem _ hx)
  have hf1:ftE n [d]:=by
   cases n with
   |zero=>cases hf
   |succ n=>exact fun x hx=>by obtain rfl:=List.mem_singleton.1 hx;exact hf x (List.mem_cons_self ..)
  obtain ⟨q,e,ql,hq⟩:=sps_ok hr hs hv hr' r (i+1) P hfr (fun x h=>hx x (List.mem_cons_of_mem _ h)) (by simpa using hl) h1.2 (fun j u hu=>by have:=hp (j+1) u (by simpa using hu);rw [show i+1+j=i+(j+1) by omega];exact this)
  have hd:(vsOf row' k').drop i=(bs v.1,bs v.2)::(vsOf row' k').drop (i+1):=by
   obtain ⟨hi,he⟩:=List.getElem?_eq_some_iff.1 hw
   rw [List.drop_eq_getElem_cons hi,he]
  rw [hd]
  have eS:Lw.sps s n (vsOf row' k') i (d::r)=some ((if Cd.endT (bs v.2) then ([],Cd.nmb s.vs (bs (eH d).2.1)) else (Lw.stps s.vs n [d],0))::q):=by
   show (match (vsOf row' k')[i]? with
    |none=>none
    |some y=>(Lw.sps s n (vsOf row' k') (i+1) r).bind fun q=>some ((if Cd.endT y.2 then ([],Cd.nmb s.vs (bs (eH d).2.1)) else (Lw.stps s.vs n [d],0))::q))=_
   rw [hw]
   dsimp only
   rw [e]
   rfl
  refine ⟨_,eS,by simp [ql],fun K L NB hK=> ?_⟩
  show (Ck.arg _ _ (bs v.2) && Ck.args _ q _)=true
  rw [hq K L NB hK,Bool.and_true]
  by_cases hi:v.2=[105]
  ·rw [hi,end_i,if_neg (by simp)]
   unfold Ck.arg
   rw [show Ck.eqT (bs [105]) Ck.ti=true from eqT_self _,if_pos rfl,hv]
   refine one_step hr hs k K L NB hf1 (hx d (List.mem_cons_self ..)) ?_
   have:=h1.1
   unfold Kn.thg at this
   rw [if_pos hi] at this
   exact this
  ·rw [sides_end (row_ty hr' hv0).1 hi,if_pos rfl]
   obtain ⟨q1,q2⟩:=thg_end h1.1 hi
   obtain ⟨j,hj,hK2⟩:=known hr hs q1
   unfold Ck.arg
   rw [show Ck.eqT (bs v.2) Ck.ti=false from eqT_bs hi,if_neg (by simp),hv,(hK2 k).1,typ_pv (hK2 K).2]
   dsimp only
   rw [q2,eqT_self]
   rfl
theorem one_inl {n:Nat} {abT:List Tr} {st st1:Kn.St} {t:Tr} (h:Kn.one n abT (Kn.sts n abT) st t= .inl st1):
  Kn.sc n abT st.ns st.bd t=0∧ ∃ s1 s2 ns1,(ns1=st.ns∨ns1=st.ns++Kn.bnds st.ns t)∧Kn.sts n abT ⟨st.ns++Kn.bnds st.ns t,st.bd++Kn.bnds st.ns t,st.at'+1⟩ (sB t)= .inl s1∧Kn.sts n abT ⟨ns1,s1.bd,s1.at'⟩ (sO t)= .inl s2∧st1=⟨ns1,s2.bd,s2.at'⟩:=by
 unfold Kn.one at h
 split at h
 ·cases h
 rename_i h0
 refine ⟨Decidable.not_not.1 h0,?_⟩
 dsimp only at h
 split at h
 ·obtain ⟨s1,e1,h⟩:=Kn.thn_inl h
  obtain ⟨s2,e2,h⟩:=Kn.thn_inl h
  exact ⟨s1,s2,st.ns,.inl rfl,e1,e2,(Sum.inl.inj h).symm⟩
 ·obtain ⟨s1,e1,h⟩:=Kn.thn_inl h
  obtain ⟨s2,e2,h⟩:=Kn.thn_inl h
  exact ⟨s1,s2,_,.inr rfl,e1,e2,(Sum.inl.inj h).symm⟩
theorem sc_zero {n:Nat} {abT:List Tr} {ns bd:List Kn.Nv} {t:Tr} (h:Kn.sc n abT ns bd t=0):Kn.twice bd t=false∧Kn.usedF ns t=0∧Kn.rest n abT ns t=0:=by
 unfold Kn.sc at h
 split at h
 ·cases h
 rename_i h1
 split at h
 ·rename_i h2;exact absurd h h2
 rename_i h2
 exact ⟨by simpa using h1,Decidable.not_not.1 h2,h⟩
theorem sf_tS (n deep:Nat) (t:Tr):Rn.sf n deep t=Rn.sf n deep (tS (sH t).1 0 (sH t).2.1 (sH t).2.2.1 (sH t).2.2.2.1 (sH t).2.2.2.2 (sE t) (sB t) (sO t)):=by
 have e: ∀ u,sH u=sH t→sE u=sE t→sB u=sB t→sO u=sO t→Rn.sf n deep u=Rn.sf n deep t:=fun u h1 h2 h3 h4=>by
  unfold Rn.sf Rn.formed
  rw [h1,h2,h3,h4]
 exact (e _ rfl rfl rfl rfl).symm
def cnt (n:Nat) (t:Tr):Nat:=1+Kn.cs n (sB t)+Kn.cs n (sO t)
variable (abT:List Tr) (ab:List Cd.Pr) (row:List Kn.Nv)
def SP (n:Nat):Prop:= ∀ (t:Tr) (st st1:Kn.St) (s:Lw.St) (k blk deep:Nat),Kn.one n abT (Kn.sts n abT) st t= .inl st1→Rn.sf n deep t=0→Rn.okB n (sB t)→Rn.okB n (sO t)→ftE n (sE t)→ftS n (sB t)→ftS n (sO t)→
 (∀ v ∈ st.ns,v ∈ st.bd)→(∀ v ∈ st1.bd,v ∈ row)→s.vs=vsOf row k→blk<s.bs.length→s.is.length+8 * cnt n t≤100000→s.bs.length+2 * cnt n t≤100000→k+cnt n t≤100000→
 (∃ s1 k1 m,Lw.stmt (abL ab) n s blk t=some s1∧Gw ab row s s1 k k1 m (2 * cnt n t) (cnt n t)∧m+(Lw.bnds t).length+st.bd.length≤3 * cnt n t+st1.bd.length)∧
 (∃ vl:List Kn.Nv,Lw.bnds t=vl.map (fun v=>bs v.1)∧ ∀ v ∈ vl,v ∈ row)∧(∀ v ∈ st1.ns,v ∈ st1.bd)∧(∃ x,st1.bd=st.bd++x)∧st1.bd.length≤st.bd.length+2 * cnt n t
def LP (n:Nat):Prop:= ∀ (l:List Tr) (st st1:Kn.St) (s:Lw.St) (k blk:Nat),Kn.sts (n+1) abT st l= .inl st1→Rn.okB (n+1) l→ftS (n+1) l→
 (∀ v ∈ st.ns,v ∈ st.bd)→(∀ v ∈ st1.bd,v ∈ row)→s.vs=vsOf row k→blk<s.bs.length→s.is.length+8 * Kn.cs (n+1) l≤100000→s.bs.length+2 * Kn.cs (n+1) l≤100000→k+Kn.cs (n+1) l≤100000→
 (∃ s1 k1 m,Lw.stmts (Lw.stmt (abL ab) n) s blk l=some s1∧Gw ab row s s1 k k1 m (2 * Kn.cs (n+1) l) (Kn.cs (n+1) l)∧m+nB l+st.bd.length≤3 * Kn.cs (n+1) l+st1.bd.length)∧
 (∀ t ∈ l,∃ vl:List Kn.Nv,Lw.bnds t=vl.map (fun v=>bs v.1)∧ ∀ v ∈ vl,v ∈ row)∧(∀ v ∈ st1.ns,v ∈ st1.bd)∧(∃ x,st1.bd=st.bd++x)∧st1.bd.length≤st.bd.length+2 * Kn.cs (n+1) l
variable {abT ab row}
theorem cs_cons (n:Nat) (t:Tr) (r:List Tr):Kn.cs (n+1) (t::r)=cnt n t+Kn.cs (n+1) r:=by
 unfold Kn.cs cnt
 simp
theorem okB_cons {n:Nat} {t:Tr} {r:List Tr} (h:Rn.okB (n+1) (t::r)):Rn.okB (n+1) r:=by
 obtain ⟨deep,a,b,h⟩:=h
 rw [Rn.bf_goS] at h
 obtain ⟨c,h1,h2⟩:=Rn.thn_le (m:=Rn.b1 n deep a t) (k:=fun b=>Rn.goS (Rn.b1 n deep) b r) h
 exact ⟨deep,c,b,by rw [Rn.bf_goS];exact h2⟩
theorem lp_of {n:Nat} (h:SP abT ab row n):LP abT ab row n
 |[],st,st1,s,k,blk,hs,_,_,hn,_,hv,_,_,_,_=>by
  obtain rfl:st=st1:=Sum.inl.inj hs
  exact ⟨⟨s,k,0,rfl,(Gw.refl hv).le (Nat.le_refl _) (by omega) (by omega),by unfold nB;simp⟩,(fun t ht=>by cases ht),hn,⟨[],by simp⟩,by omega⟩
 |t::r,st,st1,s,k,blk,hs,hok,hf,hn,hrow,hv,hb,b1,b2,b3=>by
  have hs':Kn.thn (Kn.one n abT (Kn.sts n abT) st t) (fun s'=>Kn.sts (n+1) abT s' r)= .inl st1:=hs
  obtain ⟨sm,e1,e2⟩:=Kn.thn_inl hs'
  obtain ⟨⟨deep,q1⟩,q2,q3⟩:=Rn.okB_each hok t (List.mem_cons_self ..)
  obtain ⟨f1,f2,f3⟩:=hf t (List.mem_cons_self ..)
  have hg:=Kn.sts_go (n+1) abT _ _ _ e2
  obtain ⟨x,hx⟩:=hg.bd
  rw [cs_cons] at b1 b2 b3 ⊢
  obtain ⟨⟨s1,k1,m1,e3,g1,m2⟩,⟨vl,v1,v2⟩,n1,⟨y,hy⟩,l1⟩:=h t st sm s k blk deep e1 q1 q2 q3 f1 f2 f3 hn (fun v hv=>hrow v (by rw [hx];exact List.mem_append_left _ hv)) hv hb (by omega) (by omega) (by omega)
  have hgl:=g1.bsl
  obtain ⟨⟨s2,k2,m3,e4,g2,m4⟩,vls,n2,⟨z,hz⟩,l2⟩:=lp_of h r sm st1 s1 k1 blk e2 (okB_cons hok) (fun t ht=>hf t (List.mem_cons_of_mem _ ht)) n1 hrow g1.vs (by omega) (by have:=g1.lm;omega) (by have:=g1.lb;omega) (by have:=g1.lk;omega)
  have hnB:nB (t::r)=(Lw.bnds t).length+nB r:=by unfold nB;simp
  refine ⟨⟨s2,k2,m1+m3,?_,(g1.trans g2).le (Nat.le_refl _) (by omega) (by omega),by rw [hnB];omega⟩,fun u hu=> ?_,n2,⟨y++z,by rw [hz,hy,List.append_assoc]⟩,by omega⟩
  ·show (Lw.stmt (abL ab) n s blk t).bind (fun s2=>Lw.stmts (Lw.stmt (abL ab) n) s2 blk r)=_
   rw [e3]
   exact e4
  ·rcases List.mem_cons.1 hu with rfl|hu
   ·exact ⟨vl,v1,v2⟩
   ·exact vls u hu
theorem body_ok (hr:Ro row) {n:Nat} (h:LP abT ab row n) {l:List Tr} {st st1:Kn.St} {s:Lw.St} {k blk:Nat} {at':Int} {b:Int × Int × Int} (hs:Kn.sts (n+1) abT st l= .inl st1) (hok:Rn.okB (n+1) l) (hf:ftS (n+1) l) (hn: ∀ v ∈ st.ns,v ∈ st.bd) (hrow: ∀ v ∈ st1.bd,v ∈ row) (hv:s.vs=vsOf row k)
  (b2:s.bs.length+1+2 * Kn.cs (n+1) l≤100000) (b3:k+Kn.cs (n+1) l≤100000) (b1':s.is.length+8 * Kn.cs (n+1) l≤100000)
  (hk: ∀ K L NB,k≤K→Ck.blk (pv (vsOf row K) L NB) s.bs.length (b.1,(blk:Int),b.2.1,b.2.2)=true) {last:Lw.St→Int→Option Lw.St} {ml:Nat}
  (hl: ∀ (s3:Lw.St) (k2:Nat),s3.vs=vsOf row k2→s.bs.length+1≤s3.bs.length→s.is.length≤s3.is.length→s3.is.length≤200000→ ∃ s4,last s3 s.bs.length=some s4∧Gw ab row s3 s4 k2 k2 ml 0 0):
  ∃ s4 k4 m,Lw.within (Lw.stmt (abL ab) n) s blk at' b l last=some s4∧Gw ab row s s4 k k4 (m+ml) (2 * Kn.cs (n+1) l+1) (Kn.cs (n+1) l)∧m+st.bd.length≤3 * Kn.cs (n+1) l+st1.bd.length∧s.bs.length+1≤s4.bs.length:=by
 have hll:l.length≤Kn.cs (n+1) l:=by
  unfold Kn.cs
  clear hs hok hf b2 b3 b1'
  induction l with
  |nil=>simp
  |cons a r ih=>simp only [List.length_cons,List.map_cons,List.sum_cons];omega
 obtain ⟨⟨s2,k2,m1,e1,g1,m2⟩,vls,n1,-,l1⟩:=h l st st1 ⟨s.vs,s.bs++[(b.1,(blk:Int),b.2.1,b.2.2)],s.is⟩ k s.bs.length hs hok hf hn hrow hv (by simp) b1' (by simp;omega) b3
 have hbl:=g1.bsl
 simp only [List.length_append,List.length_singleton] at hbl
 have hnl:nB l≤2 * l.length:=by
  unfold nB
  clear hs hok hf b2 b3 b1' hll e1 g1 m2 vls l1
  induction l with
  |nil=>simp
  |cons a r ih=>
   have:(Lw.bnds a).length≤2:=by
    unfold Lw.bnds Cd.bnd
    split
    ·simp
    ·split<;> simp
   simp only [List.length_cons,List.map_cons,List.sum_cons]
   omega
 have hlm:=g1.lm
 dsimp only at hlm
 obtain ⟨s3,e2,g2,q3,v3⟩:=overs_ok (ab:=ab) hr (at':=at') l s2 k2 s.bs.length vls g1.vs (by omega) (by omega)
 have hi1:=g1.isl
 have hi2:=g2.isl
 dsimp only at hi1
 obtain ⟨s4,e3,g3⟩:=hl s3 k2 (v3.trans g1.vs) (by rw [q3];exact hbl) (by omega) (by have:=g2.lm;omega)
 obtain ⟨e4,g4⟩:=within_ok (ab:=ab) (row:=row) hv (by omega) (by omega) hk e1 g1 e2 g2 e3 g3
 have:=g3.bsl
 exact ⟨s4,k2,m1+nB l,e4,g4.le (by omega) (by omega) (by omega),by omega,by rw [q3] at this;omega⟩
variable {abT:List Tr} {ab:List Cd.Pr} {row:List Kn.Nv}
theorem bs_cns (b:UInt8) (T:List UInt8):(⟨#[b]⟩:ByteArray)++bs T=bs (b::T):=by
 apply ByteArray.ext
 simp [bs]
theorem head_cons {t:List UInt8} {b:UInt8} (h:t.head? =some b):t=b::t.tail:=by
 cases t with
 |nil=>cases h
 |cons x r=>simp at h;rw [h];rfl
theorem vs_new (row:List Kn.Nv) (k:Nat):vsOf row k++[tI]=vsOf row (k+1):=by
 unfold vsOf
 rw [List.append_assoc,List.replicate_succ']
theorem vs_len (row:List Kn.Nv) (k:Nat):(vsOf row k).length=row.length+k:=by
 unfold vsOf nmd
 simp
theorem vs_rep {row:List Kn.Nv} {k K:Nat} (h:k<K):(vsOf row K)[row.length+k]? =some tI:=by
 unfold vsOf nmd
 rw [List.getElem?_append_right (by simp),List.getElem?_replicate,if_pos (by simp;omega)]
theorem used_known (hr:Ro row) {ns:List Kn.Nv} (hs: ∀ v ∈ ns,v ∈ row) {nm:List UInt8} {b:UInt8} (h:Kn.mst ns nm b=0): ∃ (k:Nat) (T:List UInt8),Kn.typ ns nm=b::T∧row[k]? =some (nm,b::T)∧ ∀ K,Cd.nmb (vsOf row K) (bs nm)=(k:Int)∧(vsOf row K)[k]? =some (bs nm,bs (b::T)):=by
 obtain ⟨h1,h2⟩:=mst_zero h
 have h3:=head_cons h2
 obtain ⟨k,h4,h5⟩:=known hr hs h1
 rw [h3] at h4 h5
 exact ⟨k,_,h3,h4,h5⟩
theorem flat_ok {s:Lw.St} {k blk:Nat} {at':Int} {x:Cd.In} (hv:s.vs=vsOf row k) (hb:blk<s.bs.length) (hl:s.is.length<100000) (h2:x.lp=0)
  (hx: ∀ K L NB,k≤K→Ck.fits ab (pv (vsOf row K) (L+1) NB) ⟨x.op,x.a,x.b,x.n,x.to,x.t,x.e,x.args,blk,x.lp,at'⟩=true): ∃ s1 k1 m,Lw.put s blk at' x=some s1∧Gw ab row s s1 k k1 m 0 0∧m=1:=by
 obtain ⟨s1,e1,g1,-,-,-⟩:=put_ok (ab:=ab) (row:=row) (s:=s) (k:=k) (blk:=blk) (at':=at') (x:=x) hv (by omega) (by omega) (by omega) (by omega) (by rw [h2];omega) (fun K L NB hK _=>hx K L NB hK)
 exact ⟨s1,k,1,e1,g1,rfl⟩
theorem sum_le {f g:Tr→Nat} (h: ∀ d,f d≤g d): ∀ l:List Tr,Sx.sum f l≤Sx.sum g l
 |[]=>Nat.le_refl _
 |d::r=>Nat.add_le_add (h d) (sum_le h r)
theorem wE_up: ∀ (n:Nat) (l:List Tr),wE n l≤wE (n+1) l
 |0,_=>Nat.zero_le _
 |n+1,l=>Nat.add_le_add_left (sum_le (fun d=>wE_up n (eL d)) l) _
theorem sum_few {f:Tr→Nat} {b:Nat}: ∀ l:List Tr,(∀ d ∈ l,f d≤b)→Sx.sum f l≤l.length * b
 |[],_=>by simp [Sx.sum]
 |d::r,h=>by
  have h1:=h d (List.mem_cons_self ..)
  have h2:=sum_few r (fun x hx=>h x (List.mem_cons_of_mem _ hx))
  simp only [Sx.sum,List.length_cons,Nat.add_mul,Nat.one_mul]
  omega
theorem wE_few {n:Nat} {E:List Tr} (h:E.length≤6) (hp: ∀ (i:Nat) d,E[i]? =some d→Rn.prt (n+1) d≤20): ¬ 1000000<wE (n+1) E:=by
 have h1:=wE_up (n+1) E
 have h4:=Rn.wE_prt (n+1) E
 have h2:=sum_few (f:=Rn.prt (n+1)) (b:=20) E (fun d hd=>by obtain ⟨i,hi⟩:=List.getElem?_of_mem hd;exact hp i d hi)
 have h3:E.length * 20≤6 * 20:=Nat.mul_le_mul_right _ h
 omega
theorem num_one (hr:Ro row) {ns:List Kn.Nv} (hs: ∀ v ∈ ns,v ∈ row) (k K L NB:Nat) {m:Nat} {E:List Tr} (hf:ftE m E) (hx: ∀ (i:Nat) d,E[i]? =some d→Rn.xf m d=0) (hn:Rn.firstOf (Kn.num m ns) E=0) (h1:E.length=1):Ck.num (pv (vsOf row K) L NB) 0 (Lw.stps (vsOf row k) m E)=true:=by
 have h2:=Rn.firstOf_zero hn
 have:=steps hr hs k K L NB m E hf (fun d hd=>⟨by obtain ⟨i,hi⟩:=List.getElem?_of_mem hd;exact hx i d hi,h2 d hd⟩) 0 []
 rw [List.append_nil,h1] at this
 rw [this]
 rfl
end Go.Proofs.YtcdcoiobpbdmpaaGreatDoor.Lr
