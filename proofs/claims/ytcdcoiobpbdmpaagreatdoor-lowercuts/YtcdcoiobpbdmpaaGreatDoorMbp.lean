import Derived.Test.YtcdcoiobpbdmpaaGreatDoorMbo
namespace Go.Proofs.YtcdcoiobpbdmpaaGreatDoor.Lr
open Go.Proofs.YtcdcoiobpbdmpaaGreatDoor Go.Proofs.YtcdcoiobpbdmpaaGreatDoor.Sx
variable {abT:List Tr} {ab:List Cd.Pr} {row:List Kn.Nv}
set_option maxHeartbeats 2000000
theorem sp_step (hr:Ro row) (hab:AbR abT ab) {n:Nat} (h:LP abT ab row n):SP abT ab row (n+1):=by
 intro t st st1 s k blk deep h1 hsf hB hO hfE hfB hfO hn hrow hv hb b1 b2 b3
 have hcnt:cnt (n+1) t=1+Kn.cs (n+1) (sB t)+Kn.cs (n+1) (sO t):=rfl
 obtain ⟨h0,s1,s2,ns1,hns1,e1,e2,rfl⟩:=one_inl h1
 obtain ⟨-,q2,q3⟩:=sc_zero h0
 have htw:=(sc_zero h0).1
 rw [sf_tS] at hsf
 have f:=Rn.okf hsf
 have g1:=Kn.sts_go (n+1) abT _ _ _ e1
 have g2:=Kn.sts_go (n+1) abT _ _ _ e2
 obtain ⟨x1,hx1⟩:=g1.bd
 obtain ⟨x2,hx2⟩:=g2.bd
 have w1:=g1.fw
 have w2:=g2.fw
 have hkl:=Kn.bnds_len st.ns t
 dsimp only at hx1 hx2 w1 w2 hrow
 simp only [List.length_append] at w1
 have l1:=congrArg List.length hx1
 have l2:=congrArg List.length hx2
 simp only [List.length_append] at l1 l2
 have hbd: ∀ v ∈ Kn.bnds st.ns t,v ∈ row:=fun v hv=>hrow v (by rw [hx2,hx1];simp [hv])
 have hs1row: ∀ v ∈ s1.bd,v ∈ row:=fun v hv=>hrow v (by rw [hx2];simp [hv])
 have hs: ∀ v ∈ st.ns,v ∈ row:=fun v hv=>hs1row v (by rw [hx1];simp [hn v hv])
 have hn1: ∀ v ∈ st.ns++Kn.bnds st.ns t,v ∈ st.bd++Kn.bnds st.ns t:=fun v hv=>by
  rcases List.mem_append.1 hv with hv|hv
  ·exact List.mem_append_left _ (hn v hv)
  ·exact List.mem_append_right _ hv
 have hns: ∀ v ∈ ns1,v ∈ s1.bd:=fun v hv=>by
  rw [hx1]
  rcases hns1 with rfl|rfl
  ·exact List.mem_append_left _ (List.mem_append_left _ (hn v hv))
  ·exact List.mem_append_left _ (hn1 v hv)
 have hvl: ∃ vl:List Kn.Nv,Lw.bnds t=vl.map (fun v=>bs v.1)∧ ∀ v ∈ vl,v ∈ row:=by
  by_cases d5:(sH t).1=5
  ·refine ⟨Kn.bnds st.ns t,?_,hbd⟩
   unfold Lw.bnds Cd.bnd Kn.bnds
   rw [d5]
   simp [d5]
  ·by_cases d4:(sH t).1=4
   ·refine ⟨Kn.bnds st.ns t,?_,hbd⟩
    unfold Lw.bnds Cd.bnd Kn.bnds
    simp [d4]
   ·refine ⟨[],?_,fun v hv=>by cases hv⟩
    unfold Lw.bnds Cd.bnd
    simp [d4,d5]
 refine ⟨?_,hvl,fun v hv=>by show v ∈ s2.bd;rw [hx2];exact List.mem_append_left _ (hns v hv),⟨Kn.bnds st.ns t++x1++x2,by show s2.bd=_;rw [hx2,hx1];simp only [List.append_assoc]⟩,by show s2.bd.length≤_;omega⟩
 show ∃ s1 k1 m,_∧_∧m+_+_≤_+s2.bd.length
 have hw:=wE_few (n:=n) f.few f.prt
 have fin: ∀ (s':Lw.St) (k' m:Nat),Lw.stmt (abL ab) (n+1) s blk t=some s'→Gw ab row s s' k k' m 0 0→m=1→(Lw.bnds t).length≤2→ ∃ s1 k1 m,Lw.stmt (abL ab) (n+1) s blk t=some s1∧Gw ab row s s1 k k1 m (2 * cnt (n+1) t) (cnt (n+1) t)∧m+(Lw.bnds t).length+st.bd.length≤3 * cnt (n+1) t+s2.bd.length:=fun s' k' m e g hm hl=>⟨s',k',m,e,g.le (Nat.le_refl _) (by omega) (by omega),by omega⟩
 have hbl:(Lw.bnds t).length≤2:=by
  unfold Lw.bnds Cd.bnd
  split
  ·simp
  ·split<;> simp
 obtain ⟨⟨D,A,B,T,N⟩,hH⟩: ∃ p,sH t=p:=⟨_,rfl⟩
 simp only [hH] at f
 have hD:D=1∨D=2∨D=3∨D=4∨D=5∨D=6∨D=7∨D=8∨D=9∨D=10∨D=11∨D=12∨D=13∨D=14:=by have:=f.d1;have:=f.d2;omega
 rcases hD with rfl|rfl|rfl|rfl|rfl|rfl|rfl|rfl|rfl|rfl|rfl|rfl|rfl|rfl
 ·have hkb:Kn.bnds st.ns t=[(A,[105])]:=by unfold Kn.bnds;rw [hH];rfl
  obtain ⟨j,hj,hK⟩:=bound hr (hbd (A,[105]) (by rw [hkb];simp))
  have hnum:Rn.firstOf (Kn.num (n+1) st.ns) (sE t)=0:=by unfold Kn.rest at q3;rw [hH] at q3;exact q3
  obtain ⟨s',k',m,e,g,hm⟩:=flat_ok (ab:=ab) (row:=row) (s:=s) (k:=k) (blk:=blk) (at':=Lw.sAt t) (x:=⟨1,Cd.nmb s.vs (bs A),0,0,0,⟨#[]⟩,Lw.stps s.vs (n+1) (sE t),[],0,0,0⟩) hv hb (by omega) rfl (fun K L NB hK'=>by
   rw [hv]
   show (Ck.eqT (Cd.typ _ (Cd.nmb (vsOf row k) (bs A))) Ck.ti && Ck.num _ 0 _)=true
   rw [(hK k).1,typ_pv (hK K).2,num_one hr hs k K _ _ hfE f.xs hnum (f.one (by decide)),Bool.and_true]
   exact eqT_self _)
  refine fin s' k' m ?_ g hm hbl
  unfold Lw.stmt
  rw [if_neg hw,hH]
  exact e
 ·have hm2:Kn.mst st.ns A 105=0:=by unfold Kn.usedF Kn.used at q2;rw [hH] at q2;exact q2
  obtain ⟨j,T',hT,hj,hK⟩:=used_known hr hs hm2
  have hTi:(105::T')=[105]:=sides_i (row_ty hr hj).1 rfl
  have hnum:Rn.firstOf (Kn.num (n+1) st.ns) (sE t)=0:=by unfold Kn.rest at q3;rw [hH] at q3;exact q3
  obtain ⟨s',k',m,e,g,hm⟩:=flat_ok (ab:=ab) (row:=row) (s:=s) (k:=k) (blk:=blk) (at':=Lw.sAt t) (x:=⟨1,Cd.nmb s.vs (bs A),0,0,0,⟨#[]⟩,Lw.stps s.vs (n+1) (sE t),[],0,0,0⟩) hv hb (by omega) rfl (fun K L NB hK'=>by
   rw [hv]
   show (Ck.eqT (Cd.typ _ (Cd.nmb (vsOf row k) (bs A))) Ck.ti && Ck.num _ 0 _)=true
   rw [(hK k).1,typ_pv (hK K).2,num_one hr hs k K _ _ hfE f.xs hnum (f.one (by decide)),Bool.and_true,hTi]
   exact eqT_self _)
  refine fin s' k' m ?_ g hm hbl
  unfold Lw.stmt
  rw [if_neg hw,hH]
  exact e
 ·have hnum:Rn.firstOf (Kn.num (n+1) st.ns) (sE t)=0:=by unfold Kn.rest at q3;rw [hH] at q3;exact q3
  obtain ⟨s',k',m,e,g,hm⟩:=flat_ok (ab:=ab) (row:=row) (s:=s) (k:=k) (blk:=blk) (at':=Lw.sAt t) (x:=⟨2,0,0,0,0,⟨#[]⟩,Lw.stps s.vs (n+1) (sE t),[],0,0,0⟩) hv hb (by omega) rfl (fun K L NB hK'=>by
   rw [hv]
   exact num_one hr hs k K _ _ hfE f.xs hnum (f.one (by decide)))
  refine fin s' k' m ?_ g hm hbl
  unfold Lw.stmt
  rw [if_neg hw,hH]
  exact e
 ·have hkb:Kn.bnds st.ns t=[(A,115::T),(B,114::T)]:=by unfold Kn.bnds;rw [hH];rfl
  obtain ⟨j,hj,hK⟩:=bound hr (hbd (A,115::T) (by rw [hkb];simp))
  obtain ⟨j2,hj2,hK2⟩:=bound hr (hbd (B,114::T) (by rw [hkb];simp))
  have hN:1≤N∧N≤5:=by
   unfold Kn.rest at q3
   rw [hH] at q3
   have q3':(if N<1∨5<N then (14:Int) else if 3<T.length then 11 else 0)=0:=q3
   split at q3'
   ·cases q3'
   ·omega
  have hT4: ¬ 1000000<T.length:=by have:=f.tl;omega
  have hl2:(Kn.bnds st.ns t).length=2:=by rw [hkb];rfl
  obtain ⟨s',k',m,e,g,hm⟩:=flat_ok (ab:=ab) (row:=row) (s:=s) (k:=k) (blk:=blk) (at':=Lw.sAt t) (x:=⟨3,Cd.nmb s.vs (bs A),Cd.nmb s.vs (bs B),N,0,bs T,[],[],0,0,0⟩) hv hb (by omega) rfl (fun K L NB hK'=>by
   rw [hv]
   show ((decide (1≤N) && decide (N≤5)) && Ck.eqT (Cd.typ _ (Cd.nmb (vsOf row k) (bs A))) (⟨#[115]⟩++bs T) && Ck.eqT (Cd.typ _ (Cd.nmb (vsOf row k) (bs B))) (⟨#[114]⟩++bs T))=true
   rw [(hK k).1,typ_pv (hK K).2,(hK2 k).1,typ_pv (hK2 K).2,bs_cns,bs_cns,decide_eq_true hN.1,decide_eq_true hN.2,eqT_self,eqT_self]
   rfl)
  refine fin s' k' m ?_ g hm hbl
  unfold Lw.stmt
  rw [if_neg hw,hH]
  show (if 1000000<T.length then none else _)=_
  rw [if_neg hT4]
  exact e
 ·have hm2:Kn.mst st.ns B 115=0:=by unfold Kn.usedF Kn.used at q2;rw [hH] at q2;exact q2
  obtain ⟨j2,T',hT,hj2,hK2⟩:=used_known hr hs hm2
  have hkb:Kn.bnds st.ns t=[(A,115::T')]:=by unfold Kn.bnds;rw [hH,←hT];rfl
  obtain ⟨j,hj,hK⟩:=bound hr (hbd (A,115::T') (by rw [hkb];simp))
  have hne:j ≠ j2:=by
   rintro rfl
   rw [hj] at hj2
   have hAB:A=B:=by simpa using hj2
   have hiB:Kn.isIn st.bd A=true:=by
    have hty:Kn.typ st.ns B ≠ []:=by rw [hT];simp
    have hi:Kn.isIn st.ns B=true:=by
     cases hh:Kn.isIn st.ns B with
     |true=>rfl
     |false=>exact absurd (Kn.typ_not hh) hty
    obtain ⟨v,hv1,hv2,-⟩:=Kn.typ_mem hi
    exact Kn.isIn_iff.2 ⟨v,hn v hv1,by rw [hv2,hAB]⟩
   unfold Kn.twice at htw
   rw [hH] at htw
   have htw':(Kn.binding 5 && (Kn.isIn st.bd A || _))=false:=htw
   rw [hiB] at htw'
   exact absurd htw' (by simp [Kn.binding])
  obtain ⟨s',k',m,e,g,hm⟩:=flat_ok (ab:=ab) (row:=row) (s:=s) (k:=k) (blk:=blk) (at':=Lw.sAt t) (x:=⟨4,Cd.nmb s.vs (bs A),Cd.nmb s.vs (bs B),0,0,⟨#[]⟩,[],[],0,0,0⟩) hv hb (by omega) rfl (fun K L NB hK'=>by
   rw [hv]
   show (((Cd.nmb (vsOf row k) (bs A)) !=(Cd.nmb (vsOf row k) (bs B))) && Ck.eqT (Cd.typ _ (Cd.nmb (vsOf row k) (bs A))) (Cd.typ _ (Cd.nmb (vsOf row k) (bs B))) && Ck.pfx 115 (Cd.typ _ (Cd.nmb (vsOf row k) (bs B))))=true
   rw [(hK k).1,typ_pv (hK K).2,(hK2 k).1,typ_pv (hK2 K).2,eqT_self,pfx_bs]
   have:((j:Int) !=(j2:Int))=true:=by simp only [bne_iff_ne,ne_eq];omega
   rw [this]
   rfl)
  refine fin s' k' m ?_ g hm hbl
  unfold Lw.stmt
  rw [if_neg hw,hH]
  exact e
 ·have hm2:Kn.mst st.ns A 115=0:=by unfold Kn.usedF Kn.used at q2;rw [hH] at q2;exact q2
  obtain ⟨j,T',hT,hj,hK⟩:=used_known hr hs hm2
  have h1E:=f.one (by decide)
  obtain ⟨x,hx⟩: ∃ x,sE t=[x]:=by
   match sE t,h1E with
   |[x],_=>exact ⟨x,rfl⟩
  have hth:Kn.thg (n+1) st.ns x T'=0:=by
   unfold Kn.rest at q3
   rw [hH] at q3
   have q3':Kn.thg (n+1) st.ns ((sE t).headD d0) (Kn.typ st.ns A).tail=0:=q3
   rw [hT,hx] at q3'
   exact q3'
  by_cases hi:T'=[105]
  ·have hnum:Rn.firstOf (Kn.num (n+1) st.ns) (sE t)=0:=by
    rw [hx]
    unfold Kn.thg at hth
    rw [if_pos hi] at hth
    simp [Rn.firstOf,hth]
   obtain ⟨s',k',m,e,g,hm⟩:=flat_ok (ab:=ab) (row:=row) (s:=s) (k:=k) (blk:=blk) (at':=Lw.sAt t) (x:=⟨5,Cd.nmb s.vs (bs A),0,0,0,⟨#[]⟩,Lw.stps s.vs (n+1) (sE t),[],0,0,0⟩) hv hb (by omega) rfl (fun K L NB hK'=>by
    rw [hv]
    show (Ck.eqT (Cd.typ _ (Cd.nmb (vsOf row k) (bs A))) ⟨#[115,105]⟩ && Ck.num _ 0 _)=true
    rw [(hK k).1,typ_pv (hK K).2,num_one hr hs k K _ _ hfE f.xs hnum h1E,Bool.and_true,hi]
    exact eqT_self _)
   refine fin s' k' m ?_ g hm hbl
   unfold Lw.stmt
   rw [if_neg hw,hH]
   show (match sE t with
    |[]=>none
    |x::_=>match Lw.vat s.vs (Cd.nmb s.vs (bs A)) with
     |none=>none
     |some y=>if y.2=(⟨#[115,105]⟩:ByteArray) then Lw.put s blk (Lw.sAt t) ⟨5,Cd.nmb s.vs (bs A),0,0,0,⟨#[]⟩,Lw.stps s.vs (n+1) [x],[],0,0,0⟩ else Lw.put s blk (Lw.sAt t) ⟨6,Cd.nmb s.vs (bs A),Cd.nmb s.vs (bs (eH x).2.1),0,0,⟨#[]⟩,[],[],0,0,0⟩)=_
   rw [hx] at e ⊢
   dsimp only
   rw [show Lw.vat s.vs (Cd.nmb s.vs (bs A))=some (bs A,bs (115::T')) by rw [hv,(hK k).1];exact vat_at (hK k).2]
   dsimp only
   rw [if_pos (by rw [hi];rfl)]
   exact e
  ·have hsd:Rn.sides (115::T')=true:=(row_ty hr hj).1
   have hsT:Rn.sides T'=true:=by
    match T',hsd with
    |c::r,hsd=>
     have:((((115:UInt8) == 115) || ((115:UInt8) == 114)) && Rn.sides (c::r))=true:=hsd
     rw [Bool.and_eq_true] at this
     exact this.2
    |[],hsd=>exact absurd hsd (by decide)
   obtain ⟨t1,t2⟩:=thg_end hth hi
   obtain ⟨j2,hj2,hK2⟩:=known hr hs t1
   obtain ⟨s',k',m,e,g,hm⟩:=flat_ok (ab:=ab) (row:=row) (s:=s) (k:=k) (blk:=blk) (at':=Lw.sAt t) (x:=⟨6,Cd.nmb s.vs (bs A),Cd.nmb s.vs (bs (eH x).2.1),0,0,⟨#[]⟩,[],[],0,0,0⟩) hv hb (by omega) rfl (fun K L NB hK'=>by
    rw [hv]
    show (Cd.endT (Cd.typ _ (Cd.nmb (vsOf row k) (bs (eH x).2.1))) && Ck.eqT (Cd.typ _ (Cd.nmb (vsOf row k) (bs A))) (⟨#[115]⟩++Cd.typ _ (Cd.nmb (vsOf row k) (bs (eH x).2.1))))=true
    rw [(hK k).1,typ_pv (hK K).2,(hK2 k).1,typ_pv (hK2 K).2]
    dsimp only
    rw [t2,bs_cns,eqT_self,sides_end hsT hi]
    rfl)
   refine fin s' k' m ?_ g hm hbl
   unfold Lw.stmt
   rw [if_neg hw,hH]
   show (match sE t with
    |[]=>none
    |x::_=>match Lw.vat s.vs (Cd.nmb s.vs (bs A)) with
     |none=>none
     |some y=>if y.2=(⟨#[115,105]⟩:ByteArray) then Lw.put s blk (Lw.sAt t) ⟨5,Cd.nmb s.vs (bs A),0,0,0,⟨#[]⟩,Lw.stps s.vs (n+1) [x],[],0,0,0⟩ else Lw.put s blk (Lw.sAt t) ⟨6,Cd.nmb s.vs (bs A),Cd.nmb s.vs (bs (eH x).2.1),0,0,⟨#[]⟩,[],[],0,0,0⟩)=_
   rw [hx]
   dsimp only
   rw [show Lw.vat s.vs (Cd.nmb s.vs (bs A))=some (bs A,bs (115::T')) by rw [hv,(hK k).1];exact vat_at (hK k).2]
   dsimp only
   rw [if_neg (fun e=>hi (by have:=bs_inj (show bs (115::T')=bs [115,105] from e);simpa using this))]
   exact e
 ·have hm2:Kn.mst st.ns A 115=0:=by unfold Kn.usedF Kn.used at q2;rw [hH] at q2;exact q2
  obtain ⟨j,T',hT,hj,hK⟩:=used_known hr hs hm2
  obtain ⟨s',k',m,e,g,hm⟩:=flat_ok (ab:=ab) (row:=row) (s:=s) (k:=k) (blk:=blk) (at':=Lw.sAt t) (x:=⟨7,Cd.nmb s.vs (bs A),0,0,0,⟨#[]⟩,[],[],0,0,0⟩) hv hb (by omega) rfl (fun K L NB hK'=>by
   rw [hv]
   show Ck.pfx 115 (Cd.typ _ (Cd.nmb (vsOf row k) (bs A)))=true
   rw [(hK k).1,typ_pv (hK K).2,pfx_bs]
   rfl)
  refine fin s' k' m ?_ g hm hbl
  unfold Lw.stmt
  rw [if_neg hw,hH]
  exact e
 ·have hm2:Kn.mst st.ns A 114=0:=by unfold Kn.usedF Kn.used at q2;rw [hH] at q2;exact q2
  obtain ⟨j,T',hT,hj,hK⟩:=used_known hr hs hm2
  obtain ⟨s',k',m,e,g,hm⟩:=flat_ok (ab:=ab) (row:=row) (s:=s) (k:=k) (blk:=blk) (at':=Lw.sAt t) (x:=⟨8,Cd.nmb s.vs (bs A),0,0,0,⟨#[]⟩,[],[],0,0,0⟩) hv hb (by omega) rfl (fun K L NB hK'=>by
   rw [hv]
   show Ck.pfx 114 (Cd.typ _ (Cd.nmb (vsOf row k) (bs A)))=true
   rw [(hK k).1,typ_pv (hK K).2,pfx_bs]
   rfl)
  refine fin s' k' m ?_ g hm hbl
  unfold Lw.stmt
  rw [if_neg hw,hH]
  exact e
 ·have hm2:Kn.mst st.ns A 114=0:=by unfold Kn.usedF Kn.used at q2;rw [hH] at q2;exact q2
  obtain ⟨j,T',hT,hj,hK⟩:=used_known hr hs hm2
  obtain ⟨s',k',m,e,g,hm⟩:=flat_ok (ab:=ab) (row:=row) (s:=s) (k:=k) (blk:=blk) (at':=Lw.sAt t) (x:=⟨9,Cd.nmb s.vs (bs A),0,0,0,⟨#[]⟩,[],[],0,0,0⟩) hv hb (by omega) rfl (fun K L NB hK'=>by
   rw [hv]
   show Ck.pfx 114 (Cd.typ _ (Cd.nmb (vsOf row k) (bs A)))=true
   rw [(hK k).1,typ_pv (hK K).2,pfx_bs]
   rfl)
  refine fin s' k' m ?_ g hm hbl
  unfold Lw.stmt
  rw [if_neg hw,hH]
  exact e
 ·obtain ⟨g,hg,hlen,hth⟩: ∃ g,Kn.abv abT A=some g∧(gP g).length=(sE t).length∧Kn.thgs (n+1) st.ns (sE t) ((gP g).map fun p=>(pH p).2)=0:=by
   unfold Kn.rest at q3
   rw [hH] at q3
   have q3':(match Kn.abv abT A with
    |none=>(12:Int)
    |some g=>if (gP g).length ≠ (sE t).length then 15 else Kn.thgs (n+1) st.ns (sE t) ((gP g).map fun p=>(pH p).2))=0:=q3
   cases hg:Kn.abv abT A with
   |none=>rw [hg] at q3';cases q3'
   |some g=>
    rw [hg] at q3'
    dsimp only at q3'
    split at q3'
    ·cases q3'
    ·rename_i h2;exact ⟨g,rfl,Decidable.not_not.1 h2,q3'⟩
  obtain ⟨i,p,hfi,hpi,hgi⟩:=hab.find hg
  obtain ⟨-,hpar,row',k',rest,hpv,hr',hrow'⟩:=hab.at' i g p hgi hpi
  obtain ⟨q,eq,ql,hq⟩:=sps_ok hr hs hv (s:=s) (k:=k) (k':=k') hr' (sE t) 0 (Kn.par g) hfE (fun d hd=>by obtain ⟨i,hi⟩:=List.getElem?_of_mem hd;exact f.xs i d hi) (by unfold Kn.par;rw [List.length_map];exact hlen.symm) (by unfold Kn.par;rw [List.map_map];exact hth) (fun j v hv=>by
   rw [hrow',Nat.zero_add,List.getElem?_append_left (List.getElem?_eq_some_iff.1 hv).1]
   exact hv)
  obtain ⟨s',k2,m,e,g',hm⟩:=flat_ok (ab:=ab) (row:=row) (s:=s) (k:=k) (blk:=blk) (at':=Lw.sAt t) (x:=⟨10,(i:Int),0,0,0,⟨#[]⟩,[],q,0,0,0⟩) hv hb (by omega) rfl (fun K L NB hK'=>by
   show (decide ((0:Int)≤(i:Int)) && match ab[((i:Int)).toNat]? with
    |none=>false
    |some st=>decide ((q.length:Int)=st.params) && Ck.args _ q st.vars)=true
   rw [Int.toNat_natCast,hpi]
   dsimp only
   have:=hq K (L+1) NB hK'
   rw [List.drop_zero] at this
   have hh:decide ((q.length:Int)=p.params)=true:=decide_eq_true (by rw [hpar,ql,hlen])
   rw [hh,hpv,this,decide_eq_true (by omega:(0:Int)≤(i:Int))]
   rfl)
  refine fin s' k2 m ?_ g' hm hbl
  unfold Lw.stmt
  rw [if_neg hw,hH]
  show (match (abL ab).findIdx? (fun g=>decide (g.1=bs A)) with
   |none=>none
   |some k=>(Lw.sps s (n+1) (((abL ab)[k]?.map (fun y:Lw.Ab=>y.2)).getD []) 0 (sE t)).bind fun q=>Lw.put s blk (Lw.sAt t) ⟨10,k,0,0,0,⟨#[]⟩,[],q,0,0,0⟩)=_
  rw [hfi]
  dsimp only
  rw [show ((abL ab)[i]?.map (·.2)).getD []=vsOf row' k' by unfold abL;rw [List.getElem?_map,hpi];exact hpv,eq,Option.bind_some]
  exact e
 ·have hm2:Kn.mst st.ns B 114=0:=by unfold Kn.usedF Kn.used at q2;rw [hH] at q2;exact q2
  obtain ⟨j2,T',hT,hj2,hK2⟩:=used_known hr hs hm2
  have hkb:Kn.bnds st.ns t=[(A,T')]:=by unfold Kn.bnds;rw [hH];show [(A,(Kn.typ st.ns B).tail)]=_;rw [hT];rfl
  obtain ⟨j,hj,hK⟩:=bound hr (hbd (A,T') (by rw [hkb];simp))
  have hkb1:(Kn.bnds st.ns t).length=1:=by rw [hkb];rfl
  have hA: ∀ v ∈ [(A,T')],v ∈ row:=fun v hv=>hbd v (by rw [hkb];exact hv)
  obtain ⟨s',k',e,g⟩:=either_ok (ab:=ab) (row:=row) (st:=Lw.stmt (abL ab) n) (s:=s) (blk:=blk) (at':=Lw.sAt t) (h:=⟨11,Cd.nmb s.vs (bs A),Cd.nmb s.vs (bs B),0,0,⟨#[]⟩,[],[],0,0,0⟩) (body:=sB t) (els:=sO t) (nms:=[bs A]) (k:=k) (m1:=(3 * Kn.cs (n+1) (sB t)+s1.bd.length - (st.bd.length+1))+2) (b1:=2 * Kn.cs (n+1) (sB t)+1) (c1:=Kn.cs (n+1) (sB t)) (m2:=(3 * Kn.cs (n+1) (sO t)+s2.bd.length - s1.bd.length)) (b2:=2 * Kn.cs (n+1) (sO t)+1) (c2:=Kn.cs (n+1) (sO t)) hv (by omega) (by omega) (by omega) rfl rfl
   (fun K L NB to hK' h0 h1=>by
    rw [hv]
    show (Ck.eqT (Cd.typ _ (Cd.nmb (vsOf row k) (bs B))) (⟨#[114]⟩++Cd.typ _ (Cd.nmb (vsOf row k) (bs A))) && Ck.isI _ to)=true
    rw [(hK k).1,typ_pv (hK K).2,(hK2 k).1,typ_pv (hK2 K).2,bs_cns,eqT_self,isI_pv h0 (by omega)]
    rfl)
   (fun t1 v1 u1 i1=>by
    obtain ⟨t2,k2,m,e3,g3,m3,b3'⟩:=body_ok hr h (s:=t1) (k:=k) (blk:=blk) (at':=Lw.sAt t) (b:=(3,0,0)) e1 hB hfB hn1 hs1row (v1.trans hv) (by rw [u1];omega) (by omega) (by omega)
     (fun K L NB _=>by
      unfold Ck.blk
      rw [if_neg (by rw [u1];omega)]
      simp [u1]
      omega)
     (last:=fun s3 nb=>(Lw.over s3 nb (Lw.sAt t) [bs A]).bind fun s4=>Lw.put s4 nb (Lw.sAt t) (Cd.jmp 0)) (ml:=2)
     (fun s3 k3 hv3 hb3 _ hi3=>by
      obtain ⟨s4,e4,g4,-⟩:=last_ok (ab:=ab) hr (at':=Lw.sAt t) (to:=0) [(A,T')] s3 k3 t1.bs.length hA hv3 (by omega) (by simp;omega) (Int.le_refl 0) (by omega)
      exact ⟨s4,e4,g4⟩)
    rw [List.length_append,hkb1] at m3
    refine ⟨t2,k2,e3,g3.le (by omega) (Nat.le_refl _) (Nat.le_refl _),fun t5 v5 u5 i5=> ?_⟩
    have z1:=g3.lm
    have z2:=g3.lb
    have z3:=g3.lk
    have z4:=g3.bsl
    have y1:t1.bs.length=s.bs.length:=by rw [u1]
    have y5:t5.bs.length=t2.bs.length:=by rw [u5]
    obtain ⟨t6,k6,m6,e6,g6,m7,-⟩:=body_ok hr h (s:=t5) (k:=k2) (blk:=blk) (at':=Lw.sAt t) (b:=(4,0,0)) e2 hO hfO hns hrow (v5.trans g3.vs) (by omega) (by omega) (by omega)
     (fun K L NB _=>by
      unfold Ck.blk
      rw [if_neg (by rw [u5];omega)]
      simp [u5]
      omega)
     (last:=fun s3 _=>some s3) (ml:=0)
     (fun s3 k3 hv3 _ _ _=>⟨s3,rfl,Gw.refl hv3⟩)
    dsimp only at m7
    exact ⟨t6,k6,e6,g6.le (by omega) (Nat.le_refl _) (Nat.le_refl _)⟩)
  refine ⟨s',k',_,?_,g.le (Nat.le_refl _) (by omega) (by omega),?_⟩
  ·unfold Lw.stmt
   rw [if_neg hw,hH]
   exact e
  ·have:(Lw.bnds t).length=0:=by unfold Lw.bnds;rw [hH];rfl
   omega
 ·have hm2:Kn.mst st.ns B 114=0:=by unfold Kn.usedF Kn.used at q2;rw [hH] at q2;exact q2
  obtain ⟨j2,T',hT,hj2,hK2⟩:=used_known hr hs hm2
  have hkb:Kn.bnds st.ns t=[(A,T')]:=by unfold Kn.bnds;rw [hH];show [(A,(Kn.typ st.ns B).tail)]=_;rw [hT];rfl
  obtain ⟨j,hj,hK⟩:=bound hr (hbd (A,T') (by rw [hkb];simp))
  have hkb1:(Kn.bnds st.ns t).length=1:=by rw [hkb];rfl
  have hA: ∀ v ∈ [(A,T')],v ∈ row:=fun v hv=>hbd v (by rw [hkb];exact hv)
  obtain ⟨s',k',e,g⟩:=loop_ok (ab:=ab) (row:=row) (st:=Lw.stmt (abL ab) n) (s:=s) (blk:=blk) (at':=Lw.sAt t) (h:=⟨11,Cd.nmb s.vs (bs A),Cd.nmb s.vs (bs B),0,0,⟨#[]⟩,[],[],0,0,0⟩) (b:=(2,Cd.nmb s.vs (bs B),0)) (body:=sB t) (nms:=[bs A]) (k:=k) (m:=(3 * Kn.cs (n+1) (sB t)+s1.bd.length - (st.bd.length+1))+2) (b1:=2 * Kn.cs (n+1) (sB t)+1) (c:=Kn.cs (n+1) (sB t)) (by omega) (by omega) (by omega) rfl
   (fun K L NB to hK' h0 h1=>by
    rw [hv]
    show (Ck.eqT (Cd.typ _ (Cd.nmb (vsOf row k) (bs B))) (⟨#[114]⟩++Cd.typ _ (Cd.nmb (vsOf row k) (bs A))) && Ck.isI _ to)=true
    rw [(hK k).1,typ_pv (hK K).2,(hK2 k).1,typ_pv (hK2 K).2,bs_cns,eqT_self,isI_pv h0 (by omega)]
    rfl)
   (fun t1 v1 u1 i1=>by
    have y1:t1.bs.length=s.bs.length:=by rw [u1]
    obtain ⟨t2,k2,m,e3,g3,m3,b3'⟩:=body_ok hr h (s:=t1) (k:=k) (blk:=blk) (at':=Lw.sAt t) (b:=(2,Cd.nmb s.vs (bs B),0)) e1 hB hfB hn1 hs1row (v1.trans hv) (by omega) (by omega) (by omega)
     (fun K L NB hK0=>by
      unfold Ck.blk
      rw [if_neg (by omega)]
      show ((decide ((0:Int)≤0) && decide ((0:Int)≤6)) && ((decide ((0:Int)≤(blk:Int)) && decide ((blk:Int)<(t1.bs.length:Int))) && Ck.pfx 114 (Cd.typ _ (Cd.nmb s.vs (bs B)))))=true
      rw [hv,(hK2 k).1,typ_pv (hK2 K).2,pfx_bs,decide_eq_true (by omega:(0:Int)≤(blk:Int)),decide_eq_true (by omega:(blk:Int)<(t1.bs.length:Int))]
      rfl)
     (last:=fun s3 nb=>(Lw.over s3 nb (Lw.sAt t) [bs A]).bind fun s4=>Lw.put s4 nb (Lw.sAt t) (Cd.jmp s.is.length)) (ml:=2)
     (fun s3 k3 hv3 hb3 hi3 hj3=>by
      obtain ⟨s4,e4,g4,-⟩:=last_ok (ab:=ab) hr (at':=Lw.sAt t) (to:=s.is.length) [(A,T')] s3 k3 t1.bs.length hA hv3 (by omega) (by simp;omega) (by omega) (by omega)
      exact ⟨s4,e4,g4⟩)
    rw [List.length_append,hkb1] at m3
    exact ⟨t2,k2,e3,g3.le (by omega) (Nat.le_refl _) (Nat.le_refl _),by omega⟩)
  refine ⟨s',k',_,?_,g.le (Nat.le_refl _) (by omega) (by omega),?_⟩
  ·unfold Lw.stmt
   rw [if_neg hw,hH]
   exact e
  ·have:(Lw.bnds t).length=0:=by unfold Lw.bnds;rw [hH];rfl
   omega
 ·have hkb:Kn.bnds st.ns t=[]:=by unfold Kn.bnds;rw [hH];rfl
  have hkb1:(Kn.bnds st.ns t).length=0:=by rw [hkb];rfl
  have hnum:Rn.firstOf (Kn.num (n+1) st.ns) (sE t)=0:=by unfold Kn.rest at q3;rw [hH] at q3;exact q3
  have h1E:=f.one (by decide)
  obtain ⟨x,hx⟩: ∃ x,sE t=[x]:=by
   match sE t,h1E with
   |[x],_=>exact ⟨x,rfl⟩
  have hmo:0≤Cd.most (eH x).1 (eH x).2.2∧Cd.most (eH x).1 (eH x).2.2≤6:=by
   have hxf:=f.xs 0 x (by rw [hx];rfl)
   unfold Rn.xf at hxf
   dsimp only at hxf
   split at hxf
   ·cases hxf
   split at hxf
   ·cases hxf
   split at hxf
   ·cases hxf
   rename_i hk
   have hk': ¬ ((eH x).2.2<0∨1000000000000000000≤(eH x).2.2):=hk
   unfold Cd.most
   split<;> omega
  have hvl2:s.vs.length=row.length+k:=by rw [hv,vs_len]
  have hrep: ∀ K,k<K→(vsOf row K)[s.vs.length]? =some tI:=fun K hK=>by rw [hvl2];exact vs_rep hK
  have hv2:s.vs++[tI]=vsOf row (k+1):=by rw [hv,vs_new]
  have hrl:=hr.few
  have gs:Gw ab row s ⟨s.vs++[tI],s.bs,s.is⟩ k (k+1) 0 0 1:=⟨hv2,by omega,⟨[],by simp,fun i y hy=>by cases hy⟩,⟨[],by simp,fun x hx=>by cases hx⟩,Nat.le_refl _,Nat.le_refl _,Nat.le_refl _⟩
  obtain ⟨sp,ep,gp,up,vp,ip⟩:=put_ok (ab:=ab) (row:=row) (s:=⟨s.vs++[tI],s.bs,s.is⟩) (k:=k+1) (blk:=blk) (at':=Lw.sAt t) (x:=⟨12,s.vs.length,0,0,0,⟨#[]⟩,Lw.stps (s.vs++[tI]) (n+1) (sE t),[],0,0,0⟩) hv2 (by show s.is.length<_;omega) (by omega) (by show (blk:Int)<(s.bs.length:Int);omega) (by exact Int.le_refl 0) (by show (0:Int)<(s.bs.length:Int);omega) (fun K L NB hK' _=>by
   rw [hv2]
   show (Ck.eqT (Cd.typ _ (s.vs.length:Int)) Ck.ti && Ck.num _ 0 _)=true
   rw [typ_pv (hrep K (by omega)),num_one hr hs (k+1) K _ _ hfE f.xs hnum h1E,Bool.and_true]
   exact eqT_self _)
  dsimp only at up vp ip
  have yp:sp.bs.length=s.bs.length:=by rw [up]
  obtain ⟨s',k',e,g⟩:=loop_ok (ab:=ab) (row:=row) (st:=Lw.stmt (abL ab) n) (s:=sp) (blk:=blk) (at':=Lw.sAt t) (h:=⟨13,s.vs.length,0,0,0,⟨#[]⟩,[],[],0,0,0⟩) (b:=(5,0,Cd.most (eH x).1 (eH x).2.2)) (body:=sB t) (nms:=[]) (k:=k+1) (m:=(3 * Kn.cs (n+1) (sB t)+s1.bd.length - (st.bd.length+0))+1) (b1:=2 * Kn.cs (n+1) (sB t)+1) (c:=Kn.cs (n+1) (sB t)) (by omega) (by omega) (by omega) rfl
   (fun K L NB to hK' h0 h1=>by
    show (Ck.eqT (Cd.typ _ (s.vs.length:Int)) Ck.ti && Ck.isI _ to)=true
    rw [typ_pv (hrep K (by omega)),isI_pv h0 (by omega),Bool.and_true]
    exact eqT_self _)
   (fun t1 v1 u1 i1=>by
    have y1:t1.bs.length=s.bs.length:=by rw [u1,up]
    obtain ⟨t2,k2,m,e3,g3,m3,b3'⟩:=body_ok hr h (s:=t1) (k:=k+1) (blk:=blk) (at':=Lw.sAt t) (b:=(5,0,Cd.most (eH x).1 (eH x).2.2)) e1 hB hfB hn1 hs1row (v1.trans (vp.trans hv2)) (by omega) (by omega) (by omega)
     (fun K L NB hK0=>by
      unfold Ck.blk
      rw [if_neg (by omega)]
      show ((decide (0≤Cd.most (eH x).1 (eH x).2.2) && decide (Cd.most (eH x).1 (eH x).2.2≤6)) && ((decide ((0:Int)≤(blk:Int)) && decide ((blk:Int)<(t1.bs.length:Int))) && (decide ((3:Int)≤5) && decide ((5:Int)≤5))))=true
      rw [decide_eq_true hmo.1,decide_eq_true hmo.2,decide_eq_true (by omega:(0:Int)≤(blk:Int)),decide_eq_true (by omega:(blk:Int)<(t1.bs.length:Int))]
      rfl)
     (last:=fun s3 nb=>(Lw.over s3 nb (Lw.sAt t) []).bind fun s4=>Lw.put s4 nb (Lw.sAt t) (Cd.jmp sp.is.length)) (ml:=1)
     (fun s3 k3 hv3 hb3 hi3 hj3=>by
      obtain ⟨s4,e4,g4,-⟩:=last_ok (ab:=ab) hr (at':=Lw.sAt t) (to:=sp.is.length) [] s3 k3 t1.bs.length (fun v hv=>by cases hv) hv3 (by omega) (by simp;omega) (by omega) (by omega)
      exact ⟨s4,e4,g4⟩)
    rw [List.length_append,hkb1] at m3
    exact ⟨t2,k2,e3,g3.le (by omega) (Nat.le_refl _) (Nat.le_refl _),by omega⟩)
  refine ⟨s',k',_,?_,((gs.trans gp).trans g).le (Nat.le_refl _) (by omega) (by omega),?_⟩
  ·unfold Lw.stmt
   rw [if_neg hw,hH]
   show (match sE t with
    |[]=>none
    |x::_=>if 1000000≤s.vs.length then none else
     (Lw.put ⟨s.vs++[tI],s.bs,s.is⟩ blk (Lw.sAt t) ⟨12,s.vs.length,0,0,0,⟨#[]⟩,Lw.stps (s.vs++[tI]) (n+1) (sE t),[],0,0,0⟩).bind fun s1=>
      Lw.loop (Lw.stmt (abL ab) n) s1 blk (Lw.sAt t) ⟨13,s.vs.length,0,0,0,⟨#[]⟩,[],[],0,0,0⟩ (5,0,Cd.most (eH x).1 (eH x).2.2) (sB t) [])=_
   rw [ep,hx]
   dsimp only
   rw [if_neg (by omega),Option.bind_some]
   exact e
  ·have:(Lw.bnds t).length=0:=by unfold Lw.bnds;rw [hH];rfl
   omega
 ·have hkb:Kn.bnds st.ns t=[]:=by unfold Kn.bnds;rw [hH];rfl
  have hkb1:(Kn.bnds st.ns t).length=0:=by rw [hkb];rfl
  have hnum:Rn.firstOf (Kn.num (n+1) st.ns) (sE t)=0:=by unfold Kn.rest at q3;rw [hH] at q3;exact q3
  obtain ⟨s',k',e,g⟩:=either_ok (ab:=ab) (row:=row) (st:=Lw.stmt (abL ab) n) (s:=s) (blk:=blk) (at':=Lw.sAt t) (h:=⟨14,0,0,0,0,⟨#[]⟩,Lw.stps s.vs (n+1) (sE t),[],0,0,0⟩) (body:=sB t) (els:=sO t) (nms:=[]) (k:=k) (m1:=(3 * Kn.cs (n+1) (sB t)+s1.bd.length - (st.bd.length+0))+1) (b1:=2 * Kn.cs (n+1) (sB t)+1) (c1:=Kn.cs (n+1) (sB t)) (m2:=(3 * Kn.cs (n+1) (sO t)+s2.bd.length - s1.bd.length)) (b2:=2 * Kn.cs (n+1) (sO t)+1) (c2:=Kn.cs (n+1) (sO t)) hv (by omega) (by omega) (by omega) rfl rfl
   (fun K L NB to hK' h0 h1=>by
    rw [hv]
    show (Ck.num _ 0 _ && Ck.isI _ to)=true
    rw [num_one hr hs k K _ _ hfE f.xs hnum (f.one (by decide)),isI_pv h0 (by omega)]
    rfl)
   (fun t1 v1 u1 i1=>by
    obtain ⟨t2,k2,m,e3,g3,m3,b3'⟩:=body_ok hr h (s:=t1) (k:=k) (blk:=blk) (at':=Lw.sAt t) (b:=(3,0,0)) e1 hB hfB hn1 hs1row (v1.trans hv) (by rw [u1];omega) (by omega) (by omega)
     (fun K L NB _=>by
      unfold Ck.blk
      rw [if_neg (by rw [u1];omega)]
      simp [u1]
      omega)
     (last:=fun s3 nb=>(Lw.over s3 nb (Lw.sAt t) []).bind fun s4=>Lw.put s4 nb (Lw.sAt t) (Cd.jmp 0)) (ml:=1)
     (fun s3 k3 hv3 hb3 _ hi3=>by
      obtain ⟨s4,e4,g4,-⟩:=last_ok (ab:=ab) hr (at':=Lw.sAt t) (to:=0) [] s3 k3 t1.bs.length (fun v hv=>by cases hv) hv3 (by omega) (by simp;omega) (Int.le_refl 0) (by omega)
      exact ⟨s4,e4,g4⟩)
    rw [List.length_append,hkb1] at m3
    refine ⟨t2,k2,e3,g3.le (by omega) (Nat.le_refl _) (Nat.le_refl _),fun t5 v5 u5 i5=> ?_⟩
    have z1:=g3.lm
    have z2:=g3.lb
    have z3:=g3.lk
    have z4:=g3.bsl
    have y1:t1.bs.length=s.bs.length:=by rw [u1]
    have y5:t5.bs.length=t2.bs.length:=by rw [u5]
    obtain ⟨t6,k6,m6,e6,g6,m7,-⟩:=body_ok hr h (s:=t5) (k:=k2) (blk:=blk) (at':=Lw.sAt t) (b:=(4,0,0)) e2 hO hfO hns hrow (v5.trans g3.vs) (by omega) (by omega) (by omega)
     (fun K L NB _=>by
      unfold Ck.blk
      rw [if_neg (by rw [u5];omega)]
      simp [u5]
      omega)
     (last:=fun s3 _=>some s3) (ml:=0)
     (fun s3 k3 hv3 _ _ _=>⟨s3,rfl,Gw.refl hv3⟩)
    dsimp only at m7
    exact ⟨t6,k6,e6,g6.le (by omega) (Nat.le_refl _) (Nat.le_refl _)⟩)
  refine ⟨s',k',_,?_,g.le (Nat.le_refl _) (by omega) (by omega),?_⟩
  ·unfold Lw.stmt
   rw [if_neg hw,hH]
   exact e
  ·have:(Lw.bnds t).length=0:=by unfold Lw.bnds;rw [hH];rfl
   omega
theorem sp_all (hr:Ro row) (hab:AbR abT ab): ∀ n,SP abT ab row n
 |0=>fun _ _ _ _ _ _ _ _ _ _ _ hf=>by cases hf
 |n+1=>sp_step hr hab (lp_of (sp_all hr hab n))
end Go.Proofs.YtcdcoiobpbdmpaaGreatDoor.Lr
