import Derived.Test.YtcdcoiobpbdmpaaGreatDoorMbp
import Derived.Test.YtcdcoiobpbdmpaaGreatDoorMbi
import Derived.Test.YtcdcoiobpbdmpaaGreatDoorMat
import Derived.Test.YtcdcoiobpbdmpaaGreatDoorMbq
import Derived.Test.YtcdcoiobpbdmpaaGreatDoorMbt
namespace Go.Proofs.YtcdcoiobpbdmpaaGreatDoor.Lr
open Go.Proofs.YtcdcoiobpbdmpaaGreatDoor Go.Proofs.YtcdcoiobpbdmpaaGreatDoor.Sx
variable {abT:List Tr} {ab:List Cd.Pr} {row:List Kn.Nv}
theorem isN_ne {l:List UInt8} (h:Tk.isN l=true):l ≠ []:=by
 rintro rfl
 exact absurd h (by decide)
theorem sts_ne (abT:List Tr): ∀ (n:Nat) (l:List Tr) (st st1:Kn.St),Kn.sts n abT st l= .inl st1→Rn.okB n l→(∀ v ∈ st.bd,v.1 ≠ [])→ ∀ v ∈ st1.bd,v.1 ≠ []
 |0,l,st,st1,h,_,hn=>by obtain rfl:st=st1:=Sum.inl.inj h;exact hn
 |n+1,[],st,st1,h,_,hn=>by obtain rfl:st=st1:=Sum.inl.inj h;exact hn
 |n+1,t::r,st,st1,h,hok,hn=>by
  have h':Kn.thn (Kn.one n abT (Kn.sts n abT) st t) (fun s'=>Kn.sts (n+1) abT s' r)= .inl st1:=h
  obtain ⟨sm,e1,e2⟩:=Kn.thn_inl h'
  obtain ⟨⟨deep,q1⟩,q2,q3⟩:=Rn.okB_each hok t (List.mem_cons_self ..)
  rw [sf_tS] at q1
  have f:=Rn.okf q1
  obtain ⟨-,s1,s2,ns1,-,e3,e4,rfl⟩:=one_inl e1
  refine sts_ne abT (n+1) r _ st1 e2 (okB_cons hok) (sts_ne abT n (sO t) _ s2 e4 q3 (sts_ne abT n (sB t) _ s1 e3 q2 (fun v hv=> ?_)))
  rcases List.mem_append.1 hv with hv|hv
  ·exact hn v hv
  ·obtain ⟨⟨D,A,B,T,N⟩,hH⟩: ∃ p,sH t=p:=⟨_,rfl⟩
   simp only [hH] at f
   have hv':v ∈ (if D=1 then [(A,([105]:List UInt8))] else if D=4 then [(A,115::T),(B,114::T)] else if D=5 then [(A,Kn.typ st.ns B)] else if D=11∨D=12 then [(A,(Kn.typ st.ns B).tail)] else []):=by
    unfold Kn.bnds at hv
    rw [hH] at hv
    exact hv
   by_cases d1:D=1
   ·subst d1
    simp at hv'
    rw [hv']
    exact isN_ne (f.naA (by decide))
   rw [if_neg d1] at hv'
   by_cases d4:D=4
   ·subst d4
    simp at hv'
    rcases hv' with rfl|rfl
    ·exact isN_ne (f.naA (by decide))
    ·exact isN_ne (f.naB (by decide))
   rw [if_neg d4] at hv'
   by_cases d5:D=5
   ·subst d5
    simp at hv'
    rw [hv']
    exact isN_ne (f.naA (by decide))
   rw [if_neg d5] at hv'
   split at hv'
   ·rename_i d11
    simp at hv'
    rw [hv']
    rcases d11 with rfl|rfl<;> exact isN_ne (f.naA (by decide))
   ·cases hv'
theorem nd_pair: ∀ {bd:List Kn.Nv},Kn.Nd bd→bd.Pairwise fun a b=>a.1 ≠ b.1
 |[],_=>List.Pairwise.nil
 |v::r,h=>List.Pairwise.cons (fun u hu e=>by
   have h':Kn.isIn r v.1=false∧Kn.Nd r:=h
   have:Kn.isIn r v.1=true:=Kn.isIn_iff.2 ⟨u,hu,e.symm⟩
   rw [this] at h'
   cases h'.1) (nd_pair (show Kn.isIn r v.1=false∧Kn.Nd r from h).2)
theorem ro_of {s:Kn.St} (h:Kn.Inv s) (hn: ∀ v ∈ s.bd,v.1 ≠ []) (hl:s.bd.length≤30):Ro s.bd:=
 ⟨nd_pair h.sb.nd,hn,fun v hv=>by
  obtain ⟨h1,h2,-⟩:=h.ty v hv
  unfold Rn.isT
  rw [h1]
  simp
  omega,by omega⟩
theorem num_pv {p q:Cd.Pr} (h:p.vars=q.vars): ∀ (l:List (Int × Int)) (k:Nat),Ck.num p k l=Ck.num q k l
 |[],_=>rfl
 |(op,n)::r,k=>by
  have ht:Cd.typ p n=Cd.typ q n:=by unfold Cd.typ;rw [h]
  rw [num_cons,num_cons,ht,num_pv h r (k+1),num_pv h r k,num_pv h r (k - 1)]
theorem typ_same {p q:Cd.Pr} (h:p.vars=q.vars) (n:Int):Cd.typ p n=Cd.typ q n:=by unfold Cd.typ;rw [h]
theorem args_pv {p q:Cd.Pr} (h:p.vars=q.vars): ∀ (l:List (List (Int × Int) × Int)) (v:List (ByteArray × ByteArray)),Ck.args p l v=Ck.args q l v
 |[],_=>rfl
 |_::_,[]=>rfl
 |y::r,v::s=>by
  show (Ck.arg p y v.2 && Ck.args p r s)=(Ck.arg q y v.2 && Ck.args q r s)
  have:Ck.arg p y v.2=Ck.arg q y v.2:=by unfold Ck.arg;rw [num_pv h,typ_same h]
  rw [this,args_pv h r s]
theorem ins_same {ab:List Cd.Pr} {p q:Cd.Pr} (h:p.vars=q.vars) (hi:p.ins.length=q.ins.length) (hb:p.blocks.length=q.blocks.length) (x:Cd.In):Ck.ins ab p x=Ck.ins ab q x:=by
 unfold Ck.ins Ck.fits Ck.spawn Ck.isB Ck.isI
 rw [hi,hb,num_pv h,typ_same h x.a,typ_same h x.b]
 simp only [args_pv h]
theorem blk_same {p q:Cd.Pr} (h:p.vars=q.vars) (i:Nat) (b:Lw.Bk):Ck.blk p i b=Ck.blk q i b:=by
 unfold Ck.blk
 rw [typ_same h]
theorem within_bind {st:Lw.St→Int→Tr→Option Lw.St} {s:Lw.St} {blk at':Int} {b:Int × Int × Int} {body:List Tr} {f:Lw.St→Int→Option Lw.St} {g:Lw.St→Int→Option Lw.St}:
  Lw.within st s blk at' b body (fun s3 nb=>(f s3 nb).bind fun s4=>g s4 nb)=(Lw.within st s blk at' b body f).bind fun s4=>g s4 s.bs.length:=by
 unfold Lw.within
 split
 ·rw [Option.bind_assoc]
  congr 1
  funext s2
  rw [Option.bind_assoc]
 ·rfl
theorem bad_none {ab:List Cd.Pr} {p:Cd.Pr}: ∀ (l:List Cd.In) (i:Nat),(∀ x ∈ l,Ck.ins ab p x=true)→Ck.bad ab p i l=none
 |[],_,_=>rfl
 |x::r,i,h=>by
  unfold Ck.bad
  rw [if_pos (h x (List.mem_cons_self ..))]
  exact bad_none r (i+1) (fun y hy=>h y (List.mem_cons_of_mem _ hy))
theorem blks_all {p:Cd.Pr}: ∀ (l:List Lw.Bk) (i:Nat),(∀ (j:Nat) b,l[j]? =some b→Ck.blk p (i+j) b=true)→Ck.blks p i l=true
 |[],_,_=>rfl
 |b::r,i,h=>by
  unfold Ck.blks
  rw [show Ck.blk p i b=true from h 0 b rfl,Bool.true_and]
  exact blks_all r (i+1) (fun j c hc=>by have:=h (j+1) c (by simpa using hc);rwa [show i+(j+1)=i+1+j by omega] at this)
theorem types_ok (hr:Ro row) (k:Nat):Ck.types (vsOf row k)=true:=by
 unfold Ck.types vsOf
 rw [List.all_append,Bool.and_eq_true]
 refine ⟨List.all_eq_true.2 fun v hv=> ?_,List.all_eq_true.2 fun v hv=> ?_⟩
 ·unfold nmd at hv
  obtain ⟨u,hu,rfl⟩:=List.mem_map.1 hv
  show Rn.isT (bs u.2).data.toList 3=true
  rw [show (bs u.2).data.toList=u.2 by unfold bs;simp]
  exact hr.ty u hu
 ·obtain rfl:=List.eq_of_mem_replicate hv
  rfl
variable {abT:List Tr} {ab:List Cd.Pr} {row:List Kn.Nv}
def exI:Cd.In:=⟨17,0,0,0,0,⟨#[]⟩,[],[],0,0,0⟩
theorem made_ok (hr:Ro row) (hab:AbR abT ab) {n a:Nat} {g:Tr} {s1:Kn.St} (hs:Kn.sts (n+1) abT ⟨Kn.par g,Kn.par g,a⟩ (gB g)= .inl s1) (hrow:s1.bd=row) (h30:row.length≤30) (hok:Rn.okB (n+1) (gB g)) (hf:ftS (n+1) (gB g)) (hc:Kn.cs (n+1) (gB g)≤300) (hN:(gN g).length≤1000000) (hP:(gP g).length≤6):
  ∃ s k,Lw.made (abL ab) n g (nmd row)=some s∧s.vs=vsOf row k∧Ck.fault ab (Lw.proc g s)=(0,0)∧(∃ l x,s.is=l++[x]∧x.op=17)∧s.is.length≤3 * Kn.cs (n+1) (gB g)+row.length+1∧k≤Kn.cs (n+1) (gB g):=by
 have hg:=Kn.sts_go (n+1) abT _ _ _ hs
 obtain ⟨x,hx⟩:=hg.bd
 dsimp only at hx
 rw [hrow] at hx
 have hv0:nmd row=vsOf row 0:=by unfold vsOf;simp
 have hpar: ∀ v ∈ Kn.par g,v ∈ row:=fun v hv=>by rw [hx];exact List.mem_append_left _ hv
 have hpl:(Kn.par g).length=(gP g).length:=by unfold Kn.par;simp
 have hxl:=congrArg List.length hx
 rw [List.length_append] at hxl
 obtain ⟨s2,k2,m,e2,g2,m2,b2⟩:=body_ok hr (lp_of (sp_all hr hab n)) (s:=⟨nmd row,[],[]⟩) (k:=0) (blk:=0) (at':=Lw.gAt g) (b:=(1,0,0)) hs hok hf (fun v hv=>hv) (fun v hv=>by rw [hrow] at hv;exact hv) hv0 (by simp;omega) (by omega) (by simp;omega)
  (fun K L NB _=>rfl) (last:=fun s3 nb=>Lw.over s3 nb (Lw.gAt g) ((Kn.par g).map fun v=>bs v.1)) (ml:=(Kn.par g).length)
  (fun s3 k3 hv3 hb3 _ hi3=>by
   obtain ⟨s4,e4,g4,-,-⟩:=over_ok (ab:=ab) hr (at':=Lw.gAt g) (Kn.par g) s3 k3 0 hpar hv3 (by simp at hb3;omega) (by omega)
   exact ⟨s4,e4,g4⟩)
 dsimp only at m2
 rw [hrow] at m2
 have hlm:=g2.lm
 simp only [List.length_nil,Nat.zero_add] at hlm b2
 have hlb:=g2.lb
 simp only [List.length_nil,Nat.zero_add] at hlb
 have hlk:=g2.lk
 obtain ⟨nb,eb,fb⟩:=g2.bs
 obtain ⟨ni,ei,fi⟩:=g2.is
 simp only [List.nil_append] at eb ei
 have eput:Lw.put s2 0 (Lw.gAt g) exI=some ⟨s2.vs,s2.bs,s2.is++[⟨17,0,0,0,0,⟨#[]⟩,[],[],0,0,Lw.gAt g⟩]⟩:=by
  unfold Lw.put
  rw [if_pos (by omega)]
  rfl
 have emade:Lw.made (abL ab) n g (nmd row)=some ⟨s2.vs,s2.bs,s2.is++[⟨17,0,0,0,0,⟨#[]⟩,[],[],0,0,Lw.gAt g⟩]⟩:=by
  unfold Lw.made
  rw [if_neg (by rintro (h|h|h)<;> (first|omega|(unfold nmd at h;simp at h;omega)))]
  have hnm:((gP g).map fun p=>bs (pH p).1)=(Kn.par g).map fun v=>bs v.1:=by unfold Kn.par;rw [List.map_map];rfl
  rw [hnm]
  have:=within_bind (st:=Lw.stmt (abL ab) n) (s:=⟨nmd row,[],[]⟩) (blk:=0) (at':=Lw.gAt g) (b:=(1,0,0)) (body:=gB g) (f:=fun s3 nb=>Lw.over s3 nb (Lw.gAt g) ((Kn.par g).map fun v=>bs v.1)) (g:=fun s4 nb=>Lw.put s4 nb (Lw.gAt g) exI)
  rw [show ((0:Nat):Int)=0 from rfl] at e2
  rw [e2,Option.bind_some] at this
  exact this.trans eput
 refine ⟨_,k2,emade,g2.vs,?_,⟨s2.is,_,rfl,rfl⟩,by simp;omega,by omega⟩
 have hvl:(vsOf row k2).length=row.length+k2:=vs_len row k2
 have hpv:(Lw.proc g ⟨s2.vs,s2.bs,s2.is++[⟨17,0,0,0,0,⟨#[]⟩,[],[],0,0,Lw.gAt g⟩]⟩).vars=vsOf row k2:=g2.vs
 have hpi:(Lw.proc g ⟨s2.vs,s2.bs,s2.is++[⟨17,0,0,0,0,⟨#[]⟩,[],[],0,0,Lw.gAt g⟩]⟩).ins=s2.is++[⟨17,0,0,0,0,⟨#[]⟩,[],[],0,0,Lw.gAt g⟩]:=rfl
 have hpb:(Lw.proc g ⟨s2.vs,s2.bs,s2.is++[⟨17,0,0,0,0,⟨#[]⟩,[],[],0,0,Lw.gAt g⟩]⟩).blocks=s2.bs:=rfl
 have hpp:(Lw.proc g ⟨s2.vs,s2.bs,s2.is++[⟨17,0,0,0,0,⟨#[]⟩,[],[],0,0,Lw.gAt g⟩]⟩).params=((gP g).length:Int):=rfl
 generalize Lw.proc g ⟨s2.vs,s2.bs,s2.is++[⟨17,0,0,0,0,⟨#[]⟩,[],[],0,0,Lw.gAt g⟩]⟩=p at *
 have hfr:Ck.frame p=0:=by
  unfold Ck.frame
  rw [hpv,hpi,hpb,hpp,types_ok hr,if_neg (by simp),if_neg (by rw [hvl];omega),if_neg (by simp),if_neg (by rw [hvl];simp;omega)]
  rw [blks_all s2.bs 0 (fun j b hj=>by
   rw [Nat.zero_add]
   have:=fb j b (by rw [←eb];exact hj) k2 0 0 (Nat.le_refl _)
   simp only [List.length_nil,Nat.zero_add] at this
   rw [blk_same (q:=pv (vsOf row k2) 0 0) hpv]
   exact this)]
  rfl
 have hbad:Ck.bad ab p 0 p.ins=none:=bad_none _ _ (fun x hx=>by
  rw [hpi] at hx
  rw [ins_same (q:=pv (vsOf row k2) (s2.is.length+1) s2.bs.length) hpv (by rw [hpi];simp [pv]) (by rw [hpb];simp [pv])]
  rcases List.mem_append.1 hx with hx|hx
  ·rw [ei] at hx
   exact fi x hx k2 s2.is.length s2.bs.length (Nat.le_refl _) (Nat.le_refl _) (Nat.le_refl _)
  ·obtain rfl:=List.mem_singleton.1 hx
   unfold Ck.ins
   rw [isB_pv (by exact Int.le_refl 0) (by show (0:Int)<_;omega)]
   rfl)
 unfold Ck.fault
 rw [hfr,if_neg (by simp),hbad]
 dsimp only
 rw [if_neg (fun h=>h.1 (by unfold Ck.last;rw [hpi];simp))]
theorem hf_ne {g:Tr} (h:Rn.hf g=0): ∀ v ∈ Kn.par g,v.1 ≠ []:=by
 unfold Rn.hf at h
 split at h
 ·cases h
 split at h
 ·cases h
 have h3:=Rn.firstOf_zero h
 intro v hv
 unfold Kn.par at hv
 obtain ⟨p,hp,rfl⟩:=List.mem_map.1 hv
 have h4:=h3 p hp
 split at h4
 ·cases h4
 ·rename_i h5
  exact isN_ne (by simpa using h5)
structure Sg (n:Nat) (g:Tr):Prop where
 hf:Rn.hf g=0
 ok:Rn.okB (n+1) (gB g)
 ft:ftS (n+1) (gB g)
 wh:Kn.wh (n+1) (gB g)
 cs:Kn.cs (n+1) (gB g)≤300
structure Pk (n:Nat) (g:Tr) (p:Cd.Pr):Prop where
 nm:p.name=bs (gN g)
 pa:p.params=((gP g).length:Int)
 vs: ∃ row k,p.vars=vsOf row k∧ ∃ rest,row=Kn.par g++rest
 la: ∃ l x,p.ins=l++[x]∧x.op=17
 le:p.ins.length≤3 * Kn.cs (n+1) (gB g)+p.vars.length+1
theorem stages_ok {n:Nat}: ∀ (r:List Tr) (i a:Nat) (abT:List Tr) (ab:List Cd.Pr) (out o:List (List Kn.Nv)),AbR abT ab→Kn.stg (n+1) i a abT out r= .inl o→(∀ g ∈ r,Sg n g)→
  ∃ (o':List (List Kn.Nv)) (PR:List Cd.Pr),o=out++o'∧o'.length=r.length∧PR.length=r.length∧Lw.lowerGo n ab r (o'.map nmd)=some (ab++PR)∧Ck.first ab PR=none∧(∀ (j:Nat) p g,PR[j]? =some p→r[j]? =some g→Pk n g p)∧ ∀ (j:Nat) g,r[j]? =some g→Kn.abv (abT++r.take j) (gN g)=none
 |[],i,a,abT,ab,out,o,hab,h,_=>by
  obtain rfl:out=o:=Sum.inl.inj h
  exact ⟨[],[],by simp,rfl,rfl,by simp [Lw.lowerGo],rfl,(fun j p g hp=>by cases hp),(fun j g hg=>by cases hg)⟩
 |g::r,i,a,abT,ab,out,o,hab,h,hS=>by
  have h':(if (Kn.abv abT (gN g)).isSome || Kn.twiceP [] (Kn.par g) then Sum.inr (9,-2 - (i:Int)) else
   match Kn.sts (n+1) abT ⟨Kn.par g,Kn.par g,a⟩ (gB g) with
   | .inr f=> .inr f
   | .inl s=>if 30<s.bd.length then .inr (8,-2 - (i:Int)) else Kn.stg (n+1) (i+1) s.at' (abT++[g]) (out++[s.bd]) r)= .inl o:=h
  split at h'
  ·cases h'
  rename_i h1
  rw [Bool.or_eq_true,not_or,Bool.not_eq_true,Bool.not_eq_true] at h1
  cases hs:Kn.sts (n+1) abT ⟨Kn.par g,Kn.par g,a⟩ (gB g) with
  |inr f=>rw [hs] at h';cases h'
  |inl s1=>
   rw [hs] at h'
   dsimp only at h'
   split at h'
   ·cases h'
   rename_i h30
   obtain ⟨hf,hok,hft,hwh,hcs⟩:=hS g (List.mem_cons_self ..)
   obtain ⟨ty1,ty2,ty3⟩:=Kn.hf_ty hf
   have hI0:Kn.Inv ⟨Kn.par g,Kn.par g,a⟩:=⟨⟨by have:=Kn.Nd.app (V:=Kn.par g) (bd:=[]) trivial h1.2;simpa using this,fun v hv=>hv⟩,ty3⟩
   have hI:=(Kn.sts_inv abT (n+1) _ _ _ hwh hok hI0 hs).1
   have hne:=sts_ne abT (n+1) _ _ _ hs hok (hf_ne hf)
   have hr:=ro_of hI hne (by omega)
   obtain ⟨s,k,em,evs,efl,ela,ele,ek⟩:=made_ok hr hab hs rfl (by omega) hok hft hcs (by omega) ty2
   obtain ⟨x,hx⟩:=(Kn.sts_go (n+1) abT _ _ _ hs).bd
   dsimp only at hx
   have hvl:s.vs.length=s1.bd.length+k:=by rw [evs,vs_len]
   have hpk:Pk n g (Lw.proc g s):=⟨rfl,rfl,⟨s1.bd,k,evs,x,hx⟩,ela,by show s.is.length≤_+s.vs.length+1;omega⟩
   have hab2:AbR (abT++[g]) (ab++[Lw.proc g s]):=⟨by simp [hab.ln],fun j g' p' hg' hp'=>by
    by_cases hj:j<abT.length
    ·rw [List.getElem?_append_left hj] at hg'
     rw [List.getElem?_append_left (by rw [←hab.ln];exact hj)] at hp'
     exact hab.at' j g' p' hg' hp'
    ·have hj2:j=abT.length:=by have:=(List.getElem?_eq_some_iff.1 hg').1;simp at this;omega
     subst hj2
     rw [List.getElem?_append_right (Nat.le_refl _)] at hg'
     rw [hab.ln,List.getElem?_append_right (Nat.le_refl _)] at hp'
     simp at hg' hp'
     subst hg'
     subst hp'
     exact ⟨rfl,rfl,s1.bd,k,x,evs,hr,hx⟩⟩
   obtain ⟨o',PR,q1,q2,q3,q4,q5,q6,q7⟩:=stages_ok r (i+1) s1.at' (abT++[g]) (ab++[Lw.proc g s]) (out++[s1.bd]) o hab2 h' (fun y hy=>hS y (List.mem_cons_of_mem _ hy))
   refine ⟨s1.bd::o',Lw.proc g s::PR,by rw [q1];simp,by simp [q2],by simp [q3],?_,?_,fun j p g' hp hg=> ?_,fun j g' hg=> ?_⟩
   ·show (Lw.made (abL ab) n g (nmd s1.bd)).bind (fun s=>Lw.lowerGo n (ab++[Lw.proc g s]) r (o'.map nmd))=_
    rw [em,Option.bind_some,q4]
    simp
   ·unfold Ck.first
    rw [efl,if_neg (by simp)]
    exact q5
   ·match j,hp,hg with
    |0,hp,hg=>
     obtain rfl:=Option.some.inj hp
     obtain rfl:=Option.some.inj hg
     exact hpk
    |j+1,hp,hg=>exact q6 j p g' (by simpa using hp) (by simpa using hg)
   ·match j,hg with
    |0,hg=>
     obtain rfl:=Option.some.inj hg
     rw [List.take_zero,List.append_nil]
     cases hh:Kn.abv abT (gN g) with
     |none=>rfl
     |some y=>rw [hh] at h1;cases h1.1
    |j+1,hg=>
     have:=q7 j g' (by simpa using hg)
     rw [List.append_assoc] at this
     simpa using this
def mainI:Int→Nat→List Tr→Int
 |m,_,[]=>m
 |m,i,g::r=>mainI (if gN g=[109,97,105,110] then (i:Int) else m) (i+1) r
theorem main_no: ∀ (r:List Tr) (m:Int) (i:Nat),(∀ g ∈ r,gN g ≠ [109,97,105,110])→mainI m i r=m
 |[],_,_,_=>rfl
 |g::r,m,i,h=>by
  show mainI (if _ then _ else _) _ _=_
  rw [if_neg (h g (List.mem_cons_self ..))]
  exact main_no r m (i+1) (fun x hx=>h x (List.mem_cons_of_mem _ hx))
theorem main_at: ∀ (r:List Tr) (m:Int) (i j:Nat) (g:Tr),r[j]? =some g→gN g=[109,97,105,110]→(∀ (j':Nat) g',j<j'→r[j']? =some g'→gN g' ≠ [109,97,105,110])→mainI m i r=((i+j:Nat):Int)
 |[],_,_,_,_,h,_,_=>by cases h
 |x::r,m,i,0,g,h,hn,hu=>by
  obtain rfl:=Option.some.inj h
  show mainI (if _ then _ else _) _ _=_
  rw [if_pos hn]
  exact main_no r _ _ (fun y hy=>by obtain ⟨k,hk⟩:=List.getElem?_of_mem hy;exact hu (k+1) y (by omega) (by simpa using hk))
 |x::r,m,i,j+1,g,h,hn,hu=>by
  have:=main_at r (if gN x=[109,97,105,110] then (i:Int) else m) (i+1) j g (by simpa using h) hn (fun j' g' hj hg=>hu (j'+1) g' (by omega) (by simpa using hg))
  rw [show i+(j+1)=i+1+j by omega]
  exact this
theorem abv_take {l:List Tr} {j j':Nat} {g g':Tr} (hj:j<j') (h:l[j]? =some g) (ha:Kn.abv (l.take j') (gN g')=none):gN g ≠ gN g':=by
 intro e
 have hm:g ∈ l.take j':=by
  rw [List.mem_iff_getElem?]
  exact ⟨j,by rw [List.getElem?_take,if_pos hj];exact h⟩
 generalize l.take j'=t at ha hm
 induction t with
 |nil=>cases hm
 |cons x r ih=>
  have ha':(if gN x=gN g' then some x else Kn.abv r (gN g'))=none:=ha
  split at ha'
  ·cases ha'
  ·rename_i h1
   rcases List.mem_cons.1 hm with rfl|hm
   ·exact h1 e
   ·exact ih ha' hm
theorem lower_ok {n:Nat} {l:List Tr} {o:List (List Kn.Nv)} (hv:Kn.vars (n+1) l= .inl o) (hS: ∀ g ∈ l,Sg n g):
  ∃ PR,Lw.lowerGo n [] l (o.map nmd)=some PR∧PR.length=l.length∧o.length=l.length∧l ≠ []∧l.length≤10∧Ck.check PR (mainI 0 0 l)=(0,0)∧(∀ (j:Nat) p g,PR[j]? =some p→l[j]? =some g→Pk n g p)∧ ∃ (j:Nat) (g:Tr),mainI 0 0 l=(j:Int)∧l[j]? =some g∧gN g=[109,97,105,110]:=by
 unfold Kn.vars at hv
 split at hv
 ·cases hv
 rename_i h0
 cases hg:Kn.stg (n+1) 0 0 [] [] l with
 |inr f=>rw [hg] at hv;cases hv
 |inl o1=>
  rw [hg] at hv
  dsimp only at hv
  split at hv
  ·rename_i hany
   obtain rfl:=Sum.inl.inj hv
   obtain ⟨-,hne,hl10,-⟩:=Rn.pf_ok (told_okP (Decidable.not_not.1 h0))
   obtain ⟨o',PR,q1,q2,q3,q4,q5,q6,q7⟩:=stages_ok l 0 0 [] [] [] o1 ⟨rfl,fun j g p hg=>by cases hg⟩ hg hS
   simp only [List.nil_append] at q1 q4 q7
   subst q1
   obtain ⟨g,hgm,him⟩:=List.any_eq_true.1 hany
   obtain ⟨j,hj⟩:=List.getElem?_of_mem hgm
   unfold Kn.isMain at him
   rw [Bool.and_eq_true] at him
   have hnm:gN g=[109,97,105,110]:=by simpa using him.1
   have hmain:mainI 0 0 l=(j:Int):=by
    have:=main_at l 0 0 j g hj hnm (fun j' g' hjj hg' e=>abv_take hjj hj (q7 j' g' hg') (by rw [hnm,e]))
    rw [this]
    simp
   have hjl:j<PR.length:=by rw [q3];exact (List.getElem?_eq_some_iff.1 hj).1
   have hpj:PR[j]? =some PR[j]:=List.getElem?_eq_getElem hjl
   obtain ⟨k1,k2,⟨row,k,k3,rest,k4⟩,-,-⟩:=q6 j _ g hpj hj
   have hck:Ck.check PR (mainI 0 0 l)=(0,0):=by
    unfold Ck.check
    rw [if_neg (fun e=>by rw [e] at hjl;simp at hjl),if_neg (by omega),q5,hmain]
    dsimp only
    have:Ck.mainOK PR (j:Int)=true:=by
     unfold Ck.mainOK
     rw [Int.toNat_natCast,hpj,decide_eq_true (by omega:(0:Int)≤(j:Int))]
     dsimp only
     rw [k2,k3,k4]
     match hP:gP g,him.2 with
     |[p],h2=>
      have h3:(pH p).2=[114,105]:=by simpa using h2
      unfold vsOf nmd Kn.par
      rw [hP]
      simp [h3,Ck.eqT_iff]
      rfl
     |[],h2=>cases h2
     |_::_::_,h2=>cases h2
    rw [this]
    rfl
   exact ⟨PR,q4,q3,q2,hne,hl10,hck,q6,j,g,hmain,hj,hnm⟩
  ·cases hv
where
 told_okP {n:Nat} {l:List Tr} (h:(Rn.told n l).1=0):(Rn.pf n l).1=0:=by
  by_cases hf:(Rn.pf n l).1=0
  ·exact hf
  ·unfold Rn.told at h
   rw [if_pos hf] at h
   exact h
end Go.Proofs.YtcdcoiobpbdmpaaGreatDoor.Lr
namespace Go.Proofs.YtcdcoiobpbdmpaaGreatDoor
open Go.RowKit
def Lw.named (R:List (List Kn.Nv)):List (List Lw.Vr):=R.map fun x=>x.map fun v=>(bs v.1,bs v.2)
theorem Lw.named_at {R:List (List Kn.Nv)} {k:Nat} {y:List Lw.Vr} (h:(Lw.named R)[k]? =some y): ∃ x,R[k]? =some x∧y=x.map fun v=>(bs v.1,bs v.2):=by
 unfold Lw.named at h
 rw [List.getElem?_map] at h
 cases hx:R[k]? with
 |none=>rw [hx] at h;cases h
 |some x=>rw [hx] at h;cases h;exact ⟨x,rfl,rfl⟩
theorem vcl_named (x:List Kn.Nv):(x.map fun v=>((bs v.1,bs v.2):Lw.Vr)).flatMap Cd.vcl=vcells x:=by
 induction x with
 |nil=>rfl
 |cons v r ih=>
  show Cd.vcl (bs v.1,bs v.2)++(r.map fun v=>((bs v.1,bs v.2):Lw.Vr)).flatMap Cd.vcl=_
  rw [ih]
  rfl
theorem ownsRow_base {w:World} {B B' t z n:Nat} {v:Value} {xs:List Value} (h:w.ownsRow B t z v n xs) (hB:B'≤B):w.ownsRow B' t z v n xs:=
 ⟨h.1,h.2.imp id (fun ⟨g,cap,cur,hv,hb,r⟩=>⟨g,cap,cur,hv,Nat.le_trans hB hb,r⟩)⟩
theorem us_at {AV:List (Option Addr × Nat)} {R:List (List Kn.Nv)} {k:Nat} {x:List Kn.Nv} {a:Option Addr × Nat} (hx:R[k]? =some x) (ha:AV[k]? =some a):(Kc.us AV R)[k]? =some (.slice a.1 x.length a.2):=by
 unfold Kc.us
 rw [List.getElem?_map,(List.getElem?_zip_eq_some (z:=(a,x))).2 ⟨ha,hx⟩]
 rfl
theorem vo_of {w:World} {B g ma:Nat} {av:Option Addr} {cv:Nat} {R:List (List Kn.Nv)} {AV:List (Option Addr × Nat)} (hR:R ≠ []) (h1:w.ownsRow (g+1) 35 1 (.slice av R.length cv) R.length (Kc.us AV R)) (h2:RO B g ma w (.slice av R.length cv) R AV) (hB:B≤g):
  ∃ gv,av=some ⟨gv,0,none⟩∧VO w B gv 0 (Lw.named R) AV:=by
 rcases h1.2 with ⟨hv,h0⟩|⟨gv,cap,cur,hv,hb,_⟩
 ·exact absurd (List.length_eq_zero_iff.1 h0) hR
 obtain ⟨rfl,-⟩:av=some ⟨gv,0,none⟩∧cv=cap:=by simpa using hv
 refine ⟨gv,rfl,by rw [h2.ln];simp [Lw.named],by omega,fun k y a hy ha=> ?_,fun k k2 a a2 hne ha ha2 j hj hj2=> ?_⟩
 ·obtain ⟨x,hx,rfl⟩:=Lw.named_at hy
  obtain ⟨q1,q2⟩:=h2.at' k x a hx ha
  rw [List.length_map,vcl_named]
  refine ⟨?_,ownsRow_base q1 (Nat.zero_le _),fun j hj=> ?_⟩
  ·have:=h1.cells (g:=gv) rfl k _ (us_at hx ha)
   rwa [Addr.add_mid] at this
  ·obtain ⟨q3,-,q5⟩:=q2 j (by rw [ob_own];exact hj)
   exact ⟨q3,fun e=>q5 (by rw [e];rfl)⟩
 ·have l1:k<R.length:=by rw [←h2.ln];exact (List.getElem?_eq_some_iff.1 ha).1
  have l2:k2<R.length:=by rw [←h2.ln];exact (List.getElem?_eq_some_iff.1 ha2).1
  exact h2.ap k k2 _ _ a a2 hne (List.getElem?_eq_getElem l1) (List.getElem?_eq_getElem l2) ha ha2 j (by rw [ob_own];exact hj) (by rw [ob_own];exact hj2)
theorem lower_K {N K:Nat} {l:List Sx.Tr} (hs:Sm N l) (hg: ∀ (i:Nat) d,l[i]? =some d→Gnm N d) (hw8:Sx.wG N l≤8000) (h1:8000<K) (h2:K≤N) (h3:K≤1000002):
  Nm K l∧ ∀ (w':World) (P':Nat→Prop) (v':Value),Sl (RG w' P' N) w' P' l v'→Sl (RG w' P' K) w' P' l v':=by
 have hw: ∀ (i:Nat) d,l[i]? =some d→Sx.wS N (Sx.gB d)≤8000:=fun i d hd=>by
  have:=sum_nth (fun d=>Sx.wS N (Sx.gB d)) hd
  have e:Sx.wG N l=Sx.sum (fun d=>Sx.wS N (Sx.gB d)) l:=rfl
  omega
 refine ⟨⟨h3,hs.len,hs.ps,fun i d hd=> ?_,fun i d hd=> ?_⟩,?_⟩
 ·exact Nat.le_trans (Rn.wS_le _ N _ h2) (Nat.le_trans (hw i d hd) (by decide))
 ·obtain ⟨g1,g2,g3⟩:=hg i d hd
  exact ⟨g1,g2,Rn.nmS_le _ N _ h2 g3⟩
 ·intro w' P' v' h'
  refine h'.mono' ?_
  rintro d c hd ⟨nm,at',ps,body,uP,uB,e1,e2,e3,e4⟩
  obtain ⟨i,hi⟩:=List.getElem?_of_mem hd
  have:=hw i d hi
  rw [e1] at this
  have this':Sx.wS N body≤8000:=this
  exact ⟨nm,at',ps,body,uP,uB,e1,e2,e3,e4.lower N K (by omega)⟩
theorem gl_low {w:World} {P:Nat→Prop} {n:Nat} {l:List Sx.Tr} {v:Value} (h:Sl (RG w P n) w P l v):Sl (RG w (fun b=>b<w.heap.size) n) w (fun b=>b<w.heap.size) l v:=
 Sl.base (R:=RG w P n) h (fun b hb _=>hb) (fun d c hr=>⟨hr.base (fun b hb _=>hb),by obtain ⟨nm,at',ps,body,uP,uB,_,rfl,_⟩:=hr;simp⟩)
theorem gf_cs {n:Nat}: ∀ (l:List Sx.Tr) (i a b:Nat),Rn.gf n i a l= .inl b→a≤300→ ∀ g ∈ l,Kn.cs n (Sx.gB g)≤300
 |[],_,_,_,_,_,g,hg=>by cases hg
 |x::r,i,a,b,h,ha,g,hg=>by
  obtain ⟨-,-,h3,h4⟩:=Kn.gf_cons h
  have h5:=h4 ha
  rcases List.mem_cons.1 hg with rfl|hg
  ·omega
  ·exact gf_cs r _ _ b h3 h5 g hg
theorem sg_of {n:Nat} {w:World} {P:Nat→Prop} {l:List Sx.Tr} {a:Option Addr} {cap:Nat} (hL:Sl (RG w P (n+1)) w P l (.slice a l.length cap)) {o:List (List Kn.Nv)} (hv:Kn.vars (n+1) l= .inl o): ∀ g ∈ l,Lr.Sg n g:=by
 have h0:(Rn.told (n+1) l).1=0:=by
  unfold Kn.vars at hv
  split at hv
  ·cases hv
  ·rename_i h;exact Decidable.not_not.1 h
 obtain ⟨-,hne,hl10,hh⟩:=Rn.pf_ok (Rn.told_ok h0)
 obtain ⟨b,hgf⟩:=gf_of_pf (Rn.told_ok h0) hne hl10
 have hcs:=gf_cs l 0 0 b hgf (by omega)
 intro g hg
 obtain ⟨h1,h2⟩:=hh g hg
 obtain ⟨i,hi⟩:=List.getElem?_of_mem hg
 obtain ⟨hlt,-⟩:=List.getElem?_eq_some_iff.1 hi
 obtain ⟨b',off,nm,at',ps,body,uP,uB,-,-,hd,-,-,-,-,-,hB⟩:=GL.nth hL i hlt
 obtain rfl:g=Sx.tG nm at' ps body:=by rw [hi] at hd;simpa using hd
 exact ⟨h1,h2,Lr.ft_sl _ _ _ hB,SL.wh _ hB,hcs _ hg⟩
theorem mainI_eq: ∀ (l:List Sx.Tr) (m:Int) (i:Nat),Lw.mainI m i l=Lr.mainI m i l
 |[],_,_=>rfl
 |g::r,m,i=>by
  show Lw.mainI (if Sx.gN g=[109,97,105,110] then (i:Int) else m) (i+1) r=Lr.mainI (if Sx.gN g=[109,97,105,110] then (i:Int) else m) (i+1) r
  exact mainI_eq r _ _
theorem lower_gen (n:Nat) {w:World} (hT:Tb w) (P:Nat→Prop) (hP: ∀ j,P j→j<w.heap.size) (l:List Sx.Tr) (a:Option Addr) (cap:Nat) (hL:Sl (RG w P (n+1)) w P l (.slice a l.length cap)) (hN:Nm (n+1) l) (hlB: ∀ g ∈ l,(Sx.gB g).length≤1000000) (o:List (List Kn.Nv)) (hv:Kn.vars (n+1) l= .inl o) (hol:o.length=l.length) (hne:l ≠ []) (hll:l.length≤1000000) (PR:List Cd.Pr) (hs:Lw.lowerGo n [] l (Lw.named o)=some PR):
  Calls Tryz.prog 7 #[.agg #[.slice a l.length cap]] w fun e w'=> ∃ ap cp,e= .returned (.tuple #[.agg #[.slice ap PR.length cp,.int .i64 (Lw.mainI 0 0 l)],.agg #[.int .i64 0,.int .i64 0]])∧CoR w' (.slice ap PR.length cp) PR∧Below w.heap.size w w'∧PR.length≤cp:=by
 refine lower_any n P hP l a cap hL hll (Lw.named o) (by simp [Lw.named,hol]) (fun w1 hb=> ?_) PR hs
 have k1:Kp [] w w1:=Kp.of_below hb
 have hR:o ≠ []:=fun e=>hne (by rw [e] at hol;exact List.length_eq_zero_iff.1 hol.symm)
 have:=kVars_any (n+1) w1 P l a cap (hT.kp k1) (GL.keep hL k1) hN (fun b hb=>Nat.lt_of_lt_of_le (hP b hb) k1.size) hlB
 rw [hv] at this
 refine this.mono ?_
 rintro e w' ⟨av,cv,AV,g,ma,rfl,h1,h2,hg,hk⟩
 obtain ⟨gv,rfl,hvo⟩:=vo_of hR h1 h2 hg
 exact ⟨_,cv,gv,0,AV,by simp [Lw.named],fun _=>rfl,hvo,hk.below⟩
set_option maxRecDepth 100000 in
set_option maxHeartbeats 1000000 in
theorem lower_bad (n:Nat) {w:World} (hT:Tb w) (P:Nat→Prop) (hP: ∀ j,P j→j<w.heap.size) (l:List Sx.Tr) (a:Option Addr) (cap:Nat) (hL:Sl (RG w P n) w P l (.slice a l.length cap)) (hN:Nm n l) (hlB: ∀ g ∈ l,(Sx.gB g).length≤1000000) (f:Int × Int) (hv:Kn.vars n l= .inr f):
  Calls Tryz.prog 7 #[.agg #[.slice a l.length cap]] w fun e w'=>e= .returned (.tuple #[.agg #[.slice none 0 0,.int .i64 0],.agg #[.int .i64 f.1,.int .i64 f.2]])∧f.1 ≠ 0∧Kp [] w w':=by
 have KA:Hid (Kp [] w (((w.alloc (.cells #[.slice a l.length cap] 24)).alloc (.cells #[.slice none 0 0,.int .i64 0] 29)).alloc (.cells #[.int .i64 0,.int .i64 0] 31))):=hide ((((Kp.refl _ _).alloc _).alloc _).alloc _)
 have CV:=hide (kVars_any n _ P l a cap (hT.kp KA.out) (GL.keep hL KA.out) hN (fun b hb=>Nat.lt_of_lt_of_le (hP b hb) KA.out.size) hlB)
 rw [hv] at CV
 clear hT hP hL hN hlB hv
 go_enter Tryz.func7,Tryz.ntmps7
 go_wp2_with fail
 refine CV.out.mono ?_
 rintro e w1 ⟨rfl,hf,hk⟩
 have qf:(f.1 !=0)=true:=by simpa using hf
 have K1:=hide (KA.out.trans hk)
 have z1:w1.cell? ⟨w.heap.size+1,0,none⟩=some (.slice none 0 0):=hk.some (by simp [go_sem]) (by simp)
 have z2:w1.cell? ⟨w.heap.size+1,1,none⟩=some (.int .i64 0):=hk.some (by simp [go_sem]) (by simp)
 have z3:w1.cell? ⟨w.heap.size+1+1,0,none⟩=some (.int .i64 0):=hk.some (by simp [go_sem]) (by simp)
 have z4:w1.cell? ⟨w.heap.size+1+1,1,none⟩=some (.int .i64 0):=hk.some (by simp [go_sem]) (by simp)
 have f1: ∀ k,w1.frozen? ⟨w.heap.size+1,k,none⟩=false:=fun k=>(hk.frozen (p:=⟨w.heap.size+1,k,none⟩) (by simp) (by simp)).trans (by simp [go_sem])
 have f2: ∀ k,w1.frozen? ⟨w.heap.size+1+1,k,none⟩=false:=fun k=>(hk.frozen (p:=⟨w.heap.size+1+1,k,none⟩) (by simp) (by simp)).trans (by simp [go_sem])
 have g10:=f1 0
 have g11:=f1 1
 have g20:=f2 0
 have g21:=f2 1
 have b1:=World.block_lt_of_cell? _ _ z1
 have b2:=World.block_lt_of_cell? _ _ z3
 clear hk f1 f2
 have hb':=K1.out.size
 go_wp2
 go_region
 all_goals
  go_wp2
  refine bodyPost_ret (v:= .tuple #[.agg #[.slice none 0 0,.int .i64 0],.agg #[.int .i64 f.1,.int .i64 f.2]]) (by simp [results,Tryz.results7,go_sem,z1,z2,z3,z4,b1,b2]) rfl ?_
  exact ⟨rfl,hf,((((((K1.out.nb (by omega) _ _).nb (by omega) _ _).nb (by omega) _ _).nb (by omega) _ _).alloc _).drewN 1)⟩
end Go.Proofs.YtcdcoiobpbdmpaaGreatDoor
