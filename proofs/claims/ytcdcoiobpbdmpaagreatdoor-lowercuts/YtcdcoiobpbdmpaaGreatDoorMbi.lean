import Derived.Test.YtcdcoiobpbdmpaaGreatDoorMbh
import Derived.Defers
import Derived.Test.YtcdcoiobpbdmpaaGreatDoorMbg
namespace Go.Proofs.YtcdcoiobpbdmpaaGreatDoor
open Go.RowKit Go.Maps Go.ChangeMaps
set_option maxRecDepth 100000 in
set_option maxHeartbeats 1000000 in
theorem kOpen_any (c:Kg) (w:World) (vv:Value) (bd:List Kn.Nv) (fk:List UInt8→Option Value) (t:Nat) (h:KS c w vv bd fk t):
  Calls Tryz.prog 71 #[.pointer (some ⟨c.g,0,none⟩)] w fun e w'=>e= .returned (.func (.func 105) #[] #[.pointer (some ⟨w.heap.size,0,none⟩),.pointer (some ⟨w.heap.size+1,0,none⟩)])∧w'=(w.alloc (.cells #[.pointer (some ⟨c.g,0,none⟩)] 145)).alloc (.cells #[.int .i64 bd.length] 3):=by
 have c0:=h.c0
 have hlt:=h.lt
 obtain ⟨an,cn,rfl,-⟩:=vr_own h.ob
 have hmf: ∀ (fn:Fn) (first cap:Array Value) (w:World),(Instr.makeFunc fn first cap).run Tryz.prog w= .ok (.func fn first cap) w:=fun _ _ _ _=>rfl
 clear h
 go_enter Tryz.func71,Tryz.ntmps71
 go_wp2
 go_ret
 exact ⟨rfl,rfl⟩
def Kn.dels (f:List UInt8→Option Value) (l:List Kn.Nv):List UInt8→Option Value:=fun nm=>if Kn.isIn l nm then none else f nm
theorem Kn.dels_snoc (f:List UInt8→Option Value) (l:List Kn.Nv) (x:Kn.Nv):del (Kn.dels f l) x.1=Kn.dels f (l++[x]):=by
 funext nm
 unfold del Kn.dels
 rw [Kn.isIn_app,Kn.isIn_one]
 by_cases e:nm=x.1
 ·rw [if_pos e,if_pos (by simp [e])]
 ·have:decide (x.1=nm)=false:=by simpa using fun h=>e h.symm
  rw [if_neg e,this,Bool.or_false]
theorem Kn.dels_nil (f:List UInt8→Option Value):Kn.dels f []=f:=rfl
theorem KS.mo_set {c:Kg} {w:World} {vv:Value} {bd:List Kn.Nv} {fk fk':List UInt8→Option Value} {t:Nat} {o:Obj} (h:KS c w vv bd fk t) (hm:MV (setBlock w c.mo o) c.mo bd.length fk'):KS c (setBlock w c.mo o) vv bd fk' t:=by
 have hb: ∀ b,b ≠ c.mo→(setBlock w c.mo o).heap[b]? =w.heap[b]? :=fun b hb=>setBlock_other _ _ _ _ hb
 have hg:c.g ≠ c.mo:=by have:=h.gm;omega
 have ec: ∀ k,(setBlock w c.mo o).cell? ⟨c.g,k,none⟩=w.cell? ⟨c.g,k,none⟩:=fun k=>setBlock_cell _ _ _ _ hg
 exact ⟨by rw [setBlock_size];exact h.lt,(ec 0).trans h.c0,(ec 1).trans h.c1,(ec 2).trans h.c2,(ec 3).trans h.c3,(ec 4).trans h.c4,fun k=>(setBlock_frozen _ _ _ _ hg).trans (h.fz k),own_keepv h.ob (fun b hv=>hb b (fun e=>by subst e;exact h.mo.not_row h.ob hv)),h.mb.of_block (hb _ h.ne),hm,h.ma.of_block (hb _ h.na.2),h.ne,h.na,h.gm,h.lb,h.lat,h.sz⟩
theorem Kp.setIn {S:List Nat} {w w':World} (h:Kp S w w') {b:Nat} (hb:b ∈ S) (o:Obj):Kp S w (setBlock w' b o):=
 ⟨h.os,h.tape,h.output,by rw [setBlock_size];exact h.size,fun k hk hn=>(setBlock_other w' b o k (fun e=>hn (e ▸ hb))).trans (h.block k hk hn)⟩
theorem Kf.of_mo {c:Kg} {vv:Value} {w w':World} (h:Kp [c.mo] w w'):Kf c vv w vv w':=
 ⟨h.os,h.tape,h.output,h.size,fun b hb _ _ h3 _=>h.block b hb (by simpa using h3),fun _ h=> .inl h⟩
set_option maxRecDepth 100000 in
set_option maxHeartbeats 4000000 in
theorem kOpenC_any (c:Kg) (w:World) (vv:Value) (bd:List Kn.Nv) (fk:List UInt8→Option Value) (t p q:Nat) (first:Nat) (u:FrameMode) (h:KS c w vv bd fk t) (hp:w.cell? ⟨p,0,none⟩=some (.pointer (some ⟨c.g,0,none⟩))) (hq:w.cell? ⟨q,0,none⟩=some (.int .i64 first)) (hf:first≤bd.length):
  CallsD Tryz.prog 105 #[.pointer (some ⟨p,0,none⟩),.pointer (some ⟨q,0,none⟩)] u w fun e u' w'=>u'=u∧(e= .returned (.tuple #[])∧KS c w' vv bd (Kn.dels fk (bd.drop first)) t∧Kf c vv w vv w'):=by
 have H:=hide h
 have c0:=h.c0
 have hb:=h.lb
 have npo:p ≠ c.mo:=fun e=>h.mo.no_cell 0 _ (by rw [←e];exact hp)
 have nqo:q ≠ c.mo:=fun e=>h.mo.no_cell 0 _ (by rw [←e];exact hq)
 have ngo:c.g ≠ c.mo:=by have:=h.gm;omega
 have i1:(0:Int)≤(first:Int):=by omega
 have i2:(first:Int)≤(bd.length:Int):=by omega
 rcases h.ob.2 with ⟨hvv,h0⟩|⟨g,cap,cur,hvv,-,-,hnc,-,-,-⟩
 ·subst hvv
  have f0:first=0:=by omega
  subst f0
  have hbd:bd=[]:=List.length_eq_zero_iff.1 h0
  subst hbd
  clear h
  go_enter_d Tryz.func105,Tryz.ntmps105
  go_wp2
  go_quiet (fail)
  go_wp2
  go_loopw [11] (fun iv wr=>iv= .int .i64 0∧ ∃ n,wr=w.drewN n) (fun _ _=>0)
  case atStart=>exact ⟨rfl,_,rfl⟩
  case round=>
   obtain ⟨rfl,n,rfl⟩:=hrel
   go_wp2
   go_end0
   exact ⟨rfl,H.out.kp ((Kp.refl _ _).drewN _),Kf.of_kp ((Kp.refl _ _).drewN _)⟩
 ·have HROW:=hide (vr_own h.ob)
  subst hvv
  have i3:(bd.length:Int)≤(cap:Int):=by omega
  clear h
  by_cases hfe:first=bd.length
  ·have e0:bd.length - first=0:=by omega
   have hd:Hid (bd.drop first=[]):=hide (by rw [hfe,List.drop_length])
   rcases Decidable.em (cap=first) with hcf|hcf
   all_goals
    go_enter_d Tryz.func105,Tryz.ntmps105
    go_wp2
    go_quiet (fail)
    go_wp2
    go_loopw [11] (fun iv wr=>iv= .int .i64 0∧ ∃ n,wr=w.drewN n) (fun _ _=>0)
    case atStart=>exact ⟨rfl,_,rfl⟩
    case round=>
     obtain ⟨rfl,n,rfl⟩:=hrel
     go_wp2
     go_end0
     rw [hd.out,Kn.dels_nil]
     exact ⟨rfl,H.out.kp ((Kp.refl _ _).drewN _),Kf.of_kp ((Kp.refl _ _).drewN _)⟩
  ·have hcf: ¬ cap=first:=by omega
   have hlm:first<bd.length:=by omega
   obtain ⟨m,hm⟩: ∃ m,m=bd.length - first:=⟨_,rfl⟩
   have HRC:Hid (∀ (k:Nat) x,(bd.drop first)[k]? =some x→w.cell? ⟨g,first * 2+k * 2,none⟩=some (.string (bs x.1))∧w.cell? ⟨g,first * 2+k * 2+1,none⟩=some (.string (bs x.2))):=hide (by
    intro k x hx
    obtain ⟨a',c',e1,hc⟩:=HROW.out
    injection e1 with ea _ _
    obtain ⟨g',o',h3,h4⟩:=hc (fun e=>by rw [e] at hlm;simp at hlm)
    rw [h3] at ea
    injection ea with ea
    injection ea with eg eo _
    subst eg
    subst eo
    rw [List.getElem?_drop] at hx
    have:=h4 (first+k) x hx
    rw [Nat.zero_add,Nat.add_mul] at this
    exact this)
   have hng:g ≠ c.mo:=fun e=>H.out.mo.not_row H.out.ob (by rw [←e];rfl)
   have HSZ:=hide H.out.sz
   go_enter_d Tryz.func105,Tryz.ntmps105
   go_wp2
   go_quiet (fail)
   go_wp2
   simp only [←hm]
   have HM:=hide hm
   have hm1:m≤1000:=by omega
   clear hm
   go_loopw [11] (fun iv wr=> ∃ i:Nat,i≤m∧iv= .int .i64 i∧Hid (KS c wr (.slice (some ⟨g,0,none⟩) bd.length cap) bd (Kn.dels fk ((bd.drop first).take i)) t)∧Hid (Kp [c.mo] w wr)) (fun iv _=>m - (intOf iv).toNat)
   case atStart=>exact ⟨0,Nat.zero_le _,rfl,hide (by rw [List.take_zero,Kn.dels_nil];exact H.out.kp ((Kp.refl _ _).drewN _)),hide ((Kp.refl _ _).drewN _)⟩
   case round=>
    obtain ⟨i,hil,rfl,HS,HK⟩:=hrel
    by_cases hlt:i<m
    ·have d1:decide ((i:Int)<(m:Int))=true:=by simp;omega
     obtain ⟨x,hx⟩: ∃ x,(bd.drop first)[i]? =some x:=⟨_,List.getElem?_eq_getElem (by have:=HM.out;simp;omega)⟩
     have HTK:Hid ((bd.drop first).take (i+1)=(bd.drop first).take i++[x]):=hide (by rw [List.take_add_one,hx];rfl)
     obtain ⟨y0,y1⟩:=HRC.out i x hx
     have z0:=HK.out.some y0 (by simpa using hng)
     have z1:=HK.out.some y1 (by simpa using hng)
     have hp1:=HK.out.some hp (by simpa using npo)
     obtain ⟨hx1,-⟩:=HSZ.out x (List.mem_of_mem_drop (List.mem_of_getElem? hx))
     have hk0:(0:Int)≤(i:Int):=by omega
     have hk1:(i:Int)<(m:Int):=by omega
     have hgl:=HS.out.lt
     have hml:=HS.out.mo.lt
     have KA:Hid (Kp [] wr ((wr.alloc (.cells #[.string (bs x.1),.string (bs x.2)] 98)).drew)):=hide (((Kp.refl _ _).alloc _).drewN 1)
     have HS1:=HS.out.kp KA.out
     obtain ⟨o,hdel,hmv⟩:=HS1.mo.drop x.1 hx1 Tryz.underlying79 0
     have t0:((wr.alloc (.cells #[.string (bs x.1),.string (bs x.2)] 98)).drew).cell? ⟨p,0,none⟩=some (.pointer (some ⟨c.g,0,none⟩)):=KA.out.some hp1 (by simp)
     have t1:=HS1.c2
     have t2:((wr.alloc (.cells #[.string (bs x.1),.string (bs x.2)] 98)).drew).cell? ⟨wr.heap.size,0,none⟩=some (.string (bs x.1)):=by simp [go_sem]
     have v0:=(setBlock_cell ((wr.alloc (.cells #[.string (bs x.1),.string (bs x.2)] 98)).drew) c.mo o ⟨p,0,none⟩ npo).trans t0
     have v1:=(setBlock_cell ((wr.alloc (.cells #[.string (bs x.1),.string (bs x.2)] 98)).drew) c.mo o ⟨c.g,2,none⟩ ngo).trans t1
     have v2:=(setBlock_cell ((wr.alloc (.cells #[.string (bs x.1),.string (bs x.2)] 98)).drew) c.mo o ⟨wr.heap.size,0,none⟩ (by show wr.heap.size ≠ _;omega)).trans t2
     have S2:Hid (KS c (setBlock ((wr.alloc (.cells #[.string (bs x.1),.string (bs x.2)] 98)).drew) c.mo o) (.slice (some ⟨g,0,none⟩) bd.length cap) bd (Kn.dels fk ((bd.drop first).take (i+1))) t):=hide (by rw [HTK.out,←Kn.dels_snoc];exact HS1.mo_set hmv)
     have K2:Hid (Kp [c.mo] w (setBlock ((wr.alloc (.cells #[.string (bs x.1),.string (bs x.2)] 98)).drew) c.mo o)):=hide ((HK.out.trans (KA.out.mono (by simp))).setIn (by simp) _)
     clear HS1 hmv y0 y1 hx HTK
     generalize setBlock ((wr.alloc (.cells #[.string (bs x.1),.string (bs x.2)] 98)).drew) c.mo o=W2 at *
     go_wp2
     go_region_held3 (fun w'=>w'.cell? ⟨p,0,none⟩=some (.pointer (some ⟨c.g,0,none⟩))∧w'.cell? ⟨c.g,2,none⟩=some (.map (some c.mo))∧w'.cell? ⟨wr.heap.size,0,none⟩=some (.string (bs x.1))) ((first|exact ⟨by assumption,by assumption,by assumption⟩|go_keep)) (fail)
     all_goals
      go_wp2
      go_roundw
      case rel=>exact ⟨i+1,by have:=HM.out;omega,by go_num,S2,K2⟩
      case measure=>have:=HM.out;simp [intOf];omega
    ·obtain rfl:i=m:=by omega
     have d1:decide ((i:Int)<(i:Int))=false:=by simp
     have HE:=HS.out
     rw [List.take_of_length_le (by have:=HM.out;simp;omega)] at HE
     have HE':=hide HE
     clear HE
     go_wp2
     go_end0
     exact ⟨rfl,HE'.out,Kf.of_mo HK.out⟩
end Go.Proofs.YtcdcoiobpbdmpaaGreatDoor
namespace Go.Proofs.YtcdcoiobpbdmpaaGreatDoor.Kn
open Go.Proofs.YtcdcoiobpbdmpaaGreatDoor Go.Proofs.YtcdcoiobpbdmpaaGreatDoor.Sx
theorem Nd.app {V:List Nv}: ∀ {bd:List Nv},Nd bd→twiceP bd V=false→Nd (bd++V):=by
 induction V with
 |nil=>intro bd h _;rw [List.append_nil];exact h
 |cons v r ih=>
  intro bd h ht
  have ht':(isIn bd v.1 || twiceP (bd++[v]) r)=false:=ht
  rw [Bool.or_eq_false_iff] at ht'
  have:=ih (h.snoc ht'.1) ht'.2
  rwa [List.append_assoc] at this
structure Inv (s:St):Prop where
 sb:Sb s.ns s.bd
 ty:Tyv s.bd
theorem Inv.tn {s:St} (h:Inv s):Tyv s.ns:=fun v hv=>h.ty v (h.sb.sub v hv)
structure Gx (s s':St):Prop where
 gx: ∃ y z,s'.ns=s.ns++y∧s'.bd=s.bd++z∧ ∀ v,v ∈ y→v ∈ z
theorem Gx.refl (s:St):Gx s s:=⟨[],[],by simp,by simp,fun v h=>h⟩
theorem Gx.trans {a b c:St} (h:Gx a b) (k:Gx b c):Gx a c:=by
 obtain ⟨y1,z1,e1,e2,e3⟩:=h.gx
 obtain ⟨y2,z2,f1,f2,f3⟩:=k.gx
 refine ⟨y1++y2,z1++z2,by rw [f1,e1,List.append_assoc],by rw [f2,e2,List.append_assoc],fun v hv=> ?_⟩
 rcases List.mem_append.1 hv with hv|hv
 ·exact List.mem_append.2 (.inl (e3 v hv))
 ·exact List.mem_append.2 (.inr (f3 v hv))
theorem Inv.bind {s:St} (h:Inv s) {V:List Nv} (ht:twiceP s.bd V=false) (hV:Tyv V) (k:Nat):Inv ⟨s.ns++V,s.bd++V,k⟩:=
 ⟨⟨h.sb.nd.app ht,fun v hv=>by
   rcases List.mem_append.1 hv with hv|hv
   ·exact List.mem_append.2 (.inl (h.sb.sub v hv))
   ·exact List.mem_append.2 (.inr hv)⟩,fun v hv=>by
   rcases List.mem_append.1 hv with hv|hv
   ·exact h.ty v hv
   ·exact hV v hv⟩
theorem Inv.cut {s s1:St} (h:Inv s) (h1:Inv s1) (hb: ∃ z,s1.bd=s.bd++z) (k:Nat):Inv ⟨s.ns,s1.bd,k⟩:=by
 obtain ⟨z,hz⟩:=hb
 exact ⟨⟨h1.sb.nd,fun v hv=>by show v ∈ s1.bd;rw [hz];exact List.mem_append.2 (.inl (h.sb.sub v hv))⟩,h1.ty⟩
theorem bind_ok {n:Nat} {ab:List Tr} {s:St} {d N at':Int} {A B T:List UInt8} {E body els:List Tr} {m:Nat} (hi:Inv s) (f:Rn.Okf m d A B T N E body els) (h:sc n ab s.ns s.bd (tS d at' A B T N E body els)=0) (k:Nat):
  twiceP s.bd (bnds s.ns (tS d at' A B T N E body els))=false∧Inv ⟨s.ns++bnds s.ns (tS d at' A B T N E body els),s.bd++bnds s.ns (tS d at' A B T N E body els),k⟩:=by
 have ht:twiceP s.bd (bnds s.ns (tS d at' A B T N E body els))=false:=by
  rw [←bnp_bnds h,twice_bnp s.bd s.ns d at' N A B T E body els]
  exact (sc_used h).1
 exact ⟨ht,hi.bind ht (bnds_ok hi.tn f h) k⟩
theorem one_inv (n:Nat) (ab:List Tr) (blk:St→List Tr→Rs) {d N at':Int} {A B T:List UInt8} {E body els:List Tr} (f:Rn.Okf n d A B T N E body els) (hB: ∀ s s',Inv s→blk s body= .inl s'→Inv s'∧Gx s s') (hO: ∀ s s',Inv s→blk s els= .inl s'→Inv s'∧Gx s s') (s s':St) (hi:Inv s)
  (h:one n ab blk s (tS d at' A B T N E body els)= .inl s'):Inv s'∧Gx s s':=by
 unfold one at h
 split at h
 ·cases h
 rename_i hc
 have hsc:sc n ab s.ns s.bd (tS d at' A B T N E body els)=0:=Decidable.byContradiction hc
 obtain ⟨-,hbi⟩:=bind_ok hi f hsc (s.at'+1)
 have hB':sB (tS d at' A B T N E body els)=body:=rfl
 have hO':sO (tS d at' A B T N E body els)=els:=rfl
 dsimp only at h
 rw [hB',hO'] at h
 generalize bnds s.ns (tS d at' A B T N E body els)=b at *
 split at h
 ·obtain ⟨s1,h1,h⟩:=thn_inl h
  obtain ⟨s2,h2,h⟩:=thn_inl h
  obtain rfl:=Sum.inl.inj h
  obtain ⟨i1,g1⟩:=hB _ _ hbi h1
  obtain ⟨y1,z1,e1,e2,e3⟩:=g1.gx
  have hz:s1.bd=s.bd++(b++z1):=by rw [e2];simp
  have ic:=hi.cut i1 ⟨_,hz⟩ s1.at'
  obtain ⟨i2,g2⟩:=hO _ _ ic h2
  obtain ⟨y2,z2,f1,f2,f3⟩:=g2.gx
  have hz2:s2.bd=s.bd++(b++z1++z2):=by rw [f2];show s1.bd++z2=_;rw [hz];simp
  exact ⟨hi.cut i2 ⟨_,hz2⟩ _,⟨[],_,by simp,hz2,fun v hv=>by cases hv⟩⟩
 ·obtain ⟨s1,h1,h⟩:=thn_inl h
  obtain ⟨s2,h2,h⟩:=thn_inl h
  obtain rfl:=Sum.inl.inj h
  obtain ⟨i1,g1⟩:=hB _ _ hbi h1
  obtain ⟨y1,z1,e1,e2,e3⟩:=g1.gx
  have hz:s1.bd=s.bd++(b++z1):=by rw [e2];simp
  have ic:=hbi.cut i1 ⟨z1,by rw [hz];simp⟩ s1.at'
  obtain ⟨i2,g2⟩:=hO _ _ ic h2
  obtain ⟨y2,z2,f1,f2,f3⟩:=g2.gx
  have hz2:s2.bd=s.bd++(b++z1++z2):=by rw [f2];show s1.bd++z2=_;rw [hz];simp
  exact ⟨hbi.cut i2 ⟨z1++z2,by rw [hz2];simp⟩ _,⟨b,_,rfl,hz2,fun v hv=>List.mem_append.2 (.inl (List.mem_append.2 (.inl hv)))⟩⟩
def whS (t:Tr):Prop:= ∃ d at' A B T N E body els,t=tS d at' A B T N E body els
def wh:Nat→List Tr→Prop
 |0,_=>True
 |n+1,l=> ∀ t ∈ l,whS t∧wh n (sB t)∧wh n (sO t)
theorem goK_inv (g:St→Tr→Rs): ∀ (l:List Tr) (_: ∀ t ∈ l,∀ s s',Inv s→g s t= .inl s'→Inv s'∧Gx s s') (s s':St),Inv s→goK g s l= .inl s'→Inv s'∧Gx s s':=by
 intro l
 induction l with
 |nil=>intro _ s s' hi h;obtain rfl:=Sum.inl.inj h;exact ⟨hi,Gx.refl _⟩
 |cons t r ih=>
  intro hg s s' hi h
  obtain ⟨s1,h1,h2⟩:=thn_inl h
  obtain ⟨i1,g1⟩:=hg t List.mem_cons_self s s1 hi h1
  obtain ⟨i2,g2⟩:=ih (fun t ht=>hg t (List.mem_cons_of_mem _ ht)) s1 s' i1 h2
  exact ⟨i2,g1.trans g2⟩
theorem sts_inv (ab:List Tr): ∀ (n:Nat) (s:St) (l:List Tr) (s':St),wh n l→Rn.okB n l→Inv s→sts n ab s l= .inl s'→Inv s'∧Gx s s':=by
 intro n
 induction n with
 |zero=>intro s l s' _ _ hi h;obtain rfl:=Sum.inl.inj h;exact ⟨hi,Gx.refl _⟩
 |succ n ih=>
  intro s l s' hw ho hi h
  refine goK_inv _ l (fun t ht s s' hi h=> ?_) s s' hi h
  obtain ⟨⟨d,at',A,B,T,N,E,body,els,rfl⟩,hw1,hw2⟩:=hw t ht
  obtain ⟨⟨deep,o1⟩,o2,o3⟩:=Rn.okB_each ho _ ht
  exact one_inv n ab (sts n ab) (Rn.okf o1) (fun s s' hi h=>ih s body s' hw1 o2 hi h) (fun s s' hi h=>ih s els s' hw2 o3 hi h) s s' hi h
theorem nd_apart: ∀ {bd c:List Nv},Nd (bd++c)→ ∀ {u v:Nv},u ∈ bd→v ∈ c→u.1 ≠ v.1:=by
 intro bd
 induction bd with
 |nil=>intro c _ u v hu;cases hu
 |cons x r ih=>
  intro c h u v hu hv
  have h':isIn (r++c) x.1=false∧Nd (r++c):=h
  rcases List.mem_cons.1 hu with h1|h1
  ·rw [h1]
   intro e
   have:=(isIn_iff (bd:=r++c)).2 ⟨v,List.mem_append.2 (.inr hv),e.symm⟩
   rw [this] at h'
   cases h'.1
  ·exact ih h'.2 h1 hv
theorem fkn_end {ns bd V y z:List Nv} (hn:Nd (bd++V++z)) (hs: ∀ v,v ∈ ns→v ∈ bd) (hy: ∀ v,v ∈ y→v ∈ z):dels (fkn (ns++V++y) (bd++V++z)) ((bd++V++z).drop bd.length)=fkn ns (bd++V++z):=by
 have hd:(bd++V++z).drop bd.length=V++z:=by rw [List.append_assoc,List.drop_left]
 rw [hd]
 funext nm
 unfold dels fkn
 by_cases h1:isIn (V++z) nm=true
 ·rw [if_pos h1]
  have:isIn ns nm=false:=by
   cases h2:isIn ns nm with
   |false=>rfl
   |true=>
    obtain ⟨u,hu,hu1⟩:=isIn_iff.1 h2
    obtain ⟨v,hv,hv1⟩:=isIn_iff.1 h1
    exact absurd (by rw [hu1,hv1]) (nd_apart (bd:=bd) (c:=V++z) (by rw [←List.append_assoc];exact hn) (hs u hu) hv)
  rw [this]
  rfl
 ·rw [if_neg h1]
  have h1':isIn (V++z) nm=false:=by simpa using h1
  rw [isIn_app] at h1'
  rw [Bool.or_eq_false_iff] at h1'
  have h3:isIn y nm=false:=by
   cases h2:isIn y nm with
   |false=>rfl
   |true=>
    obtain ⟨u,hu,hu1⟩:=isIn_iff.1 h2
    have:=(isIn_iff (bd:=z)).2 ⟨u,hy u hu,hu1⟩
    rw [this] at h1'
    cases h1'.2
  rw [isIn_app,isIn_app,h1'.1,h3,Bool.or_false,Bool.or_false]
end Go.Proofs.YtcdcoiobpbdmpaaGreatDoor.Kn
namespace Go.Proofs.YtcdcoiobpbdmpaaGreatDoor
open Go.RowKit Go.Maps Go.ChangeMaps
def Kf.S (c:Kg) (vv:Value):List Nat:=c.g::c.mb::c.mo::vv.ownBlock.toList
theorem Kf.kp {c:Kg} {vv vv':Value} {w w':World} (h:Kf c vv w vv' w'):Kp (Kf.S c vv) w w':=
 ⟨h.os,h.tape,h.output,h.size,fun b hb hn=>by
  unfold Kf.S at hn
  simp only [List.mem_cons,not_or,Option.mem_toList] at hn
  exact h.block b hb hn.1 hn.2.1 hn.2.2.1 hn.2.2.2⟩
theorem KS.S_ge {c:Kg} {w:World} {vv:Value} {bd:List Kn.Nv} {fk:List UInt8→Option Value} {t:Nat} (h:KS c w vv bd fk t): ∀ k,k ∈ Kf.S c vv→c.g≤k:=by
 intro k hk
 have:=h.gm
 unfold Kf.S at hk
 simp only [List.mem_cons,Option.mem_toList] at hk
 rcases hk with rfl|rfl|rfl|hk
 ·exact Nat.le_refl _
 ·omega
 ·omega
 ·have:=(h.ob.lt _ hk).1;omega
structure Bs (c:Kg) (vv:Value) (w:World) (b:Nat):Prop where
 lt:b<w.heap.size
 n1:b ≠ c.g
 n2:b ≠ c.mb
 n3:b ≠ c.mo
 n4:vv.ownBlock ≠ some b
theorem Bs.new {c:Kg} {w w':World} {vv:Value} {bd:List Kn.Nv} {fk:List UInt8→Option Value} {t:Nat} (h:KS c w vv bd fk t) {b:Nat} (hb:w.heap.size≤b) (hl:b<w'.heap.size):Bs c vv w' b:=
 ⟨hl,by have:=h.lt;omega,by have:=h.mb.lt;omega,by have:=h.mo.lt;omega,fun e=>by have:=(h.ob.lt _ e).2;omega⟩
theorem Bs.go {c:Kg} {vv vv':Value} {w w':World} {b:Nat} (h:Bs c vv w b) (k:Kf c vv w vv' w'):Bs c vv' w' b:=
 have hl:=h.lt
 ⟨Nat.lt_of_lt_of_le h.lt k.size,h.n1,h.n2,h.n3,fun e=>(k.nb b e).elim h.n4 (fun e=>by omega)⟩
theorem Bs.not {c:Kg} {vv:Value} {w:World} {b:Nat} (h:Bs c vv w b):b ∉ Kf.S c vv:=by
 unfold Kf.S
 simp only [List.mem_cons,not_or,Option.mem_toList]
 exact ⟨h.n1,h.n2,h.n3,h.n4⟩
theorem KS.next {c:Kg} {w:World} {vv:Value} {bd:List Kn.Nv} {fk:List UInt8→Option Value} {t:Nat} (h:KS c w vv bd fk t) (ht:t<100000):
  KS c (w.setCell ⟨c.g,4,none⟩ (.int .i64 ((t:Int)+1))) vv bd fk (t+1):=by
 have hc0:=h.c0;have hc1:=h.c1;have hc2:=h.c2;have hc3:=h.c3;have hc4:=h.c4
 have hgm:=h.gm
 have hset: ∀ b,b ≠ c.g→(w.setCell ⟨c.g,4,none⟩ (.int .i64 ((t:Int)+1))).heap[b]? =w.heap[b]? :=fun b hb=>Below.heap_setCell _ _ _ _ (fun e=>hb e)
 have nag:c.ma ≠ c.g:=fun e=>h.ma.no_cell 0 vv (by rw [e];exact h.c0)
 refine ⟨by simpa using h.lt,by simp [go_sem,hc0],by simp [go_sem,hc1],by simp [go_sem,hc2],by simp [go_sem,hc3],by simp [go_sem,hc4],?_,?_,h.mb.of_block (hset _ (by omega)),h.mo.of_block (hset _ (by omega)),h.ma.of_block (hset _ nag),h.ne,h.na,h.gm,h.lb,ht,h.sz⟩
 ·intro j;have:=h.fz j;simp [go_sem,this]
 ·exact ownsRow_setCell_below h.ob (by show c.g<c.g+1;omega) _
theorem Kf.g4 {c:Kg} {vv:Value} {w:World} (u:Value):Kf c vv w vv (w.setCell ⟨c.g,4,none⟩ u):=
 have k:=(Kp.refl [c.g] w).rb 4 u
 ⟨k.os,k.tape,k.output,k.size,fun b hb h1 _ _ _=>k.block b hb (by simpa using h1),fun _ h=> .inl h⟩
theorem SL.wh {P:Nat→Prop}: ∀ (n:Nat) {w:World} {l:List Sx.Tr} {v:Value},SL w P n l v→Kn.wh n l:=by
 intro n
 induction n with
 |zero=>intro w l v _;exact trivial
 |succ n ih=>
  intro w l v h t ht
  obtain ⟨D,at',A,B,T,N,E,body,els,uB,uL,rfl,hB,hL⟩:=h.at ht
  exact ⟨⟨D,at',A,B,T,N,E,body,els,rfl⟩,ih hB,ih hL⟩
def BlP (c:Kg) (vv:Value) (w:World) (ns bd:List Kn.Nv) (r:Kn.Rs) (e:Ending) (w':World):Prop:=match r with
 | .inl s=>e= .returned (.agg #[.int .i64 0,.int .i64 0])∧ ∃ vv',KS c w' vv' s.bd (Kn.fkn ns s.bd) s.at'∧Kf c vv w vv' w'
 | .inr f=>e= .returned (.agg #[.int .i64 f.1,.int .i64 f.2])∧f.1 ≠ 0∧ ∃ vv' z fk' t',KS c w' vv' (bd++z) fk' t'∧Kf c vv w vv' w'
def StP (c:Kg) (vv:Value) (w:World) (bd:List Kn.Nv) (r:Kn.Rs) (e:Ending) (w':World):Prop:=match r with
 | .inl s=>e= .returned (.agg #[.int .i64 0,.int .i64 0])∧ ∃ vv',KS c w' vv' s.bd (Kn.fkn s.ns s.bd) s.at'∧Kf c vv w vv' w'
 | .inr f=>e= .returned (.agg #[.int .i64 f.1,.int .i64 f.2])∧f.1 ≠ 0∧ ∃ vv' z fk' t',KS c w' vv' (bd++z) fk' t'∧Kf c vv w vv' w'
structure Rq (c:Kg) (w:World) (P:Nat→Prop) (ab:List Sx.Tr):Prop where
 st:ABv c w P ab
 gp: ∀ nm g,Kn.abv ab nm=some g→(Sx.gP g).length≤1000000
 pg: ∀ b,P b→b<c.g
theorem Rq.keep {c:Kg} {w w':World} {P:Nat→Prop} {ab:List Sx.Tr} {vv vv':Value} {bd:List Kn.Nv} {fk:List UInt8→Option Value} {t:Nat} (h:Rq c w P ab) (hs:KS c w vv bd fk t) (k:Kf c vv w vv' w'):Rq c w' P ab:=
 ⟨h.st.keep k.kp (fun b hb hp=>by have:=hs.S_ge b hb;have:=h.pg b hp;omega),h.gp,h.pg⟩
theorem Rq.kp {c:Kg} {w w':World} {P:Nat→Prop} {ab:List Sx.Tr} (h:Rq c w P ab) (k:Kp [] w w'):Rq c w' P ab:=⟨h.st.keep k (by simp),h.gp,h.pg⟩
def BlT (c:Kg) (n:Nat):Prop:= ∀ (w:World) (P:Nat→Prop) (ab l:List Sx.Tr) (a:Option Addr) (cap:Nat) (V:List Kn.Nv) (aV:Option Addr) (cV:Nat) (vv:Value) (ns bd:List Kn.Nv) (t:Nat),SL w P n l (.slice a l.length cap)→Rn.okB n l→l.length≤1000000→Rq c w P ab→VR w (.slice aV V.length cV) V→(∀ g o,aV=some ⟨g,o,none⟩→g ≠ c.g∧g ≠ c.mb∧g ≠ c.mo∧vv.ownBlock ≠ some g∧g<w.heap.size)→
 Kn.twiceP bd V=false→Kn.Tyv V→Kn.Inv ⟨ns,bd,t⟩→bd.length+V.length+2 * Kn.cs n l≤1000→t+Kn.cs n l≤100000→KS c w vv bd (Kn.fkn ns bd) t→
 Calls Tryz.prog 42 #[.pointer (some ⟨c.g,0,none⟩),.slice a l.length cap,.slice aV V.length cV] w (BlP c vv w ns bd (Kn.sts n ab ⟨ns++V,bd++V,t⟩ l))
def SmT (c:Kg) (n:Nat):Prop:= ∀ (w:World) (P:Nat→Prop) (ab:List Sx.Tr) (d at':Int) (A B T:List UInt8) (N:Int) (E body els:List Sx.Tr) (aE aB aL:Option Addr) (cE cB cL:Nat) (vv:Value) (ns bd:List Kn.Nv) (t:Nat),EL w P n E (.slice aE E.length cE)→SL w P n body (.slice aB body.length cB)→SL w P n els (.slice aL els.length cL)→Rn.Okf n d A B T N E body els→Rn.okB n body→Rn.okB n els→body.length≤1000000→els.length≤1000000→Rq c w P ab→
 Kn.Inv ⟨ns,bd,t⟩→bd.length+2 * (1+Kn.cs n body+Kn.cs n els)≤1000→t+(1+Kn.cs n body+Kn.cs n els)≤100000→KS c w vv bd (Kn.fkn ns bd) t→
 Calls Tryz.prog 73 #[.pointer (some ⟨c.g,0,none⟩),.agg #[.int .i64 d,.int .i64 at',.string (bs A),.string (bs B),.string (bs T),.int .i64 N,.slice aE E.length cE,.slice aB body.length cB,.slice aL els.length cL]] w (StP c vv w bd (Kn.one n ab (Kn.sts n ab) ⟨ns,bd,t⟩ (Sx.tS d at' A B T N E body els)))
end Go.Proofs.YtcdcoiobpbdmpaaGreatDoor
