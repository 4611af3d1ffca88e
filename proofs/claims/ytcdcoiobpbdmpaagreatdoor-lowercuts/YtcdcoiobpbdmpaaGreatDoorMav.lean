import Derived.Test.YtcdcoiobpbdmpaaGreatDoorMae
import Derived.Maps.OwnSet
import Derived.WideKeyEntry
namespace Go.Proofs.YtcdcoiobpbdmpaaGreatDoor
open Go.RowKit Go.Maps Go.ChangeMaps
theorem Tryz.keyedS:Keyed Tryz.prog 9:=string_keyed Tryz.underlying9
theorem Tryz.lawS:WideMaps.KeyLaw Tryz.prog 9:=WideMaps.string_law Tryz.underlying9
def heldE (v:Value):Option (DataW Value × List MemPlace):=some (.held v,[])
def MV (w:World) (b m:Nat) (f:List UInt8→Option Value):Prop:=
 ∃ D:DataW Value,w.ownsMap Tryz.prog 9 heldE b m D∧ ∀ nm:List UInt8,Maps.has D (.string nm)=(f nm).isSome∧ ∀ v,f nm=some v→ ∀ z,D.atKey (.string nm) z= .held v
theorem MV.of_block {w w':World} {b m:Nat} {f:List UInt8→Option Value} (h:MV w b m f) (e:w'.heap[b]? =w.heap[b]?):MV w' b m f:=by
 obtain ⟨D,⟨es,cl,h1,h2⟩,hv⟩:=h
 exact ⟨D,⟨es,cl,e.trans h1,h2⟩,hv⟩
theorem MV.lt {w:World} {b m:Nat} {f:List UInt8→Option Value} (h:MV w b m f):b<w.heap.size:=by
 obtain ⟨D,ho,_⟩:=h
 exact ho.lt
theorem MV.made (w:World):MV (w.alloc (.map #[] 0)) w.heap.size 0 (fun _=>none):=
 ⟨.map [],World.ownsMap_made w _ _ _,fun nm=>⟨rfl,fun v h=>by cases h⟩⟩
theorem MV.no_cell {w:World} {b m:Nat} {f:List UInt8→Option Value} (h:MV w b m f) (k:Nat) (v:Value):w.cell? ⟨b,k,none⟩ ≠ some v:=by
 obtain ⟨D,⟨es,cl,h1,_⟩,_⟩:=h
 intro e
 simp [World.cell?,h1] at e
theorem keyS (nm:List UInt8) (hl:nm.length≤1000000):keyOf Tryz.prog 9 (.string (bs nm))=some (.string nm):=by
 have:=WideMaps.keyOf_string_mk (P:=Tryz.prog) (s:=bs nm) Tryz.underlying9 (by rw [bsz];unfold maxLen;omega)
 rw [this]
 rfl
theorem MV.at {f:List UInt8→Option Value} {D:DataW Value} (hv: ∀ nm:List UInt8,Maps.has D (.string nm)=(f nm).isSome∧ ∀ v,f nm=some v→ ∀ z,D.atKey (.string nm) z= .held v) (nm:List UInt8) (z:Value):D.atKey (.string nm) (.held z)= .held ((f nm).getD z):=by
 cases hf:f nm with
 |some v=>exact (hv nm).2 v hf _
 |none=>
  have h0:=(hv nm).1
  rw [hf] at h0
  exact atKey_of_not_has h0 _
theorem MV.look {w:World} {b m:Nat} {f:List UInt8→Option Value} (h:MV w b m f) (nm:List UInt8) (hl:nm.length≤1000000) {t e:TypeId} (ht:Tryz.prog.underlying t=some (.map 9 e)) {z:Value} (hz:(zeroValue e).run Tryz.prog w= .ok z w):
  (Instr.lookup t (.map (some b)) (.string (bs nm)) true).run Tryz.prog w= .ok (.tuple #[(f nm).getD z,.bool (f nm).isSome]) w:=by
 obtain ⟨D,ho,hv⟩:=h
 obtain ⟨v,ps,hrun,hR⟩:=ho.look_ok Tryz.keyedS ht hz (zd:= .held z) (zp:=[]) rfl (keyS nm hl)
 have e1:=MV.at hv nm z
 rw [e1] at hR
 simp only [heldE,Option.some.injEq,Prod.mk.injEq,DataW.held.injEq] at hR
 rw [hrun,hR.1,(hv nm).1]
theorem MV.look0 {w:World} {b m:Nat} {f:List UInt8→Option Value} (h:MV w b m f) (nm:List UInt8) (hl:nm.length≤1000000) {t e:TypeId} (ht:Tryz.prog.underlying t=some (.map 9 e)) {z:Value} (hz:(zeroValue e).run Tryz.prog w= .ok z w):
  (Instr.lookup t (.map (some b)) (.string (bs nm)) false).run Tryz.prog w= .ok ((f nm).getD z) w:=by
 obtain ⟨D,ho,hv⟩:=h
 obtain ⟨v,ps,hrun,hR⟩:=ho.lookup Tryz.keyedS ht hz (zd:= .held z) (zp:=[]) rfl (keyS nm hl)
 have e1:=MV.at hv nm z
 rw [e1] at hR
 simp only [heldE,Option.some.injEq,Prod.mk.injEq,DataW.held.injEq] at hR
 rw [hrun,hR.1]
def upd (f:List UInt8→Option Value) (nm:List UInt8) (v:Value):List UInt8→Option Value:=fun x=>if x=nm then some v else f x
def del (f:List UInt8→Option Value) (nm:List UInt8):List UInt8→Option Value:=fun x=>if x=nm then none else f x
theorem isKeyS (nm:List UInt8):WideAt.IsKeyLit (.string nm):=by simp [WideAt.IsKeyLit]
theorem lit_ne {a b:List UInt8} (h:a ≠ b):Lit.string a ≠ Lit.string b:=fun e=>h (by injection e)
theorem MV.view_upd {f:List UInt8→Option Value} {D:DataW Value} (hD:IsMap D) (hv: ∀ nm:List UInt8,Maps.has D (.string nm)=(f nm).isSome∧ ∀ v,f nm=some v→ ∀ z,D.atKey (.string nm) z= .held v) (x:List UInt8) (u:Value):
  ∀ nm:List UInt8,Maps.has (D.put (.string x) (.held u)) (.string nm)=(upd f x u nm).isSome∧ ∀ v,upd f x u nm=some v→ ∀ z,(D.put (.string x) (.held u)).atKey (.string nm) z= .held v:=by
 intro nm
 by_cases h:nm=x
 ·subst h
  refine ⟨by rw [has_put_same hD (isKeyS _)];simp [upd],fun v hv z=> ?_⟩
  simp only [upd,if_true,Option.some.injEq] at hv
  subst hv
  exact atKey_put_same hD (isKeyS _) _ _
 ·have e:upd f x u nm=f nm:=if_neg h
  rw [e,has_put_other (lit_ne h)]
  refine ⟨(hv nm).1,fun v hf z=> ?_⟩
  rw [atKey_put_other (lit_ne h)]
  exact (hv nm).2 v hf z
theorem MV.view_del {f:List UInt8→Option Value} {D:DataW Value} (hv: ∀ nm:List UInt8,Maps.has D (.string nm)=(f nm).isSome∧ ∀ v,f nm=some v→ ∀ z,D.atKey (.string nm) z= .held v) (x:List UInt8):
  ∀ nm:List UInt8,Maps.has (D.del (.string x)) (.string nm)=(del f x nm).isSome∧ ∀ v,del f x nm=some v→ ∀ z,(D.del (.string x)).atKey (.string nm) z= .held v:=by
 intro nm
 by_cases h:nm=x
 ·subst h
  refine ⟨by rw [has_del_same];simp [del],fun v hv z=> ?_⟩
  simp [del] at hv
 ·have e:del f x nm=f nm:=if_neg h
  rw [e,has_del_other (lit_ne h)]
  refine ⟨(hv nm).1,fun v hf z=> ?_⟩
  rw [atKey_del_other (lit_ne h)]
  exact (hv nm).2 v hf z
theorem MV.store {w:World} {b m:Nat} {f:List UInt8→Option Value} (h:MV w b m f) (nm:List UInt8) (hl:nm.length≤1000000) (u:Value) (hm:m≤1000000) {t e:TypeId} (ht:Tryz.prog.underlying t=some (.map 9 e)):
  ∃ o,(Instr.mapUpdate t (.map (some b)) (.string (bs nm)) u).run Tryz.prog w= .ok () (setBlock w b o)∧MV (setBlock w b o) b (m+1) (upd f nm u):=by
 obtain ⟨D,ho,hv⟩:=h
 obtain ⟨w',hrun,h1,es,cl,es',cl',-,rfl⟩:=ho.store Tryz.keyedS ht (by unfold maxLen;omega) (keyS nm hl) (val:=u) (d:= .held u) (ps:=[]) rfl
 exact ⟨_,hrun,_,h1,MV.view_upd ho.isMap hv nm u⟩
theorem MV.drop {w:World} {b m:Nat} {f:List UInt8→Option Value} (h:MV w b m f) (nm:List UInt8) (hl:nm.length≤1000000) {t e:TypeId} (ht:Tryz.prog.underlying t=some (.map 9 e)) (ty:TypeId):
  ∃ o,(Builtin.delete_ #[t,9] ty #[.map (some b),.string (bs nm)]).run Tryz.prog w= .ok (.tuple #[]) (setBlock w b o)∧MV (setBlock w b o) b m (del f nm):=by
 obtain ⟨D,ho,hv⟩:=h
 obtain ⟨w',hrun,h1,es,cl,es',cl',-,rfl⟩:=ho.drop Tryz.keyedS ht (keyS nm hl) ty
 exact ⟨_,hrun,_,h1,MV.view_del hv nm⟩
theorem MV.entry {w:World} {b m:Nat} {f:List UInt8→Option Value} (h:MV w b m f) (nm:List UInt8) (hl:nm.length≤1000000) (hm:m≤1000000) {t e:TypeId} (ht:Tryz.prog.underlying t=some (.map 9 e)) {z:Value} (hz: ∀ u:World,(zeroValue e).run Tryz.prog u= .ok z u):
  ∃ (v0:Value) (st:Nat) (o:Obj),(Instr.mapEntry t (.map (some b)) (.string (bs nm))).run Tryz.prog w= .ok (.tuple #[v0,goInt st]) (setBlock w b o)∧
    ∀ (u:Value) (w2:World),w2.heap[b]? =some o→ ∃ o',(Instr.entryStore t (.map (some b)) (goInt st) u).run Tryz.prog w2= .ok () (setBlock w2 b o')∧MV (setBlock w2 b o') b (m+1) (upd f nm u):=by
 have h':=h
 obtain ⟨D,⟨es,cl,hb,F,-,rfl⟩,-⟩:=h'
 obtain ⟨v0,st,es1,cl1,hrun,-,hst⟩:=WideElems.entry_then_store Tryz.lawS ht hz hb F (keyS nm hl)
 refine ⟨v0,st,.map es1 cl1,hrun,fun u w2 hw2=> ?_⟩
 obtain ⟨es',cl',h1,h2⟩:=hst w2 u hw2
 refine ⟨_,h1,?_⟩
 obtain ⟨o,h3,h4⟩:=h.store nm hl u hm ht
 rw [h2] at h3
 injection h3 with _ h3
 rw [←h3] at h4
 refine h4.of_block ?_
 rw [heap_setBlock_same hw2,heap_setBlock_same hb]
theorem Tryz.zeroInt (w:World):(zeroValue 3).run Tryz.prog w= .ok (.int .i64 0) w:=by kernel_rfl
namespace Kn
def ix:List Nv→List UInt8→Option Nat
 |[],_=>none
 |v::r,nm=>if v.1=nm then some 0 else (ix r nm).map (· +1)
theorem ix_isIn (bd:List Nv) (nm:List UInt8):(ix bd nm).isSome=isIn bd nm:=by
 induction bd with
 |nil=>rfl
 |cons v r ih=>
  unfold ix isIn
  rw [List.any_cons]
  by_cases h:v.1=nm
  ·rw [if_pos h];simp [h]
  ·rw [if_neg h,Option.isSome_map,ih]
   simp [h,isIn]
theorem ix_some {bd:List Nv} {nm:List UInt8} {k:Nat} (h:ix bd nm=some k): ∃ v,bd[k]? =some v∧v.1=nm:=by
 induction bd generalizing k with
 |nil=>cases h
 |cons v r ih=>
  unfold ix at h
  split at h
  ·rename_i e;cases h;exact ⟨v,rfl,e⟩
  ·cases hr:ix r nm with
   |none=>rw [hr] at h;cases h
   |some j=>
    rw [hr] at h
    simp only [Option.map_some,Option.some.injEq] at h
    subst h
    exact ih hr
theorem isIn_iff {bd:List Nv} {nm:List UInt8}:isIn bd nm=true ↔ ∃ v,v ∈ bd∧v.1=nm:=by
 unfold isIn
 rw [List.any_eq_true]
 exact ⟨fun ⟨v,h1,h2⟩=>⟨v,h1,by simpa using h2⟩,fun ⟨v,h1,h2⟩=>⟨v,h1,by simpa using h2⟩⟩
theorem ix_snoc {bd:List Nv} (v:Nv) (h:isIn bd v.1=false) (nm:List UInt8):ix (bd++[v]) nm=if nm=v.1 then some bd.length else ix bd nm:=by
 induction bd with
 |nil=>
  show (if v.1=nm then some 0 else none)=_
  by_cases e:nm=v.1
  ·rw [if_pos e,if_pos e.symm];rfl
  ·rw [if_neg e,if_neg (fun h=>e h.symm)];rfl
 |cons u r ih=>
  have hu:u.1 ≠ v.1∧isIn r v.1=false:=by
   unfold isIn at h
   rw [List.any_cons,Bool.or_eq_false_iff] at h
   exact ⟨by simpa using h.1,h.2⟩
  show (if u.1=nm then some 0 else (ix (r++[v]) nm).map (· +1))=_
  rw [ih hu.2]
  show _=if nm=v.1 then _ else (if u.1=nm then some 0 else (ix r nm).map (· +1))
  by_cases e:nm=v.1
  ·rw [if_pos e,if_pos e,if_neg (fun h=>hu.1 (h.trans e))];simp
  ·rw [if_neg e,if_neg e]
def Nd:List Nv→Prop
 |[]=>True
 |v::r=>isIn r v.1=false∧Nd r
theorem Nd.same {bd:List Nv} (h:Nd bd) {u v:Nv} (hu:u ∈ bd) (hv:v ∈ bd) (e:u.1=v.1):u=v:=by
 induction bd with
 |nil=>cases hu
 |cons x r ih=>
  have key: ∀ y,y ∈ r→y.1 ≠ x.1:=fun y hy he=>by
   have:=h.1
   rw [isIn_iff.2 ⟨y,hy,he⟩] at this
   cases this
  rcases List.mem_cons.1 hu with h1|h1
  ·rcases List.mem_cons.1 hv with h2|h2
   ·rw [h1,h2]
   ·rw [h1] at e;exact absurd e.symm (key v h2)
  ·rcases List.mem_cons.1 hv with h2|h2
   ·rw [h2] at e;exact absurd e (key u h1)
   ·exact ih h.2 h1 h2
theorem Nd.snoc {bd:List Nv} (h:Nd bd) {v:Nv} (hv:isIn bd v.1=false):Nd (bd++[v]):=by
 induction bd with
 |nil=>exact ⟨rfl,trivial⟩
 |cons x r ih=>
  have hx:x.1 ≠ v.1∧isIn r v.1=false:=by
   unfold isIn at hv
   rw [List.any_cons,Bool.or_eq_false_iff] at hv
   exact ⟨by simpa using hv.1,hv.2⟩
  refine ⟨?_,ih h.2 hx.2⟩
  have h1:=h.1
  unfold isIn at h1 ⊢
  show ((r++[v]).any fun v=>v.1 == x.1)=false
  rw [List.any_append,h1]
  simpa using fun e=>hx.1 e.symm
theorem typ_mem {ns:List Nv} {nm:List UInt8} (h:isIn ns nm=true): ∃ v,v ∈ ns∧v.1=nm∧typ ns nm=v.2:=by
 induction ns with
 |nil=>cases h
 |cons x r ih=>
  unfold typ
  by_cases e:x.1=nm
  ·rw [if_pos e];exact ⟨x,List.mem_cons_self,e,rfl⟩
  ·rw [if_neg e]
   have:isIn r nm=true:=by
    unfold isIn at h ⊢
    rw [List.any_cons] at h
    simpa [e] using h
   obtain ⟨v,h1,h2,h3⟩:=ih this
   exact ⟨v,List.mem_cons_of_mem _ h1,h2,h3⟩
theorem typ_not {ns:List Nv} {nm:List UInt8} (h:isIn ns nm=false):typ ns nm=[]:=by
 induction ns with
 |nil=>rfl
 |cons x r ih=>
  unfold isIn at h
  rw [List.any_cons,Bool.or_eq_false_iff] at h
  unfold typ
  rw [if_neg (by simpa using h.1)]
  exact ih h.2
def fb (bd:List Nv) (nm:List UInt8):Option Value:=(ix bd nm).map fun k=> .int .i64 k
def fkn (ns bd:List Nv) (nm:List UInt8):Option Value:=if isIn ns nm then fb bd nm else none
structure Sb (ns bd:List Nv):Prop where
 nd:Nd bd
 sub: ∀ v,v ∈ ns→v ∈ bd
theorem Sb.at {ns bd:List Nv} (h:Sb ns bd) {nm:List UInt8} (hn:isIn ns nm=true): ∃ k,fkn ns bd nm=some (.int .i64 (k:Nat))∧bd[k]? =some (nm,typ ns nm):=by
 obtain ⟨v,h1,h2,h3⟩:=typ_mem hn
 have hb:isIn bd nm=true:=isIn_iff.2 ⟨v,h.sub v h1,h2⟩
 rw [←ix_isIn] at hb
 obtain ⟨k,hk⟩:=Option.isSome_iff_exists.1 hb
 obtain ⟨u,hu,hu1⟩:=ix_some hk
 have:u=v:=h.nd.same (List.mem_of_getElem? hu) (h.sub v h1) (by rw [hu1,h2])
 subst this
 refine ⟨k,by unfold fkn fb;rw [hn,hk];rfl,?_⟩
 rw [hu,h3,←h2]
end Kn
structure Kg where
 g:Nat
 mb:Nat
 mo:Nat
 ma:Nat
 na:Nat
 fa:List UInt8→Option Value
structure KS (c:Kg) (w:World) (vv:Value) (bd:List Kn.Nv) (fk:List UInt8→Option Value) (t:Nat):Prop where
 lt:c.g<w.heap.size
 c0:w.cell? ⟨c.g,0,none⟩=some vv
 c1:w.cell? ⟨c.g,1,none⟩=some (.map (some c.mb))
 c2:w.cell? ⟨c.g,2,none⟩=some (.map (some c.mo))
 c3:w.cell? ⟨c.g,3,none⟩=some (.map (some c.ma))
 c4:w.cell? ⟨c.g,4,none⟩=some (.int .i64 t)
 fz: ∀ k,w.frozen? ⟨c.g,k,none⟩=false
 ob:w.ownsRow (c.g+1) 98 2 vv bd.length (vcells bd)
 mb:MV w c.mb bd.length (Kn.fb bd)
 mo:MV w c.mo bd.length fk
 ma:MV w c.ma c.na c.fa
 ne:c.mb ≠ c.mo
 na:c.ma ≠ c.mb∧c.ma ≠ c.mo
 gm:c.g<c.mb∧c.g<c.mo
 lb:bd.length≤1000
 lat:t≤100000
 sz: ∀ v,v ∈ bd→v.1.length≤1000000∧v.2.length≤1000000
theorem KS.keep {c:Kg} {w w':World} {S:List Nat} {vv:Value} {bd:List Kn.Nv} {fk:List UInt8→Option Value} {t:Nat} (h:KS c w vv bd fk t) (hk:Kp S w w') (hS: ∀ b,b ∈ S→w.heap.size≤b):KS c w' vv bd fk t:=
 have hno: ∀ b,b<w.heap.size→b ∉ S:=fun b hb hm=>by have:=hS _ hm;omega
 have hg:=hno _ h.lt
 ⟨Nat.lt_of_lt_of_le h.lt hk.size,hk.some h.c0 hg,hk.some h.c1 hg,hk.some h.c2 hg,hk.some h.c3 hg,hk.some h.c4 hg,fun k=>(hk.frozen (p:=⟨c.g,k,none⟩) h.lt hg).trans (h.fz k),own_keepv h.ob (fun b hb=>hk.block b (h.ob.lt b hb).2 (hno _ (h.ob.lt b hb).2)),h.mb.of_block (hk.block _ h.mb.lt (hno _ h.mb.lt)),h.mo.of_block (hk.block _ h.mo.lt (hno _ h.mo.lt)),h.ma.of_block (hk.block _ h.ma.lt (hno _ h.ma.lt)),h.ne,h.na,h.gm,h.lb,h.lat,h.sz⟩
theorem KS.kp {c:Kg} {w w':World} {vv:Value} {bd:List Kn.Nv} {fk:List UInt8→Option Value} {t:Nat} (h:KS c w vv bd fk t) (hk:Kp [] w w'):KS c w' vv bd fk t:=h.keep hk (by simp)
set_option maxRecDepth 100000 in
set_option maxHeartbeats 1000000 in
theorem kTypeOf_any (c:Kg) (w:World) (vv:Value) (bd ns:List Kn.Nv) (t:Nat) (nm:List UInt8) (h:KS c w vv bd (Kn.fkn ns bd) t) (hs:Kn.Sb ns bd) (hl:nm.length≤1000000):
  Calls Tryz.prog 133 #[.pointer (some ⟨c.g,0,none⟩),.string (bs nm)] w fun e w'=>e= .returned (.string (bs (Kn.typ ns nm)))∧Kp [] w w':=by
 have c2:=h.c2
 have c0:=h.c0
 have HL:=h.mo.look nm hl Tryz.underlying79 (Tryz.zeroInt w)
 cases hi:Kn.isIn ns nm with
 |false=>
  have e1:Kn.fkn ns bd nm=none:=by unfold Kn.fkn;rw [hi];rfl
  rw [e1] at HL
  rw [Kn.typ_not hi]
  clear h hs
  go_enter Tryz.func133,Tryz.ntmps133
  go_wp2
  go_ret
  exact ⟨rfl,Kp.refl _ _⟩
 |true=>
  obtain ⟨k,e1,e2⟩:=hs.at hi
  rw [e1] at HL
  obtain ⟨a,cap,rfl,hc⟩:=vr_own h.ob
  obtain ⟨b,o,rfl,hd⟩:=hc (fun e=>by rw [e] at e2;cases e2)
  obtain ⟨x1,x2⟩:=hd k _ e2
  have hk:k<bd.length:=(List.getElem?_eq_some_iff.1 e2).1
  have hk0:(0:Int)≤(k:Int):=by omega
  have hk1:(k:Int)<(bd.length:Int):=by omega
  clear h hs hc hd e1 e2
  go_enter Tryz.func133,Tryz.ntmps133
  go_wp2
  go_ret
  exact ⟨rfl,Kp.refl _ _⟩
end Go.Proofs.YtcdcoiobpbdmpaaGreatDoor
