import Derived.Test.YtbhhkaobkdeolaaGreatDoorMae
import Derived.Test.YtbhhkaobkdeolaaGreatDoorMbb
namespace Go.Proofs.YtbhhkaobkdeolaaGreatDoor
open Go.RowKit Go.Maps Go.ChangeMaps
theorem Tryz.zeroInt (w:World):(zeroValue 3).run Tryz.prog w= .ok (.int .i64 0) w:=by kernel_rfl
namespace Kn
def ix:List Nv→List UInt8→Option Nat
 |[],_=>none
 |v::r,nm=>if v.1=nm then some 0 else (ix r nm).map (· +1)
theorem ix_isIn (bd:List Nv) (nm:List UInt8):(ix bd nm).isSome=isIn bd nm:=by
 induction bd with
 |nil=>rfl
 |cons v r ih=>
  unfold ix isIn
  rw [List.any_cons]
  by_cases h:v.1=nm
  ·rw [if_pos h];simp [h]
  ·rw [if_neg h,Option.isSome_map,ih]
   simp [h,isIn]
theorem ix_some {bd:List Nv} {nm:List UInt8} {k:Nat} (h:ix bd nm=some k): ∃ v,bd[k]? =some v∧v.1=nm:=by
 induction bd generalizing k with
 |nil=>cases h
 |cons v r ih=>
  unfold ix at h
  split at h
  ·rename_i e;cases h;exact ⟨v,rfl,e⟩
  ·cases hr:ix r nm with
   |none=>rw [hr] at h;cases h
   |some j=>
    rw [hr] at h
    simp only [Option.map_some,Option.some.injEq] at h
    subst h
    exact ih hr
theorem isIn_iff {bd:List Nv} {nm:List UInt8}:isIn bd nm=true ↔ ∃ v,v ∈ bd∧v.1=nm:=by
 unfold isIn
 rw [List.any_eq_true]
 exact ⟨fun ⟨v,h1,h2⟩=>⟨v,h1,by simpa using h2⟩,fun ⟨v,h1,h2⟩=>⟨v,h1,by simpa using h2⟩⟩
theorem ix_snoc {bd:List Nv} (v:Nv) (h:isIn bd v.1=false) (nm:List UInt8):ix (bd++[v]) nm=if nm=v.1 then some bd.length else ix bd nm:=by
 induction bd with
 |nil=>
  show (if v.1=nm then some 0 else none)=_
  by_cases e:nm=v.1
  ·rw [if_pos e,if_pos e.symm];rfl
  ·rw [if_neg e,if_neg (fun h=>e h.symm)];rfl
 |cons u r ih=>
  have hu:u.1 ≠ v.1∧isIn r v.1=false:=by
   unfold isIn at h
   rw [List.any_cons,Bool.or_eq_false_iff] at h
   exact ⟨by simpa using h.1,h.2⟩
  show (if u.1=nm then some 0 else (ix (r++[v]) nm).map (· +1))=_
  rw [ih hu.2]
  show _=if nm=v.1 then _ else (if u.1=nm then some 0 else (ix r nm).map (· +1))
  by_cases e:nm=v.1
  ·rw [if_pos e,if_pos e,if_neg (fun h=>hu.1 (h.trans e))];simp
  ·rw [if_neg e,if_neg e]
def Nd:List Nv→Prop
 |[]=>True
 |v::r=>isIn r v.1=false∧Nd r
theorem Nd.same {bd:List Nv} (h:Nd bd) {u v:Nv} (hu:u ∈ bd) (hv:v ∈ bd) (e:u.1=v.1):u=v:=by
 induction bd with
 |nil=>cases hu
 |cons x r ih=>
  have key: ∀ y,y ∈ r→y.1 ≠ x.1:=fun y hy he=>by
   have:=h.1
   rw [isIn_iff.2 ⟨y,hy,he⟩] at this
   cases this
  rcases List.mem_cons.1 hu with h1|h1
  ·rcases List.mem_cons.1 hv with h2|h2
   ·rw [h1,h2]
   ·rw [h1] at e;exact absurd e.symm (key v h2)
  ·rcases List.mem_cons.1 hv with h2|h2
   ·rw [h2] at e;exact absurd e (key u h1)
   ·exact ih h.2 h1 h2
theorem typ_mem {ns:List Nv} {nm:List UInt8} (h:isIn ns nm=true): ∃ v,v ∈ ns∧v.1=nm∧typ ns nm=v.2:=by
 induction ns with
 |nil=>cases h
 |cons x r ih=>
  unfold typ
  by_cases e:x.1=nm
  ·rw [if_pos e];exact ⟨x,List.mem_cons_self,e,rfl⟩
  ·rw [if_neg e]
   have:isIn r nm=true:=by
    unfold isIn at h ⊢
    rw [List.any_cons] at h
    simpa [e] using h
   obtain ⟨v,h1,h2,h3⟩:=ih this
   exact ⟨v,List.mem_cons_of_mem _ h1,h2,h3⟩
theorem typ_not {ns:List Nv} {nm:List UInt8} (h:isIn ns nm=false):typ ns nm=[]:=by
 induction ns with
 |nil=>rfl
 |cons x r ih=>
  unfold isIn at h
  rw [List.any_cons,Bool.or_eq_false_iff] at h
  unfold typ
  rw [if_neg (by simpa using h.1)]
  exact ih h.2
def fb (bd:List Nv) (nm:List UInt8):Option Value:=(ix bd nm).map fun k=> .int .i64 k
def fkn (ns bd:List Nv) (nm:List UInt8):Option Value:=if isIn ns nm then fb bd nm else none
structure Sb (ns bd:List Nv):Prop where
 nd:Nd bd
 sub: ∀ v,v ∈ ns→v ∈ bd
theorem Sb.at {ns bd:List Nv} (h:Sb ns bd) {nm:List UInt8} (hn:isIn ns nm=true): ∃ k,fkn ns bd nm=some (.int .i64 (k:Nat))∧bd[k]? =some (nm,typ ns nm):=by
 obtain ⟨v,h1,h2,h3⟩:=typ_mem hn
 have hb:isIn bd nm=true:=isIn_iff.2 ⟨v,h.sub v h1,h2⟩
 rw [←ix_isIn] at hb
 obtain ⟨k,hk⟩:=Option.isSome_iff_exists.1 hb
 obtain ⟨u,hu,hu1⟩:=ix_some hk
 have:u=v:=h.nd.same (List.mem_of_getElem? hu) (h.sub v h1) (by rw [hu1,h2])
 subst this
 refine ⟨k,by unfold fkn fb;rw [hn,hk];rfl,?_⟩
 rw [hu,h3,←h2]
end Kn
structure Kg where
 g:Nat
 mb:Nat
 mo:Nat
 ma:Nat
 na:Nat
 fa:List UInt8→Option Value
structure KS (c:Kg) (w:World) (vv:Value) (bd:List Kn.Nv) (fk:List UInt8→Option Value) (t:Nat):Prop where
 lt:c.g<w.heap.size
 c0:w.cell? ⟨c.g,0,none⟩=some vv
 c1:w.cell? ⟨c.g,1,none⟩=some (.map (some c.mb))
 c2:w.cell? ⟨c.g,2,none⟩=some (.map (some c.mo))
 c3:w.cell? ⟨c.g,3,none⟩=some (.map (some c.ma))
 c4:w.cell? ⟨c.g,4,none⟩=some (.int .i64 t)
 fz: ∀ k,w.frozen? ⟨c.g,k,none⟩=false
 ob:w.ownsRow (c.g+1) 57 2 vv bd.length (vcells bd)
 mb:MV w c.mb bd.length (Kn.fb bd)
 mo:MV w c.mo bd.length fk
 ma:MV w c.ma c.na c.fa
 ne:c.mb ≠ c.mo
 na:c.ma ≠ c.mb∧c.ma ≠ c.mo
 gm:c.g<c.mb∧c.g<c.mo
 lb:bd.length≤1000
 lat:t≤100000
 sz: ∀ v,v ∈ bd→v.1.length≤1000000∧v.2.length≤1000000
theorem KS.keep {c:Kg} {w w':World} {S:List Nat} {vv:Value} {bd:List Kn.Nv} {fk:List UInt8→Option Value} {t:Nat} (h:KS c w vv bd fk t) (hk:Kp S w w') (hS: ∀ b,b ∈ S→w.heap.size≤b):KS c w' vv bd fk t:=
 have hno: ∀ b,b<w.heap.size→b ∉ S:=fun b hb hm=>by have:=hS _ hm;omega
 have hg:=hno _ h.lt
 ⟨Nat.lt_of_lt_of_le h.lt hk.size,hk.some h.c0 hg,hk.some h.c1 hg,hk.some h.c2 hg,hk.some h.c3 hg,hk.some h.c4 hg,fun k=>(hk.frozen (p:=⟨c.g,k,none⟩) h.lt hg).trans (h.fz k),own_keepv h.ob (fun b hb=>hk.block b (h.ob.lt b hb).2 (hno _ (h.ob.lt b hb).2)),h.mb.of_block (hk.block _ h.mb.lt (hno _ h.mb.lt)),h.mo.of_block (hk.block _ h.mo.lt (hno _ h.mo.lt)),h.ma.of_block (hk.block _ h.ma.lt (hno _ h.ma.lt)),h.ne,h.na,h.gm,h.lb,h.lat,h.sz⟩
theorem KS.kp {c:Kg} {w w':World} {vv:Value} {bd:List Kn.Nv} {fk:List UInt8→Option Value} {t:Nat} (h:KS c w vv bd fk t) (hk:Kp [] w w'):KS c w' vv bd fk t:=h.keep hk (by simp)
set_option maxRecDepth 100000 in
set_option maxHeartbeats 1000000 in
theorem kTypeOf_any (c:Kg) (w:World) (vv:Value) (bd ns:List Kn.Nv) (t:Nat) (nm:List UInt8) (h:KS c w vv bd (Kn.fkn ns bd) t) (hs:Kn.Sb ns bd) (hl:nm.length≤1000000):
  Calls Tryz.prog 148 #[.pointer (some ⟨c.g,0,none⟩),.string (bs nm)] w fun e w'=>e= .returned (.string (bs (Kn.typ ns nm)))∧Kp [] w w':=by
 have c2:=h.c2
 have c0:=h.c0
 have HL:=h.mo.look nm hl Tryz.underlying91 (Tryz.zeroInt w)
 cases hi:Kn.isIn ns nm with
 |false=>
  have e1:Kn.fkn ns bd nm=none:=by unfold Kn.fkn;rw [hi];rfl
  rw [e1] at HL
  rw [Kn.typ_not hi]
  clear h hs
  go_enter Tryz.func148,Tryz.ntmps148
  go_wp2
  go_ret
  exact ⟨rfl,Kp.refl _ _⟩
 |true=>
  obtain ⟨k,e1,e2⟩:=hs.at hi
  rw [e1] at HL
  obtain ⟨a,cap,rfl,hc⟩:=vr_own h.ob
  obtain ⟨b,o,rfl,hd⟩:=hc (fun e=>by rw [e] at e2;cases e2)
  obtain ⟨x1,x2⟩:=hd k _ e2
  have hk:k<bd.length:=(List.getElem?_eq_some_iff.1 e2).1
  have hk0:(0:Int)≤(k:Int):=by omega
  have hk1:(k:Int)<(bd.length:Int):=by omega
  clear h hs hc hd e1 e2
  go_enter Tryz.func148,Tryz.ntmps148
  go_wp2
  go_ret
  exact ⟨rfl,Kp.refl _ _⟩
end Go.Proofs.YtbhhkaobkdeolaaGreatDoor
namespace Go.Proofs.YtbhhkaobkdeolaaGreatDoor
open Go.RowKit Go.Maps Go.ChangeMaps
theorem kExprCodeC_any (x:Nat) (a b:List UInt8) (w:World) (h:w.cell? ⟨x,0,none⟩=some (.string (bs b))):
  Calls Tryz.prog 172 #[.string (bs a),.pointer (some ⟨x,0,none⟩)] w fun e w'=>e= .returned (.bool (decide (a=b)))∧Kp [] w w':=by
 have q:((bs a).toList == (bs b).toList)=decide (a=b):=by rw [bsl,bsl];by_cases e:a=b<;> simp [e]
 go_enter Tryz.func172,Tryz.ntmps172
 go_wp2
 go_ret
 exact ⟨by first|rfl|rw [q],Kp.refl _ _⟩
theorem pre_one (a:List UInt8) (b:UInt8):Lib.hasPrefix (bs a).data.toList (bs [b]).data.toList=decide (a.head? =some b):=by
 show Lib.hasPrefix a [b]=_
 unfold Lib.hasPrefix
 cases a with
 |nil=>rfl
 |cons x r=>
  show (b == x && true)=_
  by_cases e:b=x
  ·subst e;simp
  ·have e':x ≠ b:=fun h=>e h.symm
   simp [e,e']
theorem kUsedCodeD_any (x:Nat) (a:List UInt8) (b:UInt8) (w:World) (h:w.cell? ⟨x,0,none⟩=some (.string (bs [b]))):
  Calls Tryz.prog 169 #[.string (bs a),.pointer (some ⟨x,0,none⟩)] w fun e w'=>e= .returned (.bool (decide (a.head? =some b)))∧Kp [] w w':=by
 have HP:=hide (fun w=>hasPrefix_any (bs a) (bs [b]) w)
 rw [pre_one] at HP
 go_enter Tryz.func169,Tryz.ntmps169
 go_wp2_with fail
 refine (HP.out _).mono ?_
 rintro e w1 ⟨rfl,rfl⟩
 go_wp2
 go_ret
 exact ⟨rfl,Kp.refl _ _⟩
namespace Kn
def tc (ns:List Nv) (nm t:List UInt8):Int:=if typ ns nm=[] then 10 else if typ ns nm ≠ t then 11 else 0
def exc:Nat→List Nv→Sx.Tr→List UInt8→Int
 |0,_,_,_=>0
 |n+1,ns,d,t=>if (Sx.eH d).1=2 then tc ns (Sx.eH d).2.1 t else if t ≠ [105] then 11 else Rn.firstOf (fun x=>exc n ns x [105]) (Sx.eL d)
end Kn
set_option maxRecDepth 100000 in
set_option maxHeartbeats 1000000 in
theorem kCode_eq (c:Kg) (w:World) (vv:Value) (bd ns:List Kn.Nv) (t:Nat) (nm ty:List UInt8) (x:Nat) (h:KS c w vv bd (Kn.fkn ns bd) t) (hs:Kn.Sb ns bd) (hl:nm.length≤1000000) (hx:w.cell? ⟨x,0,none⟩=some (.string (bs ty))):
  Calls Tryz.prog 170 #[.pointer (some ⟨c.g,0,none⟩),.string (bs nm),.func (.func 172) #[] #[.pointer (some ⟨x,0,none⟩)]] w fun e w'=>e= .returned (.int .i64 (Kn.tc ns nm ty))∧Kp [] w w':=by
 have HT:=hide (kTypeOf_any c w vv bd ns t nm h hs hl)
 unfold Kn.tc
 generalize Kn.typ ns nm=T at *
 have e0:(bs ([]:List UInt8)).toList=[]:=bs0
 have HC:=hide (fun w' (hk:Kp [] w w')=>kExprCodeC_any x T ty w' (hk.some hx (by simp)))
 clear h hs
 by_cases h0:T=[]
 ·subst h0
  rw [if_pos rfl]
  go_enter Tryz.func170,Tryz.ntmps170
  go_wp2_with fail
  refine HT.out.mono ?_
  rintro e w1 ⟨rfl,k1⟩
  have K1:=hide k1
  clear k1
  go_wp2
  go_ret
  exact ⟨rfl,K1.out⟩
 ·have q0:((bs T).toList == [])=false:=by rw [bsl];simpa using h0
  rw [if_neg h0]
  by_cases h1:T=ty
  ·rw [if_neg (by simpa using h1)]
   have d1:decide (T=ty)=true:=by simpa using h1
   rw [d1] at HC
   clear d1 h1
   go_enter Tryz.func170,Tryz.ntmps170
   go_wp2_with fail
   refine HT.out.mono ?_
   rintro e w1 ⟨rfl,k1⟩
   have K1:=hide k1
   clear k1
   go_wp2_with fail
   refine (HC.out _ K1.out).mono ?_
   rintro e w2 ⟨rfl,k2⟩
   have K2:=hide k2
   clear k2
   go_wp2
   go_ret
   exact ⟨rfl,K1.out.trans K2.out⟩
  ·rw [if_pos h1]
   have d1:decide (T=ty)=false:=by simpa using h1
   rw [d1] at HC
   clear d1 h1
   go_enter Tryz.func170,Tryz.ntmps170
   go_wp2_with fail
   refine HT.out.mono ?_
   rintro e w1 ⟨rfl,k1⟩
   have K1:=hide k1
   clear k1
   go_wp2_with fail
   refine (HC.out _ K1.out).mono ?_
   rintro e w2 ⟨rfl,k2⟩
   have K2:=hide k2
   clear k2
   go_wp2
   go_ret
   exact ⟨rfl,K1.out.trans K2.out⟩
set_option maxRecDepth 100000 in
set_option maxHeartbeats 1000000 in
theorem kCode_pre (c:Kg) (w:World) (vv:Value) (bd ns:List Kn.Nv) (t:Nat) (nm:List UInt8) (b:UInt8) (x:Nat) (h:KS c w vv bd (Kn.fkn ns bd) t) (hs:Kn.Sb ns bd) (hl:nm.length≤1000000) (hx:w.cell? ⟨x,0,none⟩=some (.string (bs [b]))):
  Calls Tryz.prog 170 #[.pointer (some ⟨c.g,0,none⟩),.string (bs nm),.func (.func 169) #[] #[.pointer (some ⟨x,0,none⟩)]] w fun e w'=>e= .returned (.int .i64 (Kn.mst ns nm b))∧Kp [] w w':=by
 have HT:=hide (kTypeOf_any c w vv bd ns t nm h hs hl)
 unfold Kn.mst
 generalize Kn.typ ns nm=T at *
 have e0:(bs ([]:List UInt8)).toList=[]:=bs0
 have HC:=hide (fun w' (hk:Kp [] w w')=>kUsedCodeD_any x T b w' (hk.some hx (by simp)))
 clear h hs
 by_cases h0:T=[]
 ·subst h0
  rw [if_pos rfl]
  go_enter Tryz.func170,Tryz.ntmps170
  go_wp2_with fail
  refine HT.out.mono ?_
  rintro e w1 ⟨rfl,k1⟩
  have K1:=hide k1
  clear k1
  go_wp2
  go_ret
  exact ⟨rfl,K1.out⟩
 ·have q0:((bs T).toList == [])=false:=by rw [bsl];simpa using h0
  rw [if_neg h0]
  by_cases h1:T.head? =some b
  ·rw [if_neg (by simpa using h1)]
   have d1:decide (T.head? =some b)=true:=by simpa using h1
   rw [d1] at HC
   clear d1 h1
   go_enter Tryz.func170,Tryz.ntmps170
   go_wp2_with fail
   refine HT.out.mono ?_
   rintro e w1 ⟨rfl,k1⟩
   have K1:=hide k1
   clear k1
   go_wp2_with fail
   refine (HC.out _ K1.out).mono ?_
   rintro e w2 ⟨rfl,k2⟩
   have K2:=hide k2
   clear k2
   go_wp2
   go_ret
   exact ⟨rfl,K1.out.trans K2.out⟩
  ·rw [if_pos h1]
   have d1:decide (T.head? =some b)=false:=by simpa using h1
   rw [d1] at HC
   clear d1 h1
   go_enter Tryz.func170,Tryz.ntmps170
   go_wp2_with fail
   refine HT.out.mono ?_
   rintro e w1 ⟨rfl,k1⟩
   have K1:=hide k1
   clear k1
   go_wp2_with fail
   refine (HC.out _ K1.out).mono ?_
   rintro e w2 ⟨rfl,k2⟩
   have K2:=hide k2
   clear k2
   go_wp2
   go_ret
   exact ⟨rfl,K1.out.trans K2.out⟩
end Go.Proofs.YtbhhkaobkdeolaaGreatDoor
namespace Go.Proofs.YtbhhkaobkdeolaaGreatDoor
open Go.RowKit Go.Maps Go.ChangeMaps
theorem Kn.xk {n:Nat} {op z:Int} {nm:List UInt8} {L:List Sx.Tr} (h:Rn.xf (n+1) (Sx.tE op nm z L)=0):L.length≤2∧(op=2→L=[]∧nm.length≤12)∧ ∀ (i:Nat) x,L[i]? =some x→Rn.xf n x=0:=by
 have hx:Rn.xf (n+1) (Sx.tE op nm z L)=if op<1∨8<op∨L.length ≠ Rn.want op∨(z ≠ 0∧op ≠ 1)∨(nm ≠ []∧op ≠ 2) then (5:Int)
   else if op=2∧Tk.isN nm=false then 4
   else if z<0∨1000000000000000000≤z then 3
   else Rn.firstOf (Rn.xf n) L:=rfl
 rw [hx] at h
 split at h
 ·cases h
 rename_i hb
 split at h
 ·cases h
 rename_i hn
 split at h
 ·cases h
 have hs:=Rn.firstOf_zero h
 have hw:L.length=Rn.want op:=Decidable.byContradiction fun hc=>hb (.inr (.inr (.inl hc)))
 refine ⟨?_,fun h2=>⟨?_,?_⟩,fun i x hx=>hs x (List.mem_of_getElem? hx)⟩
 ·rw [hw];unfold Rn.want;split<;> try split
  all_goals omega
 ·rw [h2] at hw;exact List.length_eq_zero_iff.1 hw
 ·have hN:Tk.isN nm=true:=by
   cases hh:Tk.isN nm with
   |true=>rfl
   |false=>exact absurd ⟨h2,hh⟩ hn
  exact Rn.isN_len hN
def ExT (c:Kg) (n:Nat):Prop:= ∀ (w:World) (P:Nat→Prop) (op z:Int) (nm ty:List UInt8) (L:List Sx.Tr) (a:Option Addr) (k:Nat) (vv:Value) (bd ns:List Kn.Nv) (t:Nat),EL w P n L (.slice a L.length k)→Rn.xf (n+1) (Sx.tE op nm z L)=0→Kn.Sb ns bd→KS c w vv bd (Kn.fkn ns bd) t→
 Calls Tryz.prog 152 #[.pointer (some ⟨c.g,0,none⟩),.agg #[.int .i64 op,.string (bs nm),.int .i64 z,.slice a L.length k],.string (bs ty)] w fun e w'=>e= .returned (.int .i64 (Kn.exc (n+1) ns (Sx.tE op nm z L) ty))∧Kp [] w w'
set_option maxRecDepth 100000 in
set_option maxHeartbeats 1000000 in
theorem kExpr_step (c:Kg) (n:Nat) (ih:ExT c n):ExT c (n+1):=by
 intro w P op z nm ty L a k vv bd ns t h hx hsb hks
 obtain ⟨hl,h2,hr⟩:=Kn.xk hx
 have HR:=hide hr
 have HS:=hide h
 have IH:=hide ih
 have H:=hide hks
 have SB:=hide hsb
 have HE:Kn.exc (n+1+1) ns (Sx.tE op nm z L) ty=if op=2 then Kn.tc ns nm ty else if ty ≠ [105] then 11 else Rn.firstOf (fun x=>Kn.exc (n+1) ns x [105]) L:=rfl
 rw [HE]
 have hmf: ∀ (fn:Fn) (first cap:Array Value) (w:World),(Instr.makeFunc fn first cap).run Tryz.prog w= .ok (.func fn first cap) w:=fun _ _ _ _=>rfl
 clear h ih hks hsb HE hr hx
 by_cases o2:op=2
 ·rw [if_pos o2]
  subst o2
  have hln:=(h2 rfl).2
  have HC:=hide (fun w' x (hk:Kp [] w w') hx=>kCode_eq c w' vv bd ns t nm ty x (H.out.kp hk) SB.out (by omega) hx)
  clear h2
  go_enter Tryz.func152,Tryz.ntmps152
  go_wp2_with fail
  refine (HC.out _ _ (((Kp.refl _ _).alloc _).alloc _) (by simp [go_sem])).mono ?_
  rintro e w1 ⟨rfl,k1⟩
  have K1:=hide ((((Kp.refl [] w).alloc _).alloc _).trans k1)
  clear k1
  go_wp2
  go_ret
  exact ⟨rfl,K1.out⟩
 ·rw [if_neg o2]
  have q2:(op == 2)=false:=by simpa using o2
  clear h2
  by_cases hi:ty=[105]
  ·subst hi
   rw [if_neg (by simp)]
   have qi:((bs [105]).toList == [105])=true:=by rw [bsl];rfl
   go_enter Tryz.func152,Tryz.ntmps152
   go_wp2
   go_loopw [23] (fun iv wr=> ∃ i:Nat,i≤L.length∧iv= .int .i64 i∧Hid (Rn.firstOf (fun x=>Kn.exc (n+1) ns x [105]) L=Rn.firstOf (fun x=>Kn.exc (n+1) ns x [105]) (L.drop i))∧Hid (Kp [] w wr)) (fun iv _=>L.length - (intOf iv).toNat)
   case atStart=>exact ⟨0,Nat.zero_le _,rfl,rfl,hide (((Kp.refl _ _).alloc _).alloc _)⟩
   case round=>
    obtain ⟨i,hil,rfl,HF,HK⟩:=hrel
    by_cases hlt:i<L.length
    ·have d1:decide ((i:Int)<(L.length:Int))=true:=by simp;omega
     obtain ⟨b,off,op1,nm1,z1,L1,aL,cL,rfl,-,hd,m0,m1,m2,m3,hL⟩:=(HS.out.keep HK.out (by simp)).nth i hlt
     have HX:=hide (HR.out i _ hd)
     have HLe:=hide hL
     have HC:=hide (fun w' (hk:Kp [] wr w')=>IH.out w' P op1 z1 nm1 [105] L1 aL cL vv bd ns t (HLe.out.keep hk (by simp)) HX.out SB.out (H.out.kp (HK.out.trans hk)))
     have HDR:=hide (drop_nth hd)
     have HFF:Hid (Rn.firstOf (fun x=>Kn.exc (n+1) ns x [105]) L=if Kn.exc (n+1) ns (Sx.tE op1 nm1 z1 L1) [105] ≠ 0 then Kn.exc (n+1) ns (Sx.tE op1 nm1 z1 L1) [105] else Rn.firstOf (fun x=>Kn.exc (n+1) ns x [105]) (L.drop (i+1))):=hide (by rw [HF.out,HDR.out];rfl)
     have hk0:(0:Int)≤(i:Int):=by omega
     have hk1:(i:Int)<(L.length:Int):=by omega
     generalize Kn.exc (n+1) ns (Sx.tE op1 nm1 z1 L1) [105]=C at *
     clear hL hd HDR HX
     go_wp2_with fail
     refine (HC.out _ ((Kp.refl _ _).alloc _)).mono ?_
     rintro e w2 ⟨rfl,k2⟩
     have K2:=hide (HK.out.trans (((Kp.refl [] wr).alloc _).trans k2))
     clear k2
     by_cases hC:C=0
     ·subst hC
      go_wp2
      go_roundw
      case rel=>exact ⟨i+1,by omega,by go_num,hide (by rw [HFF.out,if_neg (by simp)]),K2⟩
      case measure=>simp [intOf];omega
     ·have q3:(C !=0)=true:=by simpa using hC
      have e1:=HFF.out
      rw [if_pos hC] at e1
      clear HFF hC
      go_wp2
      go_ret
      exact ⟨by rw [e1];rfl,K2.out⟩
    ·obtain rfl:i=L.length:=by omega
     have d1:decide ((L.length:Int)<(L.length:Int))=false:=by simp
     go_wp2
     go_ret
     refine ⟨?_,HK.out⟩
     rw [HF.out,List.drop_length]
     rfl
  ·rw [if_pos hi]
   have qi:((bs ty).toList == [105])=false:=by rw [bsl];simpa using hi
   go_enter Tryz.func152,Tryz.ntmps152
   go_wp2
   go_ret
   exact ⟨rfl,((Kp.refl _ _).alloc _).alloc _⟩
theorem kExpr_any (c:Kg) (n:Nat):ExT c n:=by
 induction n with
 |zero=>intro w P op z nm ty L a k vv bd ns t h;cases h
 |succ n ih=>exact kExpr_step c n ih
end Go.Proofs.YtbhhkaobkdeolaaGreatDoor
