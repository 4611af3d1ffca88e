import Derived.Test.YtbhhkaobkdeolaaGreatDoorMbf
import Derived.Defers
namespace Go.Proofs.YtbhhkaobkdeolaaGreatDoor
open Go.RowKit Go.Maps Go.ChangeMaps
set_option maxRecDepth 100000 in
set_option maxHeartbeats 1000000 in
theorem kOpen_any (c:Kg) (w:World) (vv:Value) (bd:List Kn.Nv) (fk:List UInt8→Option Value) (t:Nat) (h:KS c w vv bd fk t):
  Calls Tryz.prog 92 #[.pointer (some ⟨c.g,0,none⟩)] w fun e w'=>e= .returned (.func (.func 123) #[] #[.pointer (some ⟨w.heap.size,0,none⟩),.pointer (some ⟨w.heap.size+1,0,none⟩)])∧w'=(w.alloc (.cells #[.pointer (some ⟨c.g,0,none⟩)] 157)).alloc (.cells #[.int .i64 bd.length] 3):=by
 have c0:=h.c0
 have hlt:=h.lt
 obtain ⟨an,cn,rfl,-⟩:=vr_own h.ob
 have hmf: ∀ (fn:Fn) (first cap:Array Value) (w:World),(Instr.makeFunc fn first cap).run Tryz.prog w= .ok (.func fn first cap) w:=fun _ _ _ _=>rfl
 clear h
 go_enter Tryz.func92,Tryz.ntmps92
 go_wp2
 go_ret
 exact ⟨rfl,rfl⟩
def Kn.dels (f:List UInt8→Option Value) (l:List Kn.Nv):List UInt8→Option Value:=fun nm=>if Kn.isIn l nm then none else f nm
theorem Kn.dels_snoc (f:List UInt8→Option Value) (l:List Kn.Nv) (x:Kn.Nv):del (Kn.dels f l) x.1=Kn.dels f (l++[x]):=by
 funext nm
 unfold del Kn.dels
 rw [Kn.isIn_app,Kn.isIn_one]
 by_cases e:nm=x.1
 ·rw [if_pos e,if_pos (by simp [e])]
 ·have:decide (x.1=nm)=false:=by simpa using fun h=>e h.symm
  rw [if_neg e,this,Bool.or_false]
theorem Kn.dels_nil (f:List UInt8→Option Value):Kn.dels f []=f:=rfl
theorem KS.mo_set {c:Kg} {w:World} {vv:Value} {bd:List Kn.Nv} {fk fk':List UInt8→Option Value} {t:Nat} {o:Obj} (h:KS c w vv bd fk t) (hm:MV (setBlock w c.mo o) c.mo bd.length fk'):KS c (setBlock w c.mo o) vv bd fk' t:=by
 have hb: ∀ b,b ≠ c.mo→(setBlock w c.mo o).heap[b]? =w.heap[b]? :=fun b hb=>setBlock_other _ _ _ _ hb
 have hg:c.g ≠ c.mo:=by have:=h.gm;omega
 have ec: ∀ k,(setBlock w c.mo o).cell? ⟨c.g,k,none⟩=w.cell? ⟨c.g,k,none⟩:=fun k=>setBlock_cell _ _ _ _ hg
 exact ⟨by rw [setBlock_size];exact h.lt,(ec 0).trans h.c0,(ec 1).trans h.c1,(ec 2).trans h.c2,(ec 3).trans h.c3,(ec 4).trans h.c4,fun k=>(setBlock_frozen _ _ _ _ hg).trans (h.fz k),own_keepv h.ob (fun b hv=>hb b (fun e=>by subst e;exact h.mo.not_row h.ob hv)),h.mb.of_block (hb _ h.ne),hm,h.ma.of_block (hb _ h.na.2),h.ne,h.na,h.gm,h.lb,h.lat,h.sz⟩
theorem Kp.setIn {S:List Nat} {w w':World} (h:Kp S w w') {b:Nat} (hb:b ∈ S) (o:Obj):Kp S w (setBlock w' b o):=
 ⟨h.os,h.tape,h.output,by rw [setBlock_size];exact h.size,fun k hk hn=>(setBlock_other w' b o k (fun e=>hn (e ▸ hb))).trans (h.block k hk hn)⟩
theorem Kf.of_mo {c:Kg} {vv:Value} {w w':World} (h:Kp [c.mo] w w'):Kf c vv w vv w':=
 ⟨h.os,h.tape,h.output,h.size,fun b hb _ _ h3 _=>h.block b hb (by simpa using h3),fun _ h=> .inl h⟩
set_option maxRecDepth 100000 in
set_option maxHeartbeats 4000000 in
theorem kOpenC_any (c:Kg) (w:World) (vv:Value) (bd:List Kn.Nv) (fk:List UInt8→Option Value) (t p q:Nat) (first:Nat) (u:FrameMode) (h:KS c w vv bd fk t) (hp:w.cell? ⟨p,0,none⟩=some (.pointer (some ⟨c.g,0,none⟩))) (hq:w.cell? ⟨q,0,none⟩=some (.int .i64 first)) (hf:first≤bd.length):
  CallsD Tryz.prog 123 #[.pointer (some ⟨p,0,none⟩),.pointer (some ⟨q,0,none⟩)] u w fun e u' w'=>u'=u∧(e= .returned (.tuple #[])∧KS c w' vv bd (Kn.dels fk (bd.drop first)) t∧Kf c vv w vv w'):=by
 have H:=hide h
 have c0:=h.c0
 have hb:=h.lb
 have npo:p ≠ c.mo:=fun e=>h.mo.no_cell 0 _ (by rw [←e];exact hp)
 have nqo:q ≠ c.mo:=fun e=>h.mo.no_cell 0 _ (by rw [←e];exact hq)
 have ngo:c.g ≠ c.mo:=by have:=h.gm;omega
 have i1:(0:Int)≤(first:Int):=by omega
 have i2:(first:Int)≤(bd.length:Int):=by omega
 rcases h.ob.2 with ⟨hvv,h0⟩|⟨g,cap,cur,hvv,-,-,hnc,-,-,-⟩
 ·subst hvv
  have f0:first=0:=by omega
  subst f0
  have hbd:bd=[]:=List.length_eq_zero_iff.1 h0
  subst hbd
  clear h
  go_enter_d Tryz.func123,Tryz.ntmps123
  go_wp2
  go_quiet (fail)
  go_wp2
  go_loopw [11] (fun iv wr=>iv= .int .i64 0∧ ∃ n,wr=w.drewN n) (fun _ _=>0)
  case atStart=>exact ⟨rfl,_,rfl⟩
  case round=>
   obtain ⟨rfl,n,rfl⟩:=hrel
   go_wp2
   go_end0
   exact ⟨rfl,H.out.kp ((Kp.refl _ _).drewN _),Kf.of_kp ((Kp.refl _ _).drewN _)⟩
 ·have HROW:=hide (vr_own h.ob)
  subst hvv
  have i3:(bd.length:Int)≤(cap:Int):=by omega
  clear h
  by_cases hfe:first=bd.length
  ·have e0:bd.length - first=0:=by omega
   have hd:Hid (bd.drop first=[]):=hide (by rw [hfe,List.drop_length])
   rcases Decidable.em (cap=first) with hcf|hcf
   all_goals
    go_enter_d Tryz.func123,Tryz.ntmps123
    go_wp2
    go_quiet (fail)
    go_wp2
    go_loopw [11] (fun iv wr=>iv= .int .i64 0∧ ∃ n,wr=w.drewN n) (fun _ _=>0)
    case atStart=>exact ⟨rfl,_,rfl⟩
    case round=>
     obtain ⟨rfl,n,rfl⟩:=hrel
     go_wp2
     go_end0
     rw [hd.out,Kn.dels_nil]
     exact ⟨rfl,H.out.kp ((Kp.refl _ _).drewN _),Kf.of_kp ((Kp.refl _ _).drewN _)⟩
  ·have hcf: ¬ cap=first:=by omega
   have hlm:first<bd.length:=by omega
   obtain ⟨m,hm⟩: ∃ m,m=bd.length - first:=⟨_,rfl⟩
   have HRC:Hid (∀ (k:Nat) x,(bd.drop first)[k]? =some x→w.cell? ⟨g,first * 2+k * 2,none⟩=some (.string (bs x.1))∧w.cell? ⟨g,first * 2+k * 2+1,none⟩=some (.string (bs x.2))):=hide (by
    intro k x hx
    obtain ⟨a',c',e1,hc⟩:=HROW.out
    injection e1 with ea _ _
    obtain ⟨g',o',h3,h4⟩:=hc (fun e=>by rw [e] at hlm;simp at hlm)
    rw [h3] at ea
    injection ea with ea
    injection ea with eg eo _
    subst eg
    subst eo
    rw [List.getElem?_drop] at hx
    have:=h4 (first+k) x hx
    rw [Nat.zero_add,Nat.add_mul] at this
    exact this)
   have hng:g ≠ c.mo:=fun e=>H.out.mo.not_row H.out.ob (by rw [←e];rfl)
   have HSZ:=hide H.out.sz
   go_enter_d Tryz.func123,Tryz.ntmps123
   go_wp2
   go_quiet (fail)
   go_wp2
   simp only [←hm]
   have HM:=hide hm
   have hm1:m≤1000:=by omega
   clear hm
   go_loopw [11] (fun iv wr=> ∃ i:Nat,i≤m∧iv= .int .i64 i∧Hid (KS c wr (.slice (some ⟨g,0,none⟩) bd.length cap) bd (Kn.dels fk ((bd.drop first).take i)) t)∧Hid (Kp [c.mo] w wr)) (fun iv _=>m - (intOf iv).toNat)
   case atStart=>exact ⟨0,Nat.zero_le _,rfl,hide (by rw [List.take_zero,Kn.dels_nil];exact H.out.kp ((Kp.refl _ _).drewN _)),hide ((Kp.refl _ _).drewN _)⟩
   case round=>
    obtain ⟨i,hil,rfl,HS,HK⟩:=hrel
    by_cases hlt:i<m
    ·have d1:decide ((i:Int)<(m:Int))=true:=by simp;omega
     obtain ⟨x,hx⟩: ∃ x,(bd.drop first)[i]? =some x:=⟨_,List.getElem?_eq_getElem (by have:=HM.out;simp;omega)⟩
     have HTK:Hid ((bd.drop first).take (i+1)=(bd.drop first).take i++[x]):=hide (by rw [List.take_add_one,hx];rfl)
     obtain ⟨y0,y1⟩:=HRC.out i x hx
     have z0:=HK.out.some y0 (by simpa using hng)
     have z1:=HK.out.some y1 (by simpa using hng)
     have hp1:=HK.out.some hp (by simpa using npo)
     obtain ⟨hx1,-⟩:=HSZ.out x (List.mem_of_mem_drop (List.mem_of_getElem? hx))
     have hk0:(0:Int)≤(i:Int):=by omega
     have hk1:(i:Int)<(m:Int):=by omega
     have hgl:=HS.out.lt
     have hml:=HS.out.mo.lt
     have KA:Hid (Kp [] wr ((wr.alloc (.cells #[.string (bs x.1),.string (bs x.2)] 57)).drew)):=hide (((Kp.refl _ _).alloc _).drewN 1)
     have HS1:=HS.out.kp KA.out
     obtain ⟨o,hdel,hmv⟩:=HS1.mo.drop x.1 hx1 Tryz.underlying91 0
     have t0:((wr.alloc (.cells #[.string (bs x.1),.string (bs x.2)] 57)).drew).cell? ⟨p,0,none⟩=some (.pointer (some ⟨c.g,0,none⟩)):=KA.out.some hp1 (by simp)
     have t1:=HS1.c2
     have t2:((wr.alloc (.cells #[.string (bs x.1),.string (bs x.2)] 57)).drew).cell? ⟨wr.heap.size,0,none⟩=some (.string (bs x.1)):=by simp [go_sem]
     have v0:=(setBlock_cell ((wr.alloc (.cells #[.string (bs x.1),.string (bs x.2)] 57)).drew) c.mo o ⟨p,0,none⟩ npo).trans t0
     have v1:=(setBlock_cell ((wr.alloc (.cells #[.string (bs x.1),.string (bs x.2)] 57)).drew) c.mo o ⟨c.g,2,none⟩ ngo).trans t1
     have v2:=(setBlock_cell ((wr.alloc (.cells #[.string (bs x.1),.string (bs x.2)] 57)).drew) c.mo o ⟨wr.heap.size,0,none⟩ (by show wr.heap.size ≠ _;omega)).trans t2
     have S2:Hid (KS c (setBlock ((wr.alloc (.cells #[.string (bs x.1),.string (bs x.2)] 57)).drew) c.mo o) (.slice (some ⟨g,0,none⟩) bd.length cap) bd (Kn.dels fk ((bd.drop first).take (i+1))) t):=hide (by rw [HTK.out,←Kn.dels_snoc];exact HS1.mo_set hmv)
     have K2:Hid (Kp [c.mo] w (setBlock ((wr.alloc (.cells #[.string (bs x.1),.string (bs x.2)] 57)).drew) c.mo o)):=hide ((HK.out.trans (KA.out.mono (by simp))).setIn (by simp) _)
     clear HS1 hmv y0 y1 hx HTK
     generalize setBlock ((wr.alloc (.cells #[.string (bs x.1),.string (bs x.2)] 57)).drew) c.mo o=W2 at *
     go_wp2
     go_region_held3 (fun w'=>w'.cell? ⟨p,0,none⟩=some (.pointer (some ⟨c.g,0,none⟩))∧w'.cell? ⟨c.g,2,none⟩=some (.map (some c.mo))∧w'.cell? ⟨wr.heap.size,0,none⟩=some (.string (bs x.1))) ((first|exact ⟨by assumption,by assumption,by assumption⟩|go_keep)) (fail)
     all_goals
      go_wp2
      go_roundw
      case rel=>exact ⟨i+1,by have:=HM.out;omega,by go_num,S2,K2⟩
      case measure=>have:=HM.out;simp [intOf];omega
    ·obtain rfl:i=m:=by omega
     have d1:decide ((i:Int)<(i:Int))=false:=by simp
     have HE:=HS.out
     rw [List.take_of_length_le (by have:=HM.out;simp;omega)] at HE
     have HE':=hide HE
     clear HE
     go_wp2
     go_end0
     exact ⟨rfl,HE'.out,Kf.of_mo HK.out⟩
end Go.Proofs.YtbhhkaobkdeolaaGreatDoor
namespace Go.Proofs.YtbhhkaobkdeolaaGreatDoor
open Go.RowKit Go.Maps Go.ChangeMaps
namespace Kc
open Kn
def ndB:List Nv→Bool
 |[]=>true
 |v::r=> !(isIn r v.1) && ndB r
def sbB (ns bd:List Nv):Bool:=ndB bd && ns.all fun v=>bd.any (· == v)
theorem nd_of {bd:List Nv} (h:ndB bd=true):Nd bd:=by
 induction bd with
 |nil=>trivial
 |cons v r ih=>
  unfold ndB at h
  rw [Bool.and_eq_true] at h
  exact ⟨by simpa using h.1,ih h.2⟩
theorem sb_of {ns bd:List Nv} (h:sbB ns bd=true):Sb ns bd:=by
 unfold sbB at h
 rw [Bool.and_eq_true] at h
 refine ⟨nd_of h.1,fun v hv=> ?_⟩
 obtain ⟨u,h1,h2⟩:=List.any_eq_true.1 (List.all_eq_true.1 h.2 v hv)
 rw [←(by simpa using h2:u=v)]
 exact h1
def endB (ns ns0 bd:List Nv) (k:Nat):Bool:=bd.all fun v=>(isIn ns v.1 && !(isIn (bd.drop k) v.1)) == isIn ns0 v.1
theorem end_of {ns ns0 bd:List Nv} {k:Nat} (h:endB ns ns0 bd k=true):dels (fkn ns bd) (bd.drop k)=fkn ns0 bd:=by
 funext nm
 unfold dels fkn
 cases hb:isIn bd nm with
 |false=>
  have:fb bd nm=none:=by
   unfold fb
   rw [←ix_isIn] at hb
   cases hx:ix bd nm with
   |none=>rfl
   |some j=>rw [hx] at hb;cases hb
  rw [this]
  simp
 |true=>
  obtain ⟨v,hv,rfl⟩:=isIn_iff.1 hb
  have h1:=List.all_eq_true.1 h v hv
  have h2:(isIn ns v.1 && !(isIn (bd.drop k) v.1))=isIn ns0 v.1:=by simpa using h1
  rw [←h2]
  cases isIn ns v.1<;> cases isIn (bd.drop k) v.1<;> rfl
structure OkS (n:Nat) (ab:List Sx.Tr) (s:St) (d:Int) (A B T:List UInt8) (N:Int) (E:List Sx.Tr) (u:Int):Prop where
 d1:1≤d
 d2:d≤14
 lA:A.length≤12
 lB:B.length≤12
 lT:T.length≤4
 lE:E.length≤6
 oE:d ≠ 10→E.length≤1
 xE: ∀ x,x ∈ E→Rn.xf n x=0
 tA:(typ s.ns A).length≤1000
 tB:(typ s.ns B).length≤1000
 lb:s.bd.length≤900
 la:s.at'≤90000
 lV:(bnp s.ns d A B T).length≤2
 zV: ∀ v,v ∈ bnp s.ns d A B T→v.1.length≤1000∧v.2.length≤1000
 sb:sbB s.ns s.bd=true
 tw:twiceP s.bd (bnp s.ns d A B T)=false
 sc:scp n ab s.ns s.bd (bnp s.ns d A B T) d N A T E u=0
def okS (n:Nat) (ab:List Sx.Tr) (s:St) (d:Int) (A B T:List UInt8) (N:Int) (E:List Sx.Tr) (u:Int):Bool:=
 decide (1≤d) && decide (d≤14) && decide (A.length≤12) && decide (B.length≤12) && decide (T.length≤4) && decide (E.length≤6) && decide (d ≠ 10→E.length≤1) && decide (∀ x,x ∈ E→Rn.xf n x=0) && decide ((typ s.ns A).length≤1000) && decide ((typ s.ns B).length≤1000) &&
  decide (s.bd.length≤900) && decide (s.at'≤90000) && decide ((bnp s.ns d A B T).length≤2) && decide (∀ v,v ∈ bnp s.ns d A B T→v.1.length≤1000∧v.2.length≤1000) && sbB s.ns s.bd && !(twiceP s.bd (bnp s.ns d A B T)) && decide (scp n ab s.ns s.bd (bnp s.ns d A B T) d N A T E u=0)
theorem okS_of {n:Nat} {ab:List Sx.Tr} {s:St} {d:Int} {A B T:List UInt8} {N:Int} {E:List Sx.Tr} {u:Int} (h:okS n ab s d A B T N E u=true):OkS n ab s d A B T N E u:=by
 unfold okS at h
 simp only [Bool.and_eq_true,decide_eq_true_eq,Bool.not_eq_true'] at h
 obtain ⟨⟨⟨⟨⟨⟨⟨⟨⟨⟨⟨⟨⟨⟨⟨⟨h1,h2⟩,h3⟩,h4⟩,h5⟩,h6⟩,h7⟩,h8⟩,h9⟩,h10⟩,h11⟩,h12⟩,h13⟩,h14⟩,h15⟩,h16⟩,h17⟩:=h
 exact ⟨h1,h2,h3,h4,h5,h6,h7,h8,h9,h10,h11,h12,h13,h14,h15,h16,h17⟩
def one (n:Nat) (ab:List Sx.Tr) (blk:St→List Nv→List Sx.Tr→Option St) (s:St) (d:Int) (A B T:List UInt8) (N:Int) (E body els:List Sx.Tr) (u:Int):Option St:=
 if okS n ab s d A B T N E u=true then
  (if d=11∨d=12 then blk ⟨s.ns,s.bd,s.at'+1⟩ (bnp s.ns d A B T) body else blk ⟨s.ns++bnp s.ns d A B T,s.bd++bnp s.ns d A B T,s.at'+1⟩ [] body).bind fun s1=>blk s1 [] els
 else none
def go (n:Nat) (ab:List Sx.Tr) (blk:St→List Nv→List Sx.Tr→Option St):St→List Sx.Tr→Option St
 |s,[]=>some s
 |s,t::r=>(one n ab blk s (Sx.sH t).1 (Sx.sH t).2.1 (Sx.sH t).2.2.1 (Sx.sH t).2.2.2.1 (Sx.sH t).2.2.2.2 (Sx.sE t) (Sx.sB t) (Sx.sO t) (usedF s.ns t)).bind fun s1=>go n ab blk s1 r
def blk:Nat→List Sx.Tr→St→List Nv→List Sx.Tr→Option St
 |0,_,_,_,_=>none
 |n+1,ab,s,V,l=>if twiceP s.bd V=false∧s.bd.length+V.length≤1000∧(∀ v,v ∈ V→v.1.length≤1000∧v.2.length≤1000)∧l.length≤1000 then
   (go n ab (blk n ab) ⟨s.ns++V,s.bd++V,s.at'⟩ l).bind fun s2=>if endB s2.ns s.ns s2.bd s.bd.length=true∧s.bd.length≤s2.bd.length then some ⟨s.ns,s2.bd,s2.at'⟩ else none
  else none
end Kc
def Kf.S (c:Kg) (vv:Value):List Nat:=c.g::c.mb::c.mo::vv.ownBlock.toList
theorem Kf.kp {c:Kg} {vv vv':Value} {w w':World} (h:Kf c vv w vv' w'):Kp (Kf.S c vv) w w':=
 ⟨h.os,h.tape,h.output,h.size,fun b hb hn=>by
  unfold Kf.S at hn
  simp only [List.mem_cons,not_or,Option.mem_toList] at hn
  exact h.block b hb hn.1 hn.2.1 hn.2.2.1 hn.2.2.2⟩
theorem KS.S_ge {c:Kg} {w:World} {vv:Value} {bd:List Kn.Nv} {fk:List UInt8→Option Value} {t:Nat} (h:KS c w vv bd fk t): ∀ k,k ∈ Kf.S c vv→c.g≤k:=by
 intro k hk
 have:=h.gm
 unfold Kf.S at hk
 simp only [List.mem_cons,Option.mem_toList] at hk
 rcases hk with rfl|rfl|rfl|hk
 ·exact Nat.le_refl _
 ·omega
 ·omega
 ·have:=(h.ob.lt _ hk).1;omega
structure Bs (c:Kg) (vv:Value) (w:World) (b:Nat):Prop where
 lt:b<w.heap.size
 n1:b ≠ c.g
 n2:b ≠ c.mb
 n3:b ≠ c.mo
 n4:vv.ownBlock ≠ some b
theorem Bs.new {c:Kg} {w w':World} {vv:Value} {bd:List Kn.Nv} {fk:List UInt8→Option Value} {t:Nat} (h:KS c w vv bd fk t) {b:Nat} (hb:w.heap.size≤b) (hl:b<w'.heap.size):Bs c vv w' b:=
 ⟨hl,by have:=h.lt;omega,by have:=h.mb.lt;omega,by have:=h.mo.lt;omega,fun e=>by have:=(h.ob.lt _ e).2;omega⟩
theorem Bs.go {c:Kg} {vv vv':Value} {w w':World} {b:Nat} (h:Bs c vv w b) (k:Kf c vv w vv' w'):Bs c vv' w' b:=
 have hl:=h.lt
 ⟨Nat.lt_of_lt_of_le h.lt k.size,h.n1,h.n2,h.n3,fun e=>(k.nb b e).elim h.n4 (fun e=>by omega)⟩
theorem Bs.not {c:Kg} {vv:Value} {w:World} {b:Nat} (h:Bs c vv w b):b ∉ Kf.S c vv:=by
 unfold Kf.S
 simp only [List.mem_cons,not_or,Option.mem_toList]
 exact ⟨h.n1,h.n2,h.n3,h.n4⟩
theorem KS.next {c:Kg} {w:World} {vv:Value} {bd:List Kn.Nv} {fk:List UInt8→Option Value} {t:Nat} (h:KS c w vv bd fk t) (ht:t<100000):
  KS c (w.setCell ⟨c.g,4,none⟩ (.int .i64 ((t:Int)+1))) vv bd fk (t+1):=by
 have hc0:=h.c0;have hc1:=h.c1;have hc2:=h.c2;have hc3:=h.c3;have hc4:=h.c4
 have hgm:=h.gm
 have hset: ∀ b,b ≠ c.g→(w.setCell ⟨c.g,4,none⟩ (.int .i64 ((t:Int)+1))).heap[b]? =w.heap[b]? :=fun b hb=>Below.heap_setCell _ _ _ _ (fun e=>hb e)
 have nag:c.ma ≠ c.g:=fun e=>h.ma.no_cell 0 vv (by rw [e];exact h.c0)
 refine ⟨by simpa using h.lt,by simp [go_sem,hc0],by simp [go_sem,hc1],by simp [go_sem,hc2],by simp [go_sem,hc3],by simp [go_sem,hc4],?_,?_,h.mb.of_block (hset _ (by omega)),h.mo.of_block (hset _ (by omega)),h.ma.of_block (hset _ nag),h.ne,h.na,h.gm,h.lb,ht,h.sz⟩
 ·intro j;have:=h.fz j;simp [go_sem,this]
 ·exact ownsRow_setCell_below h.ob (by show c.g<c.g+1;omega) _
theorem Kf.g4 {c:Kg} {vv:Value} {w:World} (u:Value):Kf c vv w vv (w.setCell ⟨c.g,4,none⟩ u):=
 have k:=(Kp.refl [c.g] w).rb 4 u
 ⟨k.os,k.tape,k.output,k.size,fun b hb h1 _ _ _=>k.block b hb (by simpa using h1),fun _ h=> .inl h⟩
structure Rq (c:Kg) (w:World) (P:Nat→Prop) (ab:List Sx.Tr):Prop where
 st:ABv c w P ab
 gp: ∀ nm g,Kn.abv ab nm=some g→(Sx.gP g).length≤1000000
 pg: ∀ b,P b→b<c.g
theorem Rq.keep {c:Kg} {w w':World} {P:Nat→Prop} {ab:List Sx.Tr} {vv vv':Value} {bd:List Kn.Nv} {fk:List UInt8→Option Value} {t:Nat} (h:Rq c w P ab) (hs:KS c w vv bd fk t) (k:Kf c vv w vv' w'):Rq c w' P ab:=
 ⟨h.st.keep k.kp (fun b hb hp=>by have:=hs.S_ge b hb;have:=h.pg b hp;omega),h.gp,h.pg⟩
theorem Rq.kp {c:Kg} {w w':World} {P:Nat→Prop} {ab:List Sx.Tr} (h:Rq c w P ab) (k:Kp [] w w'):Rq c w' P ab:=⟨h.st.keep k (by simp),h.gp,h.pg⟩
theorem KS.keepB {c:Kg} {w w':World} {vv u:Value} {bd:List Kn.Nv} {fk:List UInt8→Option Value} {t r k:Nat} (h:KS c w vv bd fk t) (hk:Kp [r] w w') (hr:Bs c vv w r) (hc:w.cell? ⟨r,k,none⟩=some u):KS c w' vv bd fk t:=
 have hg:c.g ∉ [r]:=by simpa using fun e=>hr.n1 e.symm
 have hma:c.ma ≠ r:=fun e=>h.ma.no_cell k u (by rw [e];exact hc)
 ⟨Nat.lt_of_lt_of_le h.lt hk.size,hk.some h.c0 hg,hk.some h.c1 hg,hk.some h.c2 hg,hk.some h.c3 hg,hk.some h.c4 hg,fun k=>(hk.frozen (p:=⟨c.g,k,none⟩) h.lt hg).trans (h.fz k),own_keepv h.ob (fun b hb=>hk.block b (h.ob.lt b hb).2 (fun hm=>by simp at hm;subst hm;exact hr.n4 hb)),h.mb.of_block (hk.block _ h.mb.lt (by simpa using fun e=>hr.n2 e.symm)),h.mo.of_block (hk.block _ h.mo.lt (by simpa using fun e=>hr.n3 e.symm)),h.ma.of_block (hk.block _ h.ma.lt (by simpa using hma)),h.ne,h.na,h.gm,h.lb,h.lat,h.sz⟩
theorem Kf.endN {c:Kg} {vv v5:Value} {w w5 w6:World} {r:Nat} (h:Kf c vv w v5 w5) (k:Kp [r] w5 w6) (hr:w.heap.size≤r):Kf c vv w v5 w6:=
 ⟨k.os.trans h.os,k.tape.trans h.tape,k.output.trans h.output,Nat.le_trans h.size k.size,fun b hb h1 h2 h3 h4=>(k.block b (Nat.lt_of_lt_of_le hb h.size) (by simp;omega)).trans (h.block b hb h1 h2 h3 h4),h.nb⟩
def VB (c:Kg) (vv:Value) (w:World) (aV:Option Addr):Prop:= ∀ g o,aV=some ⟨g,o,none⟩→Bs c vv w g
def EndW (c:Kg) (vv:Value) (w:World) (s:Kn.St) (e:Ending) (w':World):Prop:=e= .returned (.agg #[.int .i64 0,.int .i64 0])∧ ∃ vv',KS c w' vv' s.bd (Kn.fkn s.ns s.bd) s.at'∧Kf c vv w vv' w'
def BlT (c:Kg) (n:Nat):Prop:= ∀ (w:World) (P:Nat→Prop) (ab l:List Sx.Tr) (a:Option Addr) (cap:Nat) (V:List Kn.Nv) (aV:Option Addr) (cV:Nat) (vv:Value) (s s':Kn.St),SL w P n l (.slice a l.length cap)→Rq c w P ab→VR w (.slice aV V.length cV) V→VB c vv w aV→KS c w vv s.bd (Kn.fkn s.ns s.bd) s.at'→Kc.blk n ab s V l=some s'→
 Calls Tryz.prog 66 #[.pointer (some ⟨c.g,0,none⟩),.slice a l.length cap,.slice aV V.length cV] w (EndW c vv w s')
def SmT (c:Kg) (n:Nat):Prop:= ∀ (w:World) (P:Nat→Prop) (ab:List Sx.Tr) (d at':Int) (A B T:List UInt8) (N:Int) (E body els:List Sx.Tr) (aE aB aL:Option Addr) (cE cB cL:Nat) (vv:Value) (s s':Kn.St),EL w P n E (.slice aE E.length cE)→SL w P n body (.slice aB body.length cB)→SL w P n els (.slice aL els.length cL)→Rq c w P ab→KS c w vv s.bd (Kn.fkn s.ns s.bd) s.at'→Kc.one n ab (Kc.blk n ab) s d A B T N E body els (Kn.usedF s.ns (Sx.tS d at' A B T N E body els))=some s'→
 Calls Tryz.prog 94 #[.pointer (some ⟨c.g,0,none⟩),.agg #[.int .i64 d,.int .i64 at',.string (bs A),.string (bs B),.string (bs T),.int .i64 N,.slice aE E.length cE,.slice aB body.length cB,.slice aL els.length cL]] w (EndW c vv w s')
end Go.Proofs.YtbhhkaobkdeolaaGreatDoor
