import Derived.Test.YteeocekjekclbaaGreatDoorMbx
import Derived.ChangeKeysEq
namespace Go.Proofs.YteeocekjekclbaaGreatDoor
open Go.RowKit
set_option maxRecDepth 100000 in
set_option maxHeartbeats 4000000 in
theorem racts10_any (q:PV) (p:Cd.Pr) (k:Nat) (x:Cd.In) (w:World) (h:PC q p w) (hx:p.ins[k]? =some x) (hop:x.op=10) (hl:x.args.length≤100000):
  Calls Tryz.prog 8 #[q.v p,.int .i64 (k:Int)] w fun e w'=> ∃ v',e= .returned v'∧w'.ownsRow w.heap.size 57 2 v' (Cd.deeds p x).length (fcells (Cd.deeds p x))∧Below w.heap.size w w':=by
 have hk:=(List.getElem?_eq_some_iff.1 hx).1
 obtain ⟨ai,ci,e1,h1⟩:=h.ins
 obtain ⟨e2,e3⟩:q.ai=ai∧q.ci=ci:=by simpa using e1
 obtain ⟨g,o,e4,h2⟩:=h1 (List.ne_nil_of_mem (List.mem_of_getElem? hx))
 obtain ⟨ae,ce,aa,ca,h3⟩:=h2 k x hx
 rw [←e2] at e4
 have HE4:=hide e4
 have HP:=hide h
 have HI:=hide h3
 have i1:(0:Int)≤(k:Int):=by omega
 have i2:(k:Int)<(p.ins.length:Int):=by omega
 have d1:decide ((k:Int)<0)=false:=by simp
 have d2:decide ((p.ins.length:Int)≤(k:Int))=false:=by simp;omega
 have d3:decide (p.ins.length≤k)=false:=by simp;omega
 clear h h1 h2 h3 hx hk e1 e2 e3 e4
 obtain ⟨xop,xa,xb,xn,xto,xt,xe,xargs,xbk,xlp,xat⟩:=x
 dsimp only at *
 subst hop
 have HD:Hid (Cd.deeds p ⟨10,xa,xb,xn,xto,xt,xe,xargs,xbk,xlp,xat⟩=(Cd.hnd xargs).filter fun y=>Cd.isEnd p y.2):=hide rfl
 generalize Cd.deeds p ⟨10,xa,xb,xn,xto,xt,xe,xargs,xbk,xlp,xat⟩=D at HD ⊢
 have HAC:Hid (∀ (w0 w':World) (v:Value) (L:List (Int × Int)) (kk yy:Int),Below w.heap.size w w0→Below w0.heap.size w0 w'→w'.ownsRow w0.heap.size 57 2 v L.length (fcells L)→L.length≤100000→Calls Tryz.prog 13 #[q.v p,v,.int .i64 kk,.int .i64 yy] w' fun e w''=> ∃ v',e= .returned v'∧w''.ownsRow w0.heap.size 57 2 v' (if Cd.isEnd p yy then L++[(kk,yy)] else L).length (fcells (if Cd.isEnd p yy then L++[(kk,yy)] else L))∧Below w0.heap.size w' w''):=hide (fun w0 w' v L kk yy hb0 hb ho hl=>act_any q p _ v L kk yy w' (HP.out.keep (btrans hb0 hb)) ho hl hb.size)
 unfold PV.v at *
 unfold PV.cells at *
 obtain ⟨qav,qcv,qab,qcb,qai,qci⟩:=q
 dsimp only at *
 obtain rfl:=HE4.out
 clear HE4
 obtain ⟨c0,c1,c2,c3,c4,c5,c6,c7,c8,c9,c10,-,cA⟩:=HI.out.keep (w':=w.alloc (.cells #[.string p.name,.slice qav p.vars.length qcv,.int .i64 p.params,.slice qab p.blocks.length qcb,.slice (some ⟨g,o,none⟩) p.ins.length qci] 26)) ((Below.refl _ _).alloc (Nat.le_refl _) _)
 dsimp only at c0 c1 c2 c3 c4 c5 c6 c7 c8 c9 c10 cA
 have HcA:=hide cA
 clear HI HP cA
 go_enter Tryz.func8,Tryz.ntmps8
 go_wp2
 have HB0:Hid (Below w.heap.size w ((w.alloc (.cells #[.string p.name,.slice qav p.vars.length qcv,.int .i64 p.params,.slice qab p.blocks.length qcb,.slice (some ⟨g,o,none⟩) p.ins.length qci] 26)).alloc (.cells #[.int .i64 10,.int .i64 xa,.int .i64 xb,.int .i64 xn,.int .i64 xto,.string xt,.slice ae xe.length ce,.slice aa xargs.length ca,.int .i64 xbk,.int .i64 xlp,.int .i64 xat] 53))):=hide (((Below.refl _ _).alloc (Nat.le_refl _) _).alloc (by simp) _)
 have HB1:Hid (Below (w.alloc (.cells #[.string p.name,.slice qav p.vars.length qcv,.int .i64 p.params,.slice qab p.blocks.length qcb,.slice (some ⟨g,o,none⟩) p.ins.length qci] 26)).heap.size (w.alloc (.cells #[.string p.name,.slice qav p.vars.length qcv,.int .i64 p.params,.slice qab p.blocks.length qcb,.slice (some ⟨g,o,none⟩) p.ins.length qci] 26)) ((w.alloc (.cells #[.string p.name,.slice qav p.vars.length qcv,.int .i64 p.params,.slice qab p.blocks.length qcb,.slice (some ⟨g,o,none⟩) p.ins.length qci] 26)).alloc (.cells #[.int .i64 10,.int .i64 xa,.int .i64 xb,.int .i64 xn,.int .i64 xto,.string xt,.slice ae xe.length ce,.slice aa xargs.length ca,.int .i64 xbk,.int .i64 xlp,.int .i64 xat] 53))):=hide ((Below.refl _ _).alloc (Nat.le_refl _) _)
 have HcB:=hide (HcA.out.keep HB1.out)
 clear c0 c1 c2 c3 c4 c5 c6 c7 c8 c9 c10 HcA HB1
 obtain ⟨W,hW⟩: ∃ W,((w.alloc (.cells #[.string p.name,.slice qav p.vars.length qcv,.int .i64 p.params,.slice qab p.blocks.length qcb,.slice (some ⟨g,o,none⟩) p.ins.length qci] 26)).alloc (.cells #[.int .i64 10,.int .i64 xa,.int .i64 xb,.int .i64 xn,.int .i64 xto,.string xt,.slice ae xe.length ce,.slice aa xargs.length ca,.int .i64 xbk,.int .i64 xlp,.int .i64 xat] 53))=W:=⟨_,rfl⟩
 have HJ:Hid (∀ w',Below W.heap.size W w'→w'.cell? ⟨w.heap.size,0,none⟩=some (.string p.name)∧w'.cell? ⟨w.heap.size,1,none⟩=some (.slice qav p.vars.length qcv)∧w'.cell? ⟨w.heap.size,2,none⟩=some (.int .i64 p.params)∧w'.cell? ⟨w.heap.size,3,none⟩=some (.slice qab p.blocks.length qcb)∧w'.cell? ⟨w.heap.size,4,none⟩=some (.slice (some ⟨g,o,none⟩) p.ins.length qci)∧w'.cell? ⟨w.heap.size+1,1,none⟩=some (.int .i64 xa)∧w'.cell? ⟨w.heap.size+1,2,none⟩=some (.int .i64 xb)∧w'.cell? ⟨w.heap.size+1,7,none⟩=some (.slice aa xargs.length ca)):=hide (fun w' hb=>⟨bsome hb (by rw [←hW];simp [go_sem]),bsome hb (by rw [←hW];simp [go_sem]),bsome hb (by rw [←hW];simp [go_sem]),bsome hb (by rw [←hW];simp [go_sem]),bsome hb (by rw [←hW];simp [go_sem]),bsome hb (by rw [←hW];simp [go_sem]),bsome hb (by rw [←hW];simp [go_sem]),bsome hb (by rw [←hW];simp [go_sem])⟩)
 rw [hW] at HB0 HcB ⊢
 clear hW
 go_loopw [5,7] (fun v iv wr=> ∃ i:Nat,i≤xargs.length∧iv= .int .i64 i∧Hid (wr.ownsRow W.heap.size 57 2 v ((Cd.hnd (xargs.take i)).filter fun y=>Cd.isEnd p y.2).length (fcells ((Cd.hnd (xargs.take i)).filter fun y=>Cd.isEnd p y.2)))∧Hid (Below W.heap.size W wr)) (fun _ iv _=>xargs.length - (intOf iv).toNat)
 case atStart=>exact ⟨0,Nat.zero_le _,rfl,hide (World.ownsRow_nil _ _ _ _),hide (Below.refl _ _)⟩
 case round=>
  obtain ⟨i,hi,rfl,HO,HBW⟩:=hrel
  have hsW:=HBW.out.size
  obtain ⟨a0,a1,a2,a3,a4,a5,a6,a7⟩:=HJ.out _ HBW.out
  by_cases hlt:i<xargs.length
  ·have t1:decide ((i:Int)<(xargs.length:Int))=true:=by simp;omega
   obtain ⟨x,hx⟩: ∃ x,xargs[i]? =some x:=⟨_,List.getElem?_eq_getElem hlt⟩
   obtain ⟨aa2,c2,e2,h2⟩:=HcB.out
   obtain ⟨rfl,-,rfl⟩:aa=aa2∧True∧ca=c2:=by simpa using e2
   obtain ⟨g',o',rfl,hc⟩:=h2 (List.ne_nil_of_mem (List.mem_of_getElem? hx))
   obtain ⟨⟨ye,yc,x0',-⟩,x1'⟩:=hc i x hx
   have HX1:=hide (fun (w':World) (hb:Below W.heap.size W w')=>bsome hb x1')
   have x0:=bsome HBW.out x0'
   have x1:=bsome HBW.out x1'
   clear x0' x1'
   have HT:Hid (xargs.take (i+1)=xargs.take i++[x]):=hide (by rw [List.take_add_one,hx];rfl)
   obtain ⟨we,wv⟩:=x
   simp only at x0 x1 HX1
   have hfl:((Cd.hnd (xargs.take i)).filter fun y=>Cd.isEnd p y.2).length≤100000:=Nat.le_trans (List.length_filter_le _ _) (Nat.le_trans (Cd.hnd_len _) (by rw [List.length_take];omega))
   have HFl:Hid (((Cd.hnd (xargs.take (i+1))).filter fun y=>Cd.isEnd p y.2)=if we.isEmpty then (if Cd.isEnd p wv then ((Cd.hnd (xargs.take i)).filter fun y=>Cd.isEnd p y.2)++[(2,wv)] else ((Cd.hnd (xargs.take i)).filter fun y=>Cd.isEnd p y.2)) else ((Cd.hnd (xargs.take i)).filter fun y=>Cd.isEnd p y.2)):=hide (by
    rw [HT.out,Cd.hnd_app,List.filter_append]
    cases hq:we.isEmpty<;> cases hq':Cd.isEnd p wv<;> simp [Cd.hnd,hq,hq'])
   generalize ((Cd.hnd (xargs.take i)).filter fun y=>Cd.isEnd p y.2)=K at *
   obtain ⟨va,vc,rfl⟩:=own_sliceA HO.out
   have HO':=hide (HO.out)
   clear hx hc h2 e2 HT
   have i0':(0:Int)≤(i:Int):=by omega
   have i1':(i:Int)<(xargs.length:Int):=by omega
   cases we with
   |nil=>
    simp only [List.length_nil,List.isEmpty_nil,if_true] at *
    have HC:=hide (fun w' hb ho=>HAC.out W w' (.slice va K.length vc) K 2 wv HB0.out hb ho hfl)
    clear HAC
    go_wp2
    have kc:Hid (Below W.heap.size W wr.drew):=hide (below_drewN HBW.out 1)
    have ko:Hid (wr.drew.ownsRow W.heap.size 57 2 (.slice va K.length vc) K.length (fcells K)):=hide (own_keepA HO.out (fun _ _=>rfl))
    go_region_held3 (fun w'=>w'.cell? ⟨w.heap.size,0,none⟩=some (.string p.name)∧w'.cell? ⟨w.heap.size,1,none⟩=some (.slice qav p.vars.length qcv)∧w'.cell? ⟨w.heap.size,2,none⟩=some (.int .i64 p.params)∧w'.cell? ⟨w.heap.size,3,none⟩=some (.slice qab p.blocks.length qcb)∧w'.cell? ⟨w.heap.size,4,none⟩=some (.slice (some ⟨g,o,none⟩) p.ins.length qci)∧w'.cell? ⟨w.heap.size+1,1,none⟩=some (.int .i64 xa)∧w'.cell? ⟨w.heap.size+1,2,none⟩=some (.int .i64 xb)∧w'.cell? ⟨w.heap.size+1,7,none⟩=some (.slice (some ⟨g',o',none⟩) xargs.length ca)∧w'.cell? ⟨g',o'+i * 2+1,none⟩=some (.int .i64 wv)) ((first|exact ⟨by assumption,by assumption,by assumption,by assumption,by assumption,by assumption,by assumption,by assumption,by assumption⟩|go_keep)) ((first
     |(go_at_call 13;with_reducible refine (HC.out _ (by exact kc.out) (by exact ko.out)).mono ?_;rintro e w9 ⟨v9,rfl,ho9,hb9⟩;have HO9:=hide ho9;have HB9:=hide (kc.out.trans hb9);clear ho9;obtain ⟨j0,j1,j2,j3,j4,j5,j6,j7⟩:=HJ.out _ HB9.out;have j8:w9.cell? ⟨g',o'+i * 2+1,none⟩=some (.int .i64 wv):=HX1.out _ HB9.out)))
    all_goals
     go_wp2
     go_roundw
     case rel=>exact ⟨i+1,by omega,by go_num,hide (by rw [HFl.out];exact HO9.out),HB9⟩
     case measure=>simp [intOf];omega
   |cons y ys=>
    have t2:(((ys.length+1:Nat):Int) == 0)=false:=by simp;omega
    have t3:decide (((ys.length+1:Nat):Int)=0)=false:=by simp;omega
    simp only [List.length_cons,List.isEmpty_cons] at *
    rw [if_neg (by simp)] at HFl
    have HO8:Hid (wr.ownsRow W.heap.size 57 2 (.slice va K.length vc) ((Cd.hnd (xargs.take (i+1))).filter fun y=>Cd.isEnd p y.2).length (fcells ((Cd.hnd (xargs.take (i+1))).filter fun y=>Cd.isEnd p y.2))):=hide (by rw [HFl.out];exact HO.out)
    clear HO HO' HAC
    go_wp2
    go_roundw
    case rel=>exact ⟨i+1,by omega,by go_num,HO8,HBW⟩
    case measure=>simp [intOf];omega
  ·obtain rfl:i=xargs.length:=by omega
   have t1:decide ((xargs.length:Int)<(xargs.length:Int))=false:=by simp
   rw [List.take_length] at HO
   clear HAC
   go_wp2
   go_ret
   exact ⟨_,rfl,by rw [HD.out];exact own_low HO.out HB0.out.size,btrans HB0.out HBW.out⟩
theorem rActs_in (q:PV) (p:Cd.Pr) (k:Nat) (x:Cd.In) (w:World) (h:PC q p w) (hx:p.ins[k]? =some x) (hl:x.args.length≤100000):
  Calls Tryz.prog 8 #[q.v p,.int .i64 (k:Int)] w fun e w'=> ∃ v',e= .returned v'∧w'.ownsRow w.heap.size 57 2 v' (Cd.deeds p x).length (fcells (Cd.deeds p x))∧Below w.heap.size w w':=by
 by_cases h3:x.op=3
 ·exact racts3_any q p k x w h hx h3
 by_cases h4:x.op=4
 ·exact racts4_any q p k x w h hx h4
 by_cases h11:x.op=11
 ·exact racts11_any q p k x w h hx h11
 by_cases h5:x.op=5
 ·exact racts5_any q p k x w h hx h5
 by_cases h6:x.op=6
 ·exact racts6_any q p k x w h hx h6
 by_cases h7:x.op=7
 ·exact racts7_any q p k x w h hx h7
 by_cases h8:x.op=8
 ·exact racts8_any q p k x w h hx h8
 by_cases h9:x.op=9
 ·exact racts9_any q p k x w h hx h9
 by_cases h10:x.op=10
 ·exact racts10_any q p k x w h hx h10 hl
 by_cases h16:x.op=16
 ·exact racts16_any q p k x w h hx h16
 exact ractsN_any q p k x w h hx h3 h4 h11 h5 h6 h7 h8 h9 h10 h16
set_option maxRecDepth 100000 in
set_option maxHeartbeats 4000000 in
theorem rActs_any (q:PV) (p:Cd.Pr) (i:Int) (w:World) (h:PC q p w) (hl: ∀ x ∈ p.ins,x.args.length≤100000):
  Calls Tryz.prog 8 #[q.v p,.int .i64 i] w fun e w'=> ∃ v',e= .returned v'∧w'.ownsRow w.heap.size 57 2 v' (Cd.acts p i).length (fcells (Cd.acts p i))∧Below w.heap.size w w':=by
 by_cases hi:0≤i∧i<(p.ins.length:Int)
 ·obtain ⟨k,rfl⟩: ∃ k:Nat,i=k:=⟨i.toNat,by omega⟩
  obtain ⟨x,hx⟩: ∃ x,p.ins[k]? =some x:=⟨_,List.getElem?_eq_getElem (by omega)⟩
  have HA:Cd.acts p (k:Int)=Cd.deeds p x:=by unfold Cd.acts;rw [if_pos hi,Int.toNat_natCast,hx];rfl
  rw [HA]
  exact rActs_in q p k x w h hx (hl x (List.mem_of_getElem? hx))
 ·have HA:Cd.acts p i=[]:=by unfold Cd.acts;rw [if_neg hi]
  rw [HA]
  clear HA h hl
  unfold PV.v
  unfold PV.cells
  by_cases hj:i<0
  ·have d1:decide (i<0)=true:=by simpa using hj
   go_enter Tryz.func8,Tryz.ntmps8
   go_wp2
   go_ret
   exact ⟨_,rfl,World.ownsRow_nil _ _ _ _,(Below.refl _ _).alloc (Nat.le_refl _) _⟩
  ·have d1:decide (i<0)=false:=by simpa using hj
   have d2:decide ((p.ins.length:Int)≤i)=true:=by simp;omega
   go_enter Tryz.func8,Tryz.ntmps8
   go_wp2
   go_ret
   exact ⟨_,rfl,World.ownsRow_nil _ _ _ _,(Below.refl _ _).alloc (Nat.le_refl _) _⟩
def GFi (p:List Cd.In) (k:Nat):Prop:= ∀ (i:Nat) x,i<k→p[i]? =some x→x.t.size≤100∧x.args.length≤100∧x.e.length≤1000
theorem GFi.next {p:List Cd.In} {k:Nat} {x:Cd.In} (h:GFi p k) (hx:p[k]? =some x) (h2:x.t.size≤100∧x.args.length≤100∧x.e.length≤1000):GFi p (k+1):=by
 intro i y hi hy
 by_cases he:i=k
 ·subst he;rw [hx] at hy;cases hy;exact h2
 ·exact h i y (by omega) hy
def GF (sn nv nb:Nat) (p:List Cd.In):Prop:=sn≤1000∧nv≤300∧nb≤300∧p.length≤300∧GFi p p.length
set_option maxRecDepth 100000 in
set_option maxHeartbeats 2000000 in
theorem great_in (sn:ByteArray) (av:Option Addr) (nv kv:Nat) (pr:Value) (ab:Option Addr) (nb kb:Nat) (a:Option Addr) (p:List Cd.In) (cc g o:Nat) (w:World)
  (hne:p ≠ []→a=some ⟨g,o,none⟩)
  (hvr:0<nv→ ∃ g o,av=some ⟨g,o,none⟩∧ ∀ i,i<nv→ ∃ s t,w.cell? ⟨g,o+i * 2,none⟩=some (.string s)∧w.cell? ⟨g,o+i * 2+1,none⟩=some (.string t))
  (hrow: ∀ (i:Nat) x,p[i]? =some x→ ∃ ae ce aa ca,IC w g (o+i * 11) x ae ce aa ca):
  Calls Tryz.prog 5 #[.agg #[.string sn,.slice av nv kv,pr,.slice ab nb kb,.slice a p.length cc],.int .i64 300] w fun e w'=> ∃ q:Bool,e= .returned (.bool q)∧(q=false→GF sn.size nv nb p)∧Below w.heap.size w w':=by
 have HB0:Hid (Below w.heap.size w (w.alloc (.cells #[.string sn,.slice av nv kv,pr,.slice ab nb kb,.slice a p.length cc] 26))):=hide ((Below.refl _ _).alloc (Nat.le_refl _) _)
 have HNE:=hide hne
 have HVR:=hide hvr
 have HRW:=hide hrow
 clear hne hvr hrow
 by_cases g1:1000<sn.size
 ·have d1:decide ((1000:Int)<(sn.size:Int))=true:=by simp;omega
  go_enter Tryz.func5,Tryz.ntmps5
  go_wp2
  go_ret
  exact ⟨true,rfl,(fun e=>by cases e),HB0.out⟩
 have d1:decide ((1000:Int)<(sn.size:Int))=false:=by simp;omega
 by_cases g2:300<nv
 ·have d2:decide ((300:Int)<(nv:Int))=true:=by simp;omega
  go_enter Tryz.func5,Tryz.ntmps5
  go_wp2
  go_ret
  exact ⟨true,rfl,(fun e=>by cases e),HB0.out⟩
 have d2:decide ((300:Int)<(nv:Int))=false:=by simp;omega
 by_cases g3:300<nb
 ·have d3:decide ((300:Int)<(nb:Int))=true:=by simp;omega
  go_enter Tryz.func5,Tryz.ntmps5
  go_wp2
  go_ret
  exact ⟨true,rfl,(fun e=>by cases e),HB0.out⟩
 have d3:decide ((300:Int)<(nb:Int))=false:=by simp;omega
 by_cases g4:300<p.length
 ·have d4:decide ((300:Int)<(p.length:Int))=true:=by simp;omega
  go_enter Tryz.func5,Tryz.ntmps5
  go_wp2
  go_ret
  exact ⟨true,rfl,(fun e=>by cases e),HB0.out⟩
 have d4:decide ((300:Int)<(p.length:Int))=false:=by simp;omega
 have hfew:p.length≤300:=by omega
 have HF:Hid (sn.size≤1000∧nv≤300∧nb≤300∧p.length≤300):=hide ⟨by omega,by omega,by omega,by omega⟩
 go_enter Tryz.func5,Tryz.ntmps5
 go_wp2
 have x1:(w.alloc (.cells #[.string sn,.slice av nv kv,pr,.slice ab nb kb,.slice a p.length cc] 26)).cell? ⟨w.heap.size,1,none⟩=some (.slice av nv kv):=by simp [go_sem]
 have x4:(w.alloc (.cells #[.string sn,.slice av nv kv,pr,.slice ab nb kb,.slice a p.length cc] 26)).cell? ⟨w.heap.size,4,none⟩=some (.slice a p.length cc):=by simp [go_sem]
 generalize w.alloc (.cells #[.string sn,.slice av nv kv,pr,.slice ab nb kb,.slice a p.length cc] 26)=w1 at *
 go_loopw [6] (fun iv wr=> ∃ k:Nat,k≤nv∧iv= .int .i64 k∧ ∃ n,wr=w1.drewN n) (fun iv _=>nv - (intOf iv).toNat)
 case atStart=>exact ⟨0,Nat.zero_le _,rfl,0,rfl⟩
 case round=>
  obtain ⟨k,hk,rfl,n,rfl⟩:=hrel
  by_cases hlt:k<nv
  ·obtain ⟨gv,ov,rfl,hv⟩:=HVR.out (by omega)
   obtain ⟨s,t,h5,h6⟩:=hv k hlt
   have z5:=bsome HB0.out h5
   have z6:=bsome HB0.out h6
   clear hv h5 h6
   by_cases k1:100<s.size
   ·have e1:decide ((100:Int)<(s.size:Int))=true:=by simp;omega
    go_wp2
    go_ret
    exact ⟨true,rfl,(fun e=>by cases e),below_drewN HB0.out _⟩
   have e1:decide ((100:Int)<(s.size:Int))=false:=by simp;omega
   by_cases k2:100<t.size
   ·have e2:decide ((100:Int)<(t.size:Int))=true:=by simp;omega
    go_wp2
    go_ret
    exact ⟨true,rfl,(fun e=>by cases e),below_drewN HB0.out _⟩
   have e2:decide ((100:Int)<(t.size:Int))=false:=by simp;omega
   go_wp2
   go_roundw
   case rel=>exact ⟨k+1,by omega,by go_num,_,rfl⟩
   case measure=>simp [intOf];omega
  ·have HB1:Hid (Below w.heap.size w (w1.drewN n)):=hide (below_drewN HB0.out _)
   have y4:(w1.drewN n).cell? ⟨w.heap.size,4,none⟩=some (.slice a p.length cc):=x4
   go_wp2
   generalize w1.drewN n=w2 at *
   clear x1 x4 HB0
   go_loopw [5,7] (fun nv' iv wr=> ∃ (m k:Nat),nv'= .int .i64 m∧m≤6000∧k≤p.length∧iv= .int .i64 k∧Hid (GFi p k)∧Hid (Below w2.heap.size w2 wr)) (fun _ iv _=>p.length - (intOf iv).toNat)
   case atStart=>exact ⟨0,0,rfl,by omega,by omega,rfl,hide (fun i x hi=>absurd hi (Nat.not_lt_zero _)),hide (Below.refl _ _)⟩
   case round=>
    obtain ⟨m,k,rfl,hm,hk,rfl,HG,HB⟩:=hrel
    have z4:=bsome HB.out y4
    have hzl:=World.block_lt_of_cell? _ _ z4
    dsimp only at hzl
    by_cases hlt:k<p.length
    ·obtain ⟨x,hx⟩: ∃ x,p[k]? =some x:=⟨_,List.getElem?_eq_getElem hlt⟩
     obtain ⟨ae,ce,aa,ca,h0,h1,h2,h3,h4,h5,h6,h7,h8,h9,h10,-,hargs⟩:=HRW.out k x hx
     obtain ⟨xop,u1,u2,u3,xto,u5,xe,xargs,u8,u9,u10⟩:=x
     dsimp only at h0 h1 h2 h3 h4 h5 h6 h7 h8 h9 h10 hargs
     have HX:=hide hx
     have hca:=HNE.out (by rintro rfl;simp at hlt)
     rw [hca] at z4
     have HBw:=hide (btrans HB1.out HB.out)
     have q0:=bsome HBw.out h0
     have q1:=bsome HBw.out h1
     have q2:=bsome HBw.out h2
     have q3:=bsome HBw.out h3
     have q4:=bsome HBw.out h4
     have q5:=bsome HBw.out h5
     have q6:=bsome HBw.out h6
     have q7:=bsome HBw.out h7
     have q8:=bsome HBw.out h8
     have q9:=bsome HBw.out h9
     have q10:=bsome HBw.out h10
     have hgl:=World.block_lt_of_cell? _ _ q0
     dsimp only at hgl
     have HAR:Hid (0<xargs.length→ ∃ g7 o7,aa=some ⟨g7,o7,none⟩∧ ∀ j,j<xargs.length→ ∃ a n k,w.cell? ⟨g7,o7+j * 2,none⟩=some (.slice a n k)):=hide (fun hn=>by
      obtain ⟨a',c',e',h'⟩:=hargs
      obtain ⟨rfl,-,rfl⟩:aa=a'∧True∧ca=c':=by simpa using e'
      obtain ⟨g7,o7,rfl,h8'⟩:=h' (by rintro rfl;simp at hn)
      refine ⟨g7,o7,rfl,fun j hj=> ?_⟩
      obtain ⟨⟨a9,c9,h9',-⟩,-⟩:=h8' j _ (List.getElem?_eq_getElem hj)
      exact ⟨_,_,_,h9'⟩)
     clear hx hca h0 h1 h2 h3 h4 h5 h6 h7 h8 h9 h10 hargs
     by_cases k1:100<u5.size
     ·have e1:decide ((100:Int)<(u5.size:Int))=true:=by simp;omega
      go_wp2
      go_ret
      exact ⟨true,rfl,(fun e=>by cases e),HBw.out.alloc HBw.out.size _⟩
     have e1:decide ((100:Int)<(u5.size:Int))=false:=by simp;omega
     by_cases k2:100<xargs.length
     ·have e2:decide ((100:Int)<(xargs.length:Int))=true:=by simp;omega
      go_wp2
      go_ret
      exact ⟨true,rfl,(fun e=>by cases e),HBw.out.alloc HBw.out.size _⟩
     have e2:decide ((100:Int)<(xargs.length:Int))=false:=by simp;omega
     by_cases k3:1000<xe.length
     ·have e3:decide ((1000:Int)<(xe.length:Int))=true:=by simp;omega
      go_wp2
      go_ret
      exact ⟨true,rfl,(fun e=>by cases e),HBw.out.alloc HBw.out.size _⟩
     have e3:decide ((1000:Int)<(xe.length:Int))=false:=by simp;omega
     have HG2:Hid (GFi p (k+1)):=hide (HG.out.next HX.out ⟨by dsimp only;omega,by dsimp only;omega,by dsimp only;omega⟩)
     clear HX
     obtain ⟨wo,hwo⟩: ∃ q,q=wr:=⟨_,rfl⟩
     subst hwo
     go_wp2
     have e7:(wo.alloc (.cells #[.int .i64 xop,.int .i64 u1,.int .i64 u2,.int .i64 u3,.int .i64 xto,.string u5,.slice ae xe.length ce,.slice aa xargs.length ca,.int .i64 u8,.int .i64 u9,.int .i64 u10] 53)).cell? ⟨wo.heap.size,7,none⟩=some (.slice aa xargs.length ca):=by simp [go_sem]
     have HB6:Hid (Below wo.heap.size wo (wo.alloc (.cells #[.int .i64 xop,.int .i64 u1,.int .i64 u2,.int .i64 u3,.int .i64 xto,.string u5,.slice ae xe.length ce,.slice aa xargs.length ca,.int .i64 u8,.int .i64 u9,.int .i64 u10] 53))):=hide ((Below.refl _ _).alloc (Nat.le_refl _) _)
     generalize wo.alloc (.cells #[.int .i64 xop,.int .i64 u1,.int .i64 u2,.int .i64 u3,.int .i64 xto,.string u5,.slice ae xe.length ce,.slice aa xargs.length ca,.int .i64 u8,.int .i64 u9,.int .i64 u10] 53)=w6 at *
     clear q0 q1 q2 q3 q4 q5 q6 q7 q8 q9 q10
     go_loopw [5,9] (fun nv' jv wr=> ∃ (m' j:Nat),nv'= .int .i64 m'∧m'≤7000+1000 * j∧j≤xargs.length∧jv= .int .i64 j∧ ∃ n,wr=w6.drewN n) (fun _ jv _=>xargs.length - (intOf jv).toNat)
     case atStart=>exact ⟨m+xe.length,0,by go_num,by omega,by omega,rfl,0,rfl⟩
     case round=>
      obtain ⟨m',j,rfl,hm',hj,rfl,n',rfl⟩:=hrel
      by_cases hlt7:j<xargs.length
      ·obtain ⟨g7,o7,rfl,hcell⟩:=HAR.out (by omega)
       obtain ⟨a0',nn,kk,hc⟩:=hcell j hlt7
       have z7:=bsome HB6.out (bsome HBw.out hc)
       clear hcell hc
       by_cases k4:1000<nn
       ·have e4:decide ((1000:Int)<(nn:Int))=true:=by simp;omega
        go_wp2
        go_ret
        exact ⟨true,rfl,(fun e=>by cases e),below_drewN (btrans HBw.out HB6.out) _⟩
       have e4:decide ((1000:Int)<(nn:Int))=false:=by simp;omega
       go_wp2
       go_roundw
       case rel=>exact ⟨m'+nn,j+1,by go_num,by omega,by omega,by go_num,_,rfl⟩
       case measure=>simp [intOf];omega
      ·by_cases k5:6000<m'
       ·have e5:decide ((6000:Int)<(m':Int))=true:=by simp;omega
        go_wp2
        go_ret
        exact ⟨true,rfl,(fun e=>by cases e),below_drewN (btrans HBw.out HB6.out) _⟩
       have e5:decide ((6000:Int)<(m':Int))=false:=by simp;omega
       go_wp2
       go_roundw
       case rel=>exact ⟨m',k+1,rfl,by omega,by omega,by go_num,HG2,hide (below_drewN (btrans HB.out HB6.out) _)⟩
       case measure=>simp [intOf];omega
    ·have HGe:Hid (GFi p p.length):=hide (by obtain rfl:k=p.length:=by omega
                                             exact HG.out)
     go_wp2
     go_ret
     exact ⟨false,rfl,fun _=>⟨HF.out.1,HF.out.2.1,HF.out.2.2.1,HF.out.2.2.2,HGe.out⟩,btrans HB1.out HB.out⟩
theorem great_pc (q:PV) (p:Cd.Pr) (w:World) (h:PC q p w):
  Calls Tryz.prog 5 #[q.v p,.int .i64 300] w fun e w'=> ∃ b:Bool,e= .returned (.bool b)∧(b=false→GF p.name.size p.vars.length p.blocks.length p.ins)∧Below w.heap.size w w':=by
 obtain ⟨a,c,e1,h1⟩:=h.vars
 obtain ⟨rfl,-,rfl⟩:q.av=a∧True∧q.cv=c:=by simpa using e1
 obtain ⟨a,c,e2,h2⟩:=h.ins
 obtain ⟨rfl,-,rfl⟩:q.ai=a∧True∧q.ci=c:=by simpa using e2
 by_cases hn:p.ins=[]
 ·refine great_in p.name q.av p.vars.length q.cv (.int .i64 p.params) q.ab p.blocks.length q.cb q.ai p.ins q.ci 0 0 w (fun h=>absurd hn h) ?_ (fun i x hx=>by rw [hn] at hx;simp at hx)
  intro hv
  obtain ⟨g,o,h3,h4⟩:=h1 (by intro h0;rw [h0] at hv;simp at hv)
  exact ⟨g,o,h3,fun i hi=>⟨_,_,h4 i _ (List.getElem?_eq_getElem hi)⟩⟩
 ·obtain ⟨g,o,h3,h4⟩:=h2 hn
  refine great_in p.name q.av p.vars.length q.cv (.int .i64 p.params) q.ab p.blocks.length q.cb q.ai p.ins q.ci g o w (fun _=>h3) ?_ h4
  intro hv
  obtain ⟨g,o,h3,h4⟩:=h1 (by intro h0;rw [h0] at hv;simp at hv)
  exact ⟨g,o,h3,fun i hi=>⟨_,_,h4 i _ (List.getElem?_eq_getElem hi)⟩⟩
set_option maxRecDepth 100000 in
theorem neqA_same (x y:Int) (w:World):Sem.run Tryz.prog (binOp .neq 57 (.agg #[.int .i64 x,.int .i64 y]) (.agg #[.int .i64 x,.int .i64 y])) w= .ok (.bool false) w:=by
 have u3:=Tryz.underlying3
 have a3:=Tryz.isAgg3
 have z3:=Tryz.sizeOf3
 rw [run_neq_struct,show (10000:Nat)=9999+1 from rfl,run_equalIn_agg w 9999 57 _ _ (by exact Tryz.underlying57) (by kernel_rfl)]
 simp only [Program.fieldsOf,Tryz.underlying57]
 go_simp
set_option maxHeartbeats 1000000 in
theorem sameActs_any (l:List (Int × Int)) (v1 v2:Value) (w:World) (hn:l.length≤1000000) (h1:ER w v1 l) (h2:ER w v2 l):
  Calls Tryz.prog 6 #[v1,v2] w fun e w'=>e= .returned (.bool true)∧Below w.heap.size w w':=by
 obtain ⟨a1,c1,rfl,h1⟩:=h1
 obtain ⟨a2,c2,rfl,h2⟩:=h2
 by_cases h0:l=[]
 ·subst h0
  go_enter Tryz.func6,Tryz.ntmps6
  go_wp2
  go_loop [5] (fun i=>i= .int .i64 0) (fun i=>0)
  case atStart=>rfl
  case round=>
   obtain rfl:=hrel
   go_wp2
   go_ret
   exact ⟨rfl,Below.refl _ _⟩
 ·obtain ⟨g1,o1,rfl,q1⟩:=h1 h0
  obtain ⟨g2,o2,rfl,q2⟩:=h2 h0
  have H1:=hide q1
  have H2:=hide q2
  clear h1 h2 h0 q1 q2
  go_enter Tryz.func6,Tryz.ntmps6
  go_wp2
  go_loopw [5] (fun i wr=> ∃ k:Nat,k≤l.length∧i= .int .i64 k∧ ∃ n,wr=w.drewN n) (fun i _=>l.length - (intOf i).toNat)
  case atStart=>exact ⟨0,Nat.zero_le _,rfl,0,rfl⟩
  case round=>
   obtain ⟨k,hk,rfl,n,rfl⟩:=hrel
   by_cases hlt:k<l.length
   ·obtain ⟨x,hx⟩: ∃ x,l[k]? =some x:=⟨_,List.getElem?_eq_getElem hlt⟩
    obtain ⟨g1c,g1d⟩:=H1.out k x hx
    obtain ⟨g2c,g2d⟩:=H2.out k x hx
    obtain ⟨x1,x2⟩:=x
    dsimp only at g1c g1d g2c g2d
    have heq:=neqA_same x1 x2
    clear hx
    go_wp2
    go_quiet (fail)
    go_wp2
    go_roundw
    case rel=>exact ⟨k+1,by omega,by go_num,_,rfl⟩
    case measure=>simp [intOf];omega
   ·go_wp2
    go_ret
    exact ⟨rfl,below_drewN (Below.refl _ _) _⟩
theorem Cd.deeds_len (p:Cd.Pr) (x:Cd.In) (h:x.args.length≤100):(Cd.deeds p x).length≤100:=by
 unfold Cd.deeds
 refine Nat.le_trans (List.length_filter_le _ _) ?_
 unfold Cd.acts0
 split<;> (try simp)
 split<;> (try simp)
 split<;> (try simp)
 split<;> (try simp)
 split<;> (try simp)
 split
 ·rw [List.length_map];exact Nat.le_trans (List.length_filter_le _ _) h
 ·split<;> simp
theorem Cd.acts_len (p:Cd.Pr) (i:Int) (h: ∀ x ∈ p.ins,x.args.length≤100):(Cd.acts p i).length≤100:=by
 unfold Cd.acts
 split
 ·cases hx:p.ins[i.toNat]? with
  |none=>simp
  |some x=>exact Cd.deeds_len p x (h x (List.mem_of_getElem? hx))
 ·simp
set_option maxRecDepth 100000 in
set_option maxHeartbeats 2000000 in
theorem oacts_law (q:PV) (p:Cd.Pr) (i:Int) (w:World) (h:PC q p w)
  (hbeg: ∀ w',Below w.heap.size w w'→Calls Tryz.prog 4 #[] w' fun e w''=>e= .returned (.bool true)∧Below w'.heap.size w' w''):
  Calls Tryz.prog 3 #[q.v p,.int .i64 i] w fun e w'=>e= .returned (.bool true)∧Below w.heap.size w w':=by
 have HP:=hide h
 have HBg:=hide hbeg
 have HG:Hid (∀ w',Below w.heap.size w w'→Calls Tryz.prog 5 #[q.v p,.int .i64 300] w' fun e w''=> ∃ b:Bool,e= .returned (.bool b)∧(b=false→GF p.name.size p.vars.length p.blocks.length p.ins)∧Below w'.heap.size w' w''):=hide (fun w' hb=>great_pc q p w' (HP.out.keep hb))
 have HA1:Hid ((∀ x ∈ p.ins,x.args.length≤100)→ ∀ w',Below w.heap.size w w'→Calls Tryz.prog 7 #[q.v p,.int .i64 i] w' fun e w''=> ∃ v',e= .returned v'∧ER w'' v' (Cd.acts p i)∧Below w'.heap.size w' w''):=hide (fun hl w' hb=>(oActs_any q p i w' (HP.out.keep hb) (fun x hx=>Nat.le_trans (hl x hx) (by decide))).mono (fun e w''=>by rintro ⟨v',rfl,ho,hb'⟩;exact ⟨v',rfl,own_er ho,hb'⟩))
 have HA2:Hid ((∀ x ∈ p.ins,x.args.length≤100)→ ∀ w',Below w.heap.size w w'→Calls Tryz.prog 8 #[q.v p,.int .i64 i] w' fun e w''=> ∃ v',e= .returned v'∧ER w'' v' (Cd.acts p i)∧Below w'.heap.size w' w''):=hide (fun hl w' hb=>(rActs_any q p i w' (HP.out.keep hb) (fun x hx=>Nat.le_trans (hl x hx) (by decide))).mono (fun e w''=>by rintro ⟨v',rfl,ho,hb'⟩;exact ⟨v',rfl,own_er ho,hb'⟩))
 have HS:Hid ((∀ x ∈ p.ins,x.args.length≤100)→ ∀ (w':World) (v1 v2:Value),ER w' v1 (Cd.acts p i)→ER w' v2 (Cd.acts p i)→Calls Tryz.prog 6 #[v1,v2] w' fun e w''=>e= .returned (.bool true)∧Below w'.heap.size w' w''):=hide (fun hl w' v1 v2 h1 h2=>sameActs_any (Cd.acts p i) v1 v2 w' (Nat.le_trans (Cd.acts_len p i hl) (by decide)) h1 h2)
 unfold PV.v at *
 unfold PV.cells at *
 clear h hbeg HP
 have HB0:Hid (Below w.heap.size w (w.alloc (.cells #[.string p.name,.slice q.av p.vars.length q.cv,.int .i64 p.params,.slice q.ab p.blocks.length q.cb,.slice q.ai p.ins.length q.ci] 26))):=hide ((Below.refl _ _).alloc (Nat.le_refl _) _)
 have HJ:Hid (∀ w',Below (w.alloc (.cells #[.string p.name,.slice q.av p.vars.length q.cv,.int .i64 p.params,.slice q.ab p.blocks.length q.cb,.slice q.ai p.ins.length q.ci] 26)).heap.size (w.alloc (.cells #[.string p.name,.slice q.av p.vars.length q.cv,.int .i64 p.params,.slice q.ab p.blocks.length q.cb,.slice q.ai p.ins.length q.ci] 26)) w'→w'.cell? ⟨w.heap.size,0,none⟩=some (.string p.name)∧w'.cell? ⟨w.heap.size,1,none⟩=some (.slice q.av p.vars.length q.cv)∧w'.cell? ⟨w.heap.size,2,none⟩=some (.int .i64 p.params)∧w'.cell? ⟨w.heap.size,3,none⟩=some (.slice q.ab p.blocks.length q.cb)∧w'.cell? ⟨w.heap.size,4,none⟩=some (.slice q.ai p.ins.length q.ci)):=hide (fun w' hb=>⟨bsome hb (by simp [go_sem]),bsome hb (by simp [go_sem]),bsome hb (by simp [go_sem]),bsome hb (by simp [go_sem]),bsome hb (by simp [go_sem])⟩)
 go_enter Tryz.func3,Tryz.ntmps3
 go_wp2_with fail
 generalize w.alloc (.cells #[.string p.name,.slice q.av p.vars.length q.cv,.int .i64 p.params,.slice q.ab p.blocks.length q.cb,.slice q.ai p.ins.length q.ci] 26)=W at *
 refine (HBg.out _ HB0.out).mono ?_
 rintro e w1 ⟨rfl,hb1⟩
 obtain ⟨a0,a1,a2,a3,a4⟩:=HJ.out _ hb1
 have HB1:=hide hb1
 clear hb1
 go_wp2_with fail
 refine (HG.out _ (btrans HB0.out HB1.out)).mono ?_
 rintro e w2 ⟨b,rfl,hgf,hb2⟩
 have HB2:=hide (btrans HB1.out hb2)
 obtain ⟨b0,b1,b2,b3,b4⟩:=HJ.out _ HB2.out
 clear hb2 HBg HG a0 a1 a2 a3 a4
 cases b with
 |true=>
  clear hgf
  go_wp2
  go_ret
  exact ⟨rfl,btrans HB0.out HB2.out⟩
 |false=>
  have hgi:=(hgf rfl).2.2.2.2
  have HL:Hid (∀ x ∈ p.ins,x.args.length≤100):=hide (fun x hx=>by
   obtain ⟨k,hk,he⟩:=List.mem_iff_getElem.1 hx
   exact (hgi k x hk (by rw [←he];exact List.getElem?_eq_getElem hk)).2.1)
  have C1:=hide (HA1.out HL.out)
  have C2:=hide (HA2.out HL.out)
  have C3:=hide (HS.out HL.out)
  clear hgf hgi HA1 HA2 HS HL
  go_wp2
  have kc:Hid (Below W.heap.size W w2.drew):=hide (below_drewN HB2.out 1)
  go_region_held3 (fun w'=>w'.cell? ⟨w.heap.size,0,none⟩=some (.string p.name)∧w'.cell? ⟨w.heap.size,1,none⟩=some (.slice q.av p.vars.length q.cv)∧w'.cell? ⟨w.heap.size,2,none⟩=some (.int .i64 p.params)∧w'.cell? ⟨w.heap.size,3,none⟩=some (.slice q.ab p.blocks.length q.cb)∧w'.cell? ⟨w.heap.size,4,none⟩=some (.slice q.ai p.ins.length q.ci)) ((first|exact ⟨by assumption,by assumption,by assumption,by assumption,by assumption⟩|go_keep)) ((first
   |(go_at_call 7;refine (C1.out _ (by exact btrans HB0.out kc.out)).mono ?_;rintro e w7 ⟨v7,rfl,ho7,hb7⟩;have HO7:=hide ho7;have HB7:=hide hb7;have kd:=hide (btrans kc.out hb7);clear kc;have kc:=kd;clear kd ho7 hb7;obtain ⟨j0,j1,j2,j3,j4⟩:=HJ.out _ kc.out)
   |(go_at_call 8;refine (C2.out _ (by exact btrans HB0.out kc.out)).mono ?_;rintro e w8 ⟨v8,rfl,ho8,hb8⟩;have HO8:=hide ho8;have HB8:=hide hb8;have kd:=hide (btrans kc.out hb8);clear kc;have kc:=kd;clear kd ho8 hb8;obtain ⟨j0,j1,j2,j3,j4⟩:=HJ.out _ kc.out)
   |(go_at_call 6;refine (C3.out _ _ _ (by first|exact HO7.out.keep HB8.out|exact HO7.out) (by first|exact HO8.out|exact HO8.out.keep HB7.out)).mono ?_;rintro e w9 ⟨rfl,hb9⟩;have kd:=hide (btrans kc.out hb9);clear kc;have kc:=kd;clear kd hb9;obtain ⟨j0,j1,j2,j3,j4⟩:=HJ.out _ kc.out)))
  all_goals
   go_wp2
   go_ret
   exact ⟨rfl,btrans HB0.out kc.out⟩
end Go.Proofs.YteeocekjekclbaaGreatDoor
