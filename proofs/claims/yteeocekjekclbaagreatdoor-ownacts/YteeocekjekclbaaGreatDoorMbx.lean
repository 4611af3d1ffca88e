import Derived.Test.YteeocekjekclbaaGreatDoorMbs
namespace Go.Proofs.YteeocekjekclbaaGreatDoor
open Go.RowKit
theorem Cd.one_f (p:Cd.Pr) (a y:Int):(if Cd.isEnd p y then ([]:List (Int × Int))++[(a,y)] else [])=[(a,y)].filter fun z=>Cd.isEnd p z.2:=by
 cases h:Cd.isEnd p y<;> simp [h]
theorem Cd.two_f (p:Cd.Pr) (a y b z:Int):(if Cd.isEnd p z then (if Cd.isEnd p y then ([]:List (Int × Int))++[(a,y)] else [])++[(b,z)] else (if Cd.isEnd p y then ([]:List (Int × Int))++[(a,y)] else []))=[(a,y),(b,z)].filter fun u=>Cd.isEnd p u.2:=by
 cases h:Cd.isEnd p y<;> cases h':Cd.isEnd p z<;> simp [h,h']
theorem Cd.one_l (p:Cd.Pr) (a y:Int):(if Cd.isEnd p y then ([]:List (Int × Int))++[(a,y)] else []).length≤100000:=by
 cases h:Cd.isEnd p y<;> simp
set_option maxRecDepth 100000 in
set_option maxHeartbeats 4000000 in
theorem racts3_any (q:PV) (p:Cd.Pr) (k:Nat) (x:Cd.In) (w:World) (h:PC q p w) (hx:p.ins[k]? =some x) (hop:x.op=3):
  Calls Tryz.prog 8 #[q.v p,.int .i64 (k:Int)] w fun e w'=> ∃ v',e= .returned v'∧w'.ownsRow w.heap.size 57 2 v' (Cd.deeds p x).length (fcells (Cd.deeds p x))∧Below w.heap.size w w':=by
 have hk:=(List.getElem?_eq_some_iff.1 hx).1
 obtain ⟨ai,ci,e1,h1⟩:=h.ins
 obtain ⟨e2,e3⟩:q.ai=ai∧q.ci=ci:=by simpa using e1
 obtain ⟨g,o,e4,h2⟩:=h1 (List.ne_nil_of_mem (List.mem_of_getElem? hx))
 obtain ⟨ae,ce,aa,ca,h3⟩:=h2 k x hx
 rw [←e2] at e4
 have HE4:=hide e4
 have HP:=hide h
 have HI:=hide h3
 have i1:(0:Int)≤(k:Int):=by omega
 have i2:(k:Int)<(p.ins.length:Int):=by omega
 have d1:decide ((k:Int)<0)=false:=by simp
 have d2:decide ((p.ins.length:Int)≤(k:Int))=false:=by simp;omega
 clear h h1 h2 h3 hx hk e1 e2 e3 e4
 obtain ⟨xop,xa,xb,xn,xto,xt,xe,xargs,xbk,xlp,xat⟩:=x
 dsimp only at *
 subst hop
 have HD:Hid (Cd.deeds p ⟨3,xa,xb,xn,xto,xt,xe,xargs,xbk,xlp,xat⟩=([(3,xa),(3,xb)]:List (Int × Int)).filter fun y=>Cd.isEnd p y.2):=hide rfl
 generalize Cd.deeds p ⟨3,xa,xb,xn,xto,xt,xe,xargs,xbk,xlp,xat⟩=D at HD ⊢
 have HAC:Hid (∀ (w0 w':World) (v:Value) (L:List (Int × Int)) (kk yy:Int),Below w.heap.size w w0→Below w0.heap.size w0 w'→w'.ownsRow w0.heap.size 57 2 v L.length (fcells L)→L.length≤100000→Calls Tryz.prog 13 #[q.v p,v,.int .i64 kk,.int .i64 yy] w' fun e w''=> ∃ v',e= .returned v'∧w''.ownsRow w0.heap.size 57 2 v' (if Cd.isEnd p yy then L++[(kk,yy)] else L).length (fcells (if Cd.isEnd p yy then L++[(kk,yy)] else L))∧Below w0.heap.size w' w''):=hide (fun w0 w' v L kk yy hb0 hb ho hl=>act_any q p _ v L kk yy w' (HP.out.keep (btrans hb0 hb)) ho hl hb.size)
 unfold PV.v at *
 unfold PV.cells at *
 obtain ⟨qav,qcv,qab,qcb,qai,qci⟩:=q
 dsimp only at *
 obtain rfl:=HE4.out
 clear HE4
 obtain ⟨c0,c1,c2,c3,c4,c5,c6,c7,c8,c9,c10,-,cA⟩:=HI.out.keep (w':=w.alloc (.cells #[.string p.name,.slice qav p.vars.length qcv,.int .i64 p.params,.slice qab p.blocks.length qcb,.slice (some ⟨g,o,none⟩) p.ins.length qci] 26)) ((Below.refl _ _).alloc (Nat.le_refl _) _)
 dsimp only at c0 c1 c2 c3 c4 c5 c6 c7 c8 c9 c10 cA
 have HcA:=hide cA
 clear HI HP cA
 go_enter Tryz.func8,Tryz.ntmps8
 go_wp2
 have HB0:Hid (Below w.heap.size w ((w.alloc (.cells #[.string p.name,.slice qav p.vars.length qcv,.int .i64 p.params,.slice qab p.blocks.length qcb,.slice (some ⟨g,o,none⟩) p.ins.length qci] 26)).alloc (.cells #[.int .i64 3,.int .i64 xa,.int .i64 xb,.int .i64 xn,.int .i64 xto,.string xt,.slice ae xe.length ce,.slice aa xargs.length ca,.int .i64 xbk,.int .i64 xlp,.int .i64 xat] 53))):=hide (((Below.refl _ _).alloc (Nat.le_refl _) _).alloc (by simp) _)
 have HB1:Hid (Below (w.alloc (.cells #[.string p.name,.slice qav p.vars.length qcv,.int .i64 p.params,.slice qab p.blocks.length qcb,.slice (some ⟨g,o,none⟩) p.ins.length qci] 26)).heap.size (w.alloc (.cells #[.string p.name,.slice qav p.vars.length qcv,.int .i64 p.params,.slice qab p.blocks.length qcb,.slice (some ⟨g,o,none⟩) p.ins.length qci] 26)) ((w.alloc (.cells #[.string p.name,.slice qav p.vars.length qcv,.int .i64 p.params,.slice qab p.blocks.length qcb,.slice (some ⟨g,o,none⟩) p.ins.length qci] 26)).alloc (.cells #[.int .i64 3,.int .i64 xa,.int .i64 xb,.int .i64 xn,.int .i64 xto,.string xt,.slice ae xe.length ce,.slice aa xargs.length ca,.int .i64 xbk,.int .i64 xlp,.int .i64 xat] 53))):=hide ((Below.refl _ _).alloc (Nat.le_refl _) _)
 have HcB:=hide (HcA.out.keep HB1.out)
 clear c0 c1 c2 c3 c4 c5 c6 c7 c8 c9 c10 HcA HB1
 obtain ⟨W,hW⟩: ∃ W,((w.alloc (.cells #[.string p.name,.slice qav p.vars.length qcv,.int .i64 p.params,.slice qab p.blocks.length qcb,.slice (some ⟨g,o,none⟩) p.ins.length qci] 26)).alloc (.cells #[.int .i64 3,.int .i64 xa,.int .i64 xb,.int .i64 xn,.int .i64 xto,.string xt,.slice ae xe.length ce,.slice aa xargs.length ca,.int .i64 xbk,.int .i64 xlp,.int .i64 xat] 53))=W:=⟨_,rfl⟩
 have HJ:Hid (∀ w',Below W.heap.size W w'→w'.cell? ⟨w.heap.size,0,none⟩=some (.string p.name)∧w'.cell? ⟨w.heap.size,1,none⟩=some (.slice qav p.vars.length qcv)∧w'.cell? ⟨w.heap.size,2,none⟩=some (.int .i64 p.params)∧w'.cell? ⟨w.heap.size,3,none⟩=some (.slice qab p.blocks.length qcb)∧w'.cell? ⟨w.heap.size,4,none⟩=some (.slice (some ⟨g,o,none⟩) p.ins.length qci)∧w'.cell? ⟨w.heap.size+1,1,none⟩=some (.int .i64 xa)∧w'.cell? ⟨w.heap.size+1,2,none⟩=some (.int .i64 xb)∧w'.cell? ⟨w.heap.size+1,7,none⟩=some (.slice aa xargs.length ca)):=hide (fun w' hb=>⟨bsome hb (by rw [←hW];simp [go_sem]),bsome hb (by rw [←hW];simp [go_sem]),bsome hb (by rw [←hW];simp [go_sem]),bsome hb (by rw [←hW];simp [go_sem]),bsome hb (by rw [←hW];simp [go_sem]),bsome hb (by rw [←hW];simp [go_sem]),bsome hb (by rw [←hW];simp [go_sem]),bsome hb (by rw [←hW];simp [go_sem])⟩)
 rw [hW] at HB0 HcB ⊢
 clear hW
 have HC1:=hide (fun w' hb=>HAC.out W w' (.slice none 0 0) [] 3 xa HB0.out hb (World.ownsRow_nil _ _ _ _) (by simp))
 have HC2:=hide (fun w' v hb ho=>HAC.out W w' v (if Cd.isEnd p xa then ([]:List (Int × Int))++[(3,xa)] else []) 3 xb HB0.out hb ho (Cd.one_l _ _ _))
 clear HAC HcB
 have kc:Hid (Below W.heap.size W W.drew):=hide (below_drewN (Below.refl _ _) 1)
 obtain ⟨a0,a1,a2,a3,a4,a5,a6,a7⟩:=HJ.out W (Below.refl _ _)
 go_region_held3 (fun w'=>w'.cell? ⟨w.heap.size,0,none⟩=some (.string p.name)∧w'.cell? ⟨w.heap.size,1,none⟩=some (.slice qav p.vars.length qcv)∧w'.cell? ⟨w.heap.size,2,none⟩=some (.int .i64 p.params)∧w'.cell? ⟨w.heap.size,3,none⟩=some (.slice qab p.blocks.length qcb)∧w'.cell? ⟨w.heap.size,4,none⟩=some (.slice (some ⟨g,o,none⟩) p.ins.length qci)∧w'.cell? ⟨w.heap.size+1,1,none⟩=some (.int .i64 xa)∧w'.cell? ⟨w.heap.size+1,2,none⟩=some (.int .i64 xb)∧w'.cell? ⟨w.heap.size+1,7,none⟩=some (.slice aa xargs.length ca)) ((first|exact ⟨by assumption,by assumption,by assumption,by assumption,by assumption,by assumption,by assumption,by assumption⟩|go_keep)) ((first
   |(go_at_call 13;with_reducible refine (HC1.out _ (by exact kc.out)).mono ?_;rintro e w7 ⟨v7,rfl,ho7,hb7⟩;have HO7:=hide ho7;have HB7:=hide (kc.out.trans hb7);clear ho7 hb7;obtain ⟨j0,j1,j2,j3,j4,j5,j6,j7⟩:=HJ.out _ HB7.out)
   |(go_at_call 13;with_reducible refine (HC2.out _ _ (by exact HB7.out) (by exact HO7.out)).mono ?_;rintro e w9 ⟨v9,rfl,ho9,hb9⟩;have HO9:=hide ho9;have HB9:=hide (HB7.out.trans hb9);clear ho9 hb9;obtain ⟨j0,j1,j2,j3,j4,j5,j6,j7⟩:=HJ.out _ HB9.out)))
 all_goals
  go_wp2
  go_ret
  exact ⟨_,rfl,by rw [HD.out,←Cd.two_f];exact own_low HO9.out HB0.out.size,btrans HB0.out HB9.out⟩
set_option maxRecDepth 100000 in
set_option maxHeartbeats 4000000 in
theorem racts4_any (q:PV) (p:Cd.Pr) (k:Nat) (x:Cd.In) (w:World) (h:PC q p w) (hx:p.ins[k]? =some x) (hop:x.op=4):
  Calls Tryz.prog 8 #[q.v p,.int .i64 (k:Int)] w fun e w'=> ∃ v',e= .returned v'∧w'.ownsRow w.heap.size 57 2 v' (Cd.deeds p x).length (fcells (Cd.deeds p x))∧Below w.heap.size w w':=by
 have hk:=(List.getElem?_eq_some_iff.1 hx).1
 obtain ⟨ai,ci,e1,h1⟩:=h.ins
 obtain ⟨e2,e3⟩:q.ai=ai∧q.ci=ci:=by simpa using e1
 obtain ⟨g,o,e4,h2⟩:=h1 (List.ne_nil_of_mem (List.mem_of_getElem? hx))
 obtain ⟨ae,ce,aa,ca,h3⟩:=h2 k x hx
 rw [←e2] at e4
 have HE4:=hide e4
 have HP:=hide h
 have HI:=hide h3
 have i1:(0:Int)≤(k:Int):=by omega
 have i2:(k:Int)<(p.ins.length:Int):=by omega
 have d1:decide ((k:Int)<0)=false:=by simp
 have d2:decide ((p.ins.length:Int)≤(k:Int))=false:=by simp;omega
 clear h h1 h2 h3 hx hk e1 e2 e3 e4
 obtain ⟨xop,xa,xb,xn,xto,xt,xe,xargs,xbk,xlp,xat⟩:=x
 dsimp only at *
 subst hop
 have HD:Hid (Cd.deeds p ⟨4,xa,xb,xn,xto,xt,xe,xargs,xbk,xlp,xat⟩=([(1,xb),(3,xa)]:List (Int × Int)).filter fun y=>Cd.isEnd p y.2):=hide rfl
 generalize Cd.deeds p ⟨4,xa,xb,xn,xto,xt,xe,xargs,xbk,xlp,xat⟩=D at HD ⊢
 have HAC:Hid (∀ (w0 w':World) (v:Value) (L:List (Int × Int)) (kk yy:Int),Below w.heap.size w w0→Below w0.heap.size w0 w'→w'.ownsRow w0.heap.size 57 2 v L.length (fcells L)→L.length≤100000→Calls Tryz.prog 13 #[q.v p,v,.int .i64 kk,.int .i64 yy] w' fun e w''=> ∃ v',e= .returned v'∧w''.ownsRow w0.heap.size 57 2 v' (if Cd.isEnd p yy then L++[(kk,yy)] else L).length (fcells (if Cd.isEnd p yy then L++[(kk,yy)] else L))∧Below w0.heap.size w' w''):=hide (fun w0 w' v L kk yy hb0 hb ho hl=>act_any q p _ v L kk yy w' (HP.out.keep (btrans hb0 hb)) ho hl hb.size)
 unfold PV.v at *
 unfold PV.cells at *
 obtain ⟨qav,qcv,qab,qcb,qai,qci⟩:=q
 dsimp only at *
 obtain rfl:=HE4.out
 clear HE4
 obtain ⟨c0,c1,c2,c3,c4,c5,c6,c7,c8,c9,c10,-,cA⟩:=HI.out.keep (w':=w.alloc (.cells #[.string p.name,.slice qav p.vars.length qcv,.int .i64 p.params,.slice qab p.blocks.length qcb,.slice (some ⟨g,o,none⟩) p.ins.length qci] 26)) ((Below.refl _ _).alloc (Nat.le_refl _) _)
 dsimp only at c0 c1 c2 c3 c4 c5 c6 c7 c8 c9 c10 cA
 have HcA:=hide cA
 clear HI HP cA
 go_enter Tryz.func8,Tryz.ntmps8
 go_wp2
 have HB0:Hid (Below w.heap.size w ((w.alloc (.cells #[.string p.name,.slice qav p.vars.length qcv,.int .i64 p.params,.slice qab p.blocks.length qcb,.slice (some ⟨g,o,none⟩) p.ins.length qci] 26)).alloc (.cells #[.int .i64 4,.int .i64 xa,.int .i64 xb,.int .i64 xn,.int .i64 xto,.string xt,.slice ae xe.length ce,.slice aa xargs.length ca,.int .i64 xbk,.int .i64 xlp,.int .i64 xat] 53))):=hide (((Below.refl _ _).alloc (Nat.le_refl _) _).alloc (by simp) _)
 have HB1:Hid (Below (w.alloc (.cells #[.string p.name,.slice qav p.vars.length qcv,.int .i64 p.params,.slice qab p.blocks.length qcb,.slice (some ⟨g,o,none⟩) p.ins.length qci] 26)).heap.size (w.alloc (.cells #[.string p.name,.slice qav p.vars.length qcv,.int .i64 p.params,.slice qab p.blocks.length qcb,.slice (some ⟨g,o,none⟩) p.ins.length qci] 26)) ((w.alloc (.cells #[.string p.name,.slice qav p.vars.length qcv,.int .i64 p.params,.slice qab p.blocks.length qcb,.slice (some ⟨g,o,none⟩) p.ins.length qci] 26)).alloc (.cells #[.int .i64 4,.int .i64 xa,.int .i64 xb,.int .i64 xn,.int .i64 xto,.string xt,.slice ae xe.length ce,.slice aa xargs.length ca,.int .i64 xbk,.int .i64 xlp,.int .i64 xat] 53))):=hide ((Below.refl _ _).alloc (Nat.le_refl _) _)
 have HcB:=hide (HcA.out.keep HB1.out)
 clear c0 c1 c2 c3 c4 c5 c6 c7 c8 c9 c10 HcA HB1
 obtain ⟨W,hW⟩: ∃ W,((w.alloc (.cells #[.string p.name,.slice qav p.vars.length qcv,.int .i64 p.params,.slice qab p.blocks.length qcb,.slice (some ⟨g,o,none⟩) p.ins.length qci] 26)).alloc (.cells #[.int .i64 4,.int .i64 xa,.int .i64 xb,.int .i64 xn,.int .i64 xto,.string xt,.slice ae xe.length ce,.slice aa xargs.length ca,.int .i64 xbk,.int .i64 xlp,.int .i64 xat] 53))=W:=⟨_,rfl⟩
 have HJ:Hid (∀ w',Below W.heap.size W w'→w'.cell? ⟨w.heap.size,0,none⟩=some (.string p.name)∧w'.cell? ⟨w.heap.size,1,none⟩=some (.slice qav p.vars.length qcv)∧w'.cell? ⟨w.heap.size,2,none⟩=some (.int .i64 p.params)∧w'.cell? ⟨w.heap.size,3,none⟩=some (.slice qab p.blocks.length qcb)∧w'.cell? ⟨w.heap.size,4,none⟩=some (.slice (some ⟨g,o,none⟩) p.ins.length qci)∧w'.cell? ⟨w.heap.size+1,1,none⟩=some (.int .i64 xa)∧w'.cell? ⟨w.heap.size+1,2,none⟩=some (.int .i64 xb)∧w'.cell? ⟨w.heap.size+1,7,none⟩=some (.slice aa xargs.length ca)):=hide (fun w' hb=>⟨bsome hb (by rw [←hW];simp [go_sem]),bsome hb (by rw [←hW];simp [go_sem]),bsome hb (by rw [←hW];simp [go_sem]),bsome hb (by rw [←hW];simp [go_sem]),bsome hb (by rw [←hW];simp [go_sem]),bsome hb (by rw [←hW];simp [go_sem]),bsome hb (by rw [←hW];simp [go_sem]),bsome hb (by rw [←hW];simp [go_sem])⟩)
 rw [hW] at HB0 HcB ⊢
 clear hW
 have HC1:=hide (fun w' hb=>HAC.out W w' (.slice none 0 0) [] 1 xb HB0.out hb (World.ownsRow_nil _ _ _ _) (by simp))
 have HC2:=hide (fun w' v hb ho=>HAC.out W w' v (if Cd.isEnd p xb then ([]:List (Int × Int))++[(1,xb)] else []) 3 xa HB0.out hb ho (Cd.one_l _ _ _))
 clear HAC HcB
 have kc:Hid (Below W.heap.size W W.drew):=hide (below_drewN (Below.refl _ _) 1)
 obtain ⟨a0,a1,a2,a3,a4,a5,a6,a7⟩:=HJ.out W (Below.refl _ _)
 go_region_held3 (fun w'=>w'.cell? ⟨w.heap.size,0,none⟩=some (.string p.name)∧w'.cell? ⟨w.heap.size,1,none⟩=some (.slice qav p.vars.length qcv)∧w'.cell? ⟨w.heap.size,2,none⟩=some (.int .i64 p.params)∧w'.cell? ⟨w.heap.size,3,none⟩=some (.slice qab p.blocks.length qcb)∧w'.cell? ⟨w.heap.size,4,none⟩=some (.slice (some ⟨g,o,none⟩) p.ins.length qci)∧w'.cell? ⟨w.heap.size+1,1,none⟩=some (.int .i64 xa)∧w'.cell? ⟨w.heap.size+1,2,none⟩=some (.int .i64 xb)∧w'.cell? ⟨w.heap.size+1,7,none⟩=some (.slice aa xargs.length ca)) ((first|exact ⟨by assumption,by assumption,by assumption,by assumption,by assumption,by assumption,by assumption,by assumption⟩|go_keep)) ((first
   |(go_at_call 13;with_reducible refine (HC1.out _ (by exact kc.out)).mono ?_;rintro e w7 ⟨v7,rfl,ho7,hb7⟩;have HO7:=hide ho7;have HB7:=hide (kc.out.trans hb7);clear ho7 hb7;obtain ⟨j0,j1,j2,j3,j4,j5,j6,j7⟩:=HJ.out _ HB7.out)
   |(go_at_call 13;with_reducible refine (HC2.out _ _ (by exact HB7.out) (by exact HO7.out)).mono ?_;rintro e w9 ⟨v9,rfl,ho9,hb9⟩;have HO9:=hide ho9;have HB9:=hide (HB7.out.trans hb9);clear ho9 hb9;obtain ⟨j0,j1,j2,j3,j4,j5,j6,j7⟩:=HJ.out _ HB9.out)))
 all_goals
  go_wp2
  go_ret
  exact ⟨_,rfl,by rw [HD.out,←Cd.two_f];exact own_low HO9.out HB0.out.size,btrans HB0.out HB9.out⟩
set_option maxRecDepth 100000 in
set_option maxHeartbeats 4000000 in
theorem racts11_any (q:PV) (p:Cd.Pr) (k:Nat) (x:Cd.In) (w:World) (h:PC q p w) (hx:p.ins[k]? =some x) (hop:x.op=11):
  Calls Tryz.prog 8 #[q.v p,.int .i64 (k:Int)] w fun e w'=> ∃ v',e= .returned v'∧w'.ownsRow w.heap.size 57 2 v' (Cd.deeds p x).length (fcells (Cd.deeds p x))∧Below w.heap.size w w':=by
 have hk:=(List.getElem?_eq_some_iff.1 hx).1
 obtain ⟨ai,ci,e1,h1⟩:=h.ins
 obtain ⟨e2,e3⟩:q.ai=ai∧q.ci=ci:=by simpa using e1
 obtain ⟨g,o,e4,h2⟩:=h1 (List.ne_nil_of_mem (List.mem_of_getElem? hx))
 obtain ⟨ae,ce,aa,ca,h3⟩:=h2 k x hx
 rw [←e2] at e4
 have HE4:=hide e4
 have HP:=hide h
 have HI:=hide h3
 have i1:(0:Int)≤(k:Int):=by omega
 have i2:(k:Int)<(p.ins.length:Int):=by omega
 have d1:decide ((k:Int)<0)=false:=by simp
 have d2:decide ((p.ins.length:Int)≤(k:Int))=false:=by simp;omega
 clear h h1 h2 h3 hx hk e1 e2 e3 e4
 obtain ⟨xop,xa,xb,xn,xto,xt,xe,xargs,xbk,xlp,xat⟩:=x
 dsimp only at *
 subst hop
 have HD:Hid (Cd.deeds p ⟨11,xa,xb,xn,xto,xt,xe,xargs,xbk,xlp,xat⟩=([(1,xb),(3,xa)]:List (Int × Int)).filter fun y=>Cd.isEnd p y.2):=hide rfl
 generalize Cd.deeds p ⟨11,xa,xb,xn,xto,xt,xe,xargs,xbk,xlp,xat⟩=D at HD ⊢
 have HAC:Hid (∀ (w0 w':World) (v:Value) (L:List (Int × Int)) (kk yy:Int),Below w.heap.size w w0→Below w0.heap.size w0 w'→w'.ownsRow w0.heap.size 57 2 v L.length (fcells L)→L.length≤100000→Calls Tryz.prog 13 #[q.v p,v,.int .i64 kk,.int .i64 yy] w' fun e w''=> ∃ v',e= .returned v'∧w''.ownsRow w0.heap.size 57 2 v' (if Cd.isEnd p yy then L++[(kk,yy)] else L).length (fcells (if Cd.isEnd p yy then L++[(kk,yy)] else L))∧Below w0.heap.size w' w''):=hide (fun w0 w' v L kk yy hb0 hb ho hl=>act_any q p _ v L kk yy w' (HP.out.keep (btrans hb0 hb)) ho hl hb.size)
 unfold PV.v at *
 unfold PV.cells at *
 obtain ⟨qav,qcv,qab,qcb,qai,qci⟩:=q
 dsimp only at *
 obtain rfl:=HE4.out
 clear HE4
 obtain ⟨c0,c1,c2,c3,c4,c5,c6,c7,c8,c9,c10,-,cA⟩:=HI.out.keep (w':=w.alloc (.cells #[.string p.name,.slice qav p.vars.length qcv,.int .i64 p.params,.slice qab p.blocks.length qcb,.slice (some ⟨g,o,none⟩) p.ins.length qci] 26)) ((Below.refl _ _).alloc (Nat.le_refl _) _)
 dsimp only at c0 c1 c2 c3 c4 c5 c6 c7 c8 c9 c10 cA
 have HcA:=hide cA
 clear HI HP cA
 go_enter Tryz.func8,Tryz.ntmps8
 go_wp2
 have HB0:Hid (Below w.heap.size w ((w.alloc (.cells #[.string p.name,.slice qav p.vars.length qcv,.int .i64 p.params,.slice qab p.blocks.length qcb,.slice (some ⟨g,o,none⟩) p.ins.length qci] 26)).alloc (.cells #[.int .i64 11,.int .i64 xa,.int .i64 xb,.int .i64 xn,.int .i64 xto,.string xt,.slice ae xe.length ce,.slice aa xargs.length ca,.int .i64 xbk,.int .i64 xlp,.int .i64 xat] 53))):=hide (((Below.refl _ _).alloc (Nat.le_refl _) _).alloc (by simp) _)
 have HB1:Hid (Below (w.alloc (.cells #[.string p.name,.slice qav p.vars.length qcv,.int .i64 p.params,.slice qab p.blocks.length qcb,.slice (some ⟨g,o,none⟩) p.ins.length qci] 26)).heap.size (w.alloc (.cells #[.string p.name,.slice qav p.vars.length qcv,.int .i64 p.params,.slice qab p.blocks.length qcb,.slice (some ⟨g,o,none⟩) p.ins.length qci] 26)) ((w.alloc (.cells #[.string p.name,.slice qav p.vars.length qcv,.int .i64 p.params,.slice qab p.blocks.length qcb,.slice (some ⟨g,o,none⟩) p.ins.length qci] 26)).alloc (.cells #[.int .i64 11,.int .i64 xa,.int .i64 xb,.int .i64 xn,.int .i64 xto,.string xt,.slice ae xe.length ce,.slice aa xargs.length ca,.int .i64 xbk,.int .i64 xlp,.int .i64 xat] 53))):=hide ((Below.refl _ _).alloc (Nat.le_refl _) _)
 have HcB:=hide (HcA.out.keep HB1.out)
 clear c0 c1 c2 c3 c4 c5 c6 c7 c8 c9 c10 HcA HB1
 obtain ⟨W,hW⟩: ∃ W,((w.alloc (.cells #[.string p.name,.slice qav p.vars.length qcv,.int .i64 p.params,.slice qab p.blocks.length qcb,.slice (some ⟨g,o,none⟩) p.ins.length qci] 26)).alloc (.cells #[.int .i64 11,.int .i64 xa,.int .i64 xb,.int .i64 xn,.int .i64 xto,.string xt,.slice ae xe.length ce,.slice aa xargs.length ca,.int .i64 xbk,.int .i64 xlp,.int .i64 xat] 53))=W:=⟨_,rfl⟩
 have HJ:Hid (∀ w',Below W.heap.size W w'→w'.cell? ⟨w.heap.size,0,none⟩=some (.string p.name)∧w'.cell? ⟨w.heap.size,1,none⟩=some (.slice qav p.vars.length qcv)∧w'.cell? ⟨w.heap.size,2,none⟩=some (.int .i64 p.params)∧w'.cell? ⟨w.heap.size,3,none⟩=some (.slice qab p.blocks.length qcb)∧w'.cell? ⟨w.heap.size,4,none⟩=some (.slice (some ⟨g,o,none⟩) p.ins.length qci)∧w'.cell? ⟨w.heap.size+1,1,none⟩=some (.int .i64 xa)∧w'.cell? ⟨w.heap.size+1,2,none⟩=some (.int .i64 xb)∧w'.cell? ⟨w.heap.size+1,7,none⟩=some (.slice aa xargs.length ca)):=hide (fun w' hb=>⟨bsome hb (by rw [←hW];simp [go_sem]),bsome hb (by rw [←hW];simp [go_sem]),bsome hb (by rw [←hW];simp [go_sem]),bsome hb (by rw [←hW];simp [go_sem]),bsome hb (by rw [←hW];simp [go_sem]),bsome hb (by rw [←hW];simp [go_sem]),bsome hb (by rw [←hW];simp [go_sem]),bsome hb (by rw [←hW];simp [go_sem])⟩)
 rw [hW] at HB0 HcB ⊢
 clear hW
 have HC1:=hide (fun w' hb=>HAC.out W w' (.slice none 0 0) [] 1 xb HB0.out hb (World.ownsRow_nil _ _ _ _) (by simp))
 have HC2:=hide (fun w' v hb ho=>HAC.out W w' v (if Cd.isEnd p xb then ([]:List (Int × Int))++[(1,xb)] else []) 3 xa HB0.out hb ho (Cd.one_l _ _ _))
 clear HAC HcB
 have kc:Hid (Below W.heap.size W W.drew):=hide (below_drewN (Below.refl _ _) 1)
 obtain ⟨a0,a1,a2,a3,a4,a5,a6,a7⟩:=HJ.out W (Below.refl _ _)
 go_region_held3 (fun w'=>w'.cell? ⟨w.heap.size,0,none⟩=some (.string p.name)∧w'.cell? ⟨w.heap.size,1,none⟩=some (.slice qav p.vars.length qcv)∧w'.cell? ⟨w.heap.size,2,none⟩=some (.int .i64 p.params)∧w'.cell? ⟨w.heap.size,3,none⟩=some (.slice qab p.blocks.length qcb)∧w'.cell? ⟨w.heap.size,4,none⟩=some (.slice (some ⟨g,o,none⟩) p.ins.length qci)∧w'.cell? ⟨w.heap.size+1,1,none⟩=some (.int .i64 xa)∧w'.cell? ⟨w.heap.size+1,2,none⟩=some (.int .i64 xb)∧w'.cell? ⟨w.heap.size+1,7,none⟩=some (.slice aa xargs.length ca)) ((first|exact ⟨by assumption,by assumption,by assumption,by assumption,by assumption,by assumption,by assumption,by assumption⟩|go_keep)) ((first
   |(go_at_call 13;with_reducible refine (HC1.out _ (by exact kc.out)).mono ?_;rintro e w7 ⟨v7,rfl,ho7,hb7⟩;have HO7:=hide ho7;have HB7:=hide (kc.out.trans hb7);clear ho7 hb7;obtain ⟨j0,j1,j2,j3,j4,j5,j6,j7⟩:=HJ.out _ HB7.out)
   |(go_at_call 13;with_reducible refine (HC2.out _ _ (by exact HB7.out) (by exact HO7.out)).mono ?_;rintro e w9 ⟨v9,rfl,ho9,hb9⟩;have HO9:=hide ho9;have HB9:=hide (HB7.out.trans hb9);clear ho9 hb9;obtain ⟨j0,j1,j2,j3,j4,j5,j6,j7⟩:=HJ.out _ HB9.out)))
 all_goals
  go_wp2
  go_ret
  exact ⟨_,rfl,by rw [HD.out,←Cd.two_f];exact own_low HO9.out HB0.out.size,btrans HB0.out HB9.out⟩
set_option maxRecDepth 100000 in
set_option maxHeartbeats 4000000 in
theorem racts6_any (q:PV) (p:Cd.Pr) (k:Nat) (x:Cd.In) (w:World) (h:PC q p w) (hx:p.ins[k]? =some x) (hop:x.op=6):
  Calls Tryz.prog 8 #[q.v p,.int .i64 (k:Int)] w fun e w'=> ∃ v',e= .returned v'∧w'.ownsRow w.heap.size 57 2 v' (Cd.deeds p x).length (fcells (Cd.deeds p x))∧Below w.heap.size w w':=by
 have hk:=(List.getElem?_eq_some_iff.1 hx).1
 obtain ⟨ai,ci,e1,h1⟩:=h.ins
 obtain ⟨e2,e3⟩:q.ai=ai∧q.ci=ci:=by simpa using e1
 obtain ⟨g,o,e4,h2⟩:=h1 (List.ne_nil_of_mem (List.mem_of_getElem? hx))
 obtain ⟨ae,ce,aa,ca,h3⟩:=h2 k x hx
 rw [←e2] at e4
 have HE4:=hide e4
 have HP:=hide h
 have HI:=hide h3
 have i1:(0:Int)≤(k:Int):=by omega
 have i2:(k:Int)<(p.ins.length:Int):=by omega
 have d1:decide ((k:Int)<0)=false:=by simp
 have d2:decide ((p.ins.length:Int)≤(k:Int))=false:=by simp;omega
 clear h h1 h2 h3 hx hk e1 e2 e3 e4
 obtain ⟨xop,xa,xb,xn,xto,xt,xe,xargs,xbk,xlp,xat⟩:=x
 dsimp only at *
 subst hop
 have HD:Hid (Cd.deeds p ⟨6,xa,xb,xn,xto,xt,xe,xargs,xbk,xlp,xat⟩=([(1,xa),(2,xb)]:List (Int × Int)).filter fun y=>Cd.isEnd p y.2):=hide rfl
 generalize Cd.deeds p ⟨6,xa,xb,xn,xto,xt,xe,xargs,xbk,xlp,xat⟩=D at HD ⊢
 have HAC:Hid (∀ (w0 w':World) (v:Value) (L:List (Int × Int)) (kk yy:Int),Below w.heap.size w w0→Below w0.heap.size w0 w'→w'.ownsRow w0.heap.size 57 2 v L.length (fcells L)→L.length≤100000→Calls Tryz.prog 13 #[q.v p,v,.int .i64 kk,.int .i64 yy] w' fun e w''=> ∃ v',e= .returned v'∧w''.ownsRow w0.heap.size 57 2 v' (if Cd.isEnd p yy then L++[(kk,yy)] else L).length (fcells (if Cd.isEnd p yy then L++[(kk,yy)] else L))∧Below w0.heap.size w' w''):=hide (fun w0 w' v L kk yy hb0 hb ho hl=>act_any q p _ v L kk yy w' (HP.out.keep (btrans hb0 hb)) ho hl hb.size)
 unfold PV.v at *
 unfold PV.cells at *
 obtain ⟨qav,qcv,qab,qcb,qai,qci⟩:=q
 dsimp only at *
 obtain rfl:=HE4.out
 clear HE4
 obtain ⟨c0,c1,c2,c3,c4,c5,c6,c7,c8,c9,c10,-,cA⟩:=HI.out.keep (w':=w.alloc (.cells #[.string p.name,.slice qav p.vars.length qcv,.int .i64 p.params,.slice qab p.blocks.length qcb,.slice (some ⟨g,o,none⟩) p.ins.length qci] 26)) ((Below.refl _ _).alloc (Nat.le_refl _) _)
 dsimp only at c0 c1 c2 c3 c4 c5 c6 c7 c8 c9 c10 cA
 have HcA:=hide cA
 clear HI HP cA
 go_enter Tryz.func8,Tryz.ntmps8
 go_wp2
 have HB0:Hid (Below w.heap.size w ((w.alloc (.cells #[.string p.name,.slice qav p.vars.length qcv,.int .i64 p.params,.slice qab p.blocks.length qcb,.slice (some ⟨g,o,none⟩) p.ins.length qci] 26)).alloc (.cells #[.int .i64 6,.int .i64 xa,.int .i64 xb,.int .i64 xn,.int .i64 xto,.string xt,.slice ae xe.length ce,.slice aa xargs.length ca,.int .i64 xbk,.int .i64 xlp,.int .i64 xat] 53))):=hide (((Below.refl _ _).alloc (Nat.le_refl _) _).alloc (by simp) _)
 have HB1:Hid (Below (w.alloc (.cells #[.string p.name,.slice qav p.vars.length qcv,.int .i64 p.params,.slice qab p.blocks.length qcb,.slice (some ⟨g,o,none⟩) p.ins.length qci] 26)).heap.size (w.alloc (.cells #[.string p.name,.slice qav p.vars.length qcv,.int .i64 p.params,.slice qab p.blocks.length qcb,.slice (some ⟨g,o,none⟩) p.ins.length qci] 26)) ((w.alloc (.cells #[.string p.name,.slice qav p.vars.length qcv,.int .i64 p.params,.slice qab p.blocks.length qcb,.slice (some ⟨g,o,none⟩) p.ins.length qci] 26)).alloc (.cells #[.int .i64 6,.int .i64 xa,.int .i64 xb,.int .i64 xn,.int .i64 xto,.string xt,.slice ae xe.length ce,.slice aa xargs.length ca,.int .i64 xbk,.int .i64 xlp,.int .i64 xat] 53))):=hide ((Below.refl _ _).alloc (Nat.le_refl _) _)
 have HcB:=hide (HcA.out.keep HB1.out)
 clear c0 c1 c2 c3 c4 c5 c6 c7 c8 c9 c10 HcA HB1
 obtain ⟨W,hW⟩: ∃ W,((w.alloc (.cells #[.string p.name,.slice qav p.vars.length qcv,.int .i64 p.params,.slice qab p.blocks.length qcb,.slice (some ⟨g,o,none⟩) p.ins.length qci] 26)).alloc (.cells #[.int .i64 6,.int .i64 xa,.int .i64 xb,.int .i64 xn,.int .i64 xto,.string xt,.slice ae xe.length ce,.slice aa xargs.length ca,.int .i64 xbk,.int .i64 xlp,.int .i64 xat] 53))=W:=⟨_,rfl⟩
 have HJ:Hid (∀ w',Below W.heap.size W w'→w'.cell? ⟨w.heap.size,0,none⟩=some (.string p.name)∧w'.cell? ⟨w.heap.size,1,none⟩=some (.slice qav p.vars.length qcv)∧w'.cell? ⟨w.heap.size,2,none⟩=some (.int .i64 p.params)∧w'.cell? ⟨w.heap.size,3,none⟩=some (.slice qab p.blocks.length qcb)∧w'.cell? ⟨w.heap.size,4,none⟩=some (.slice (some ⟨g,o,none⟩) p.ins.length qci)∧w'.cell? ⟨w.heap.size+1,1,none⟩=some (.int .i64 xa)∧w'.cell? ⟨w.heap.size+1,2,none⟩=some (.int .i64 xb)∧w'.cell? ⟨w.heap.size+1,7,none⟩=some (.slice aa xargs.length ca)):=hide (fun w' hb=>⟨bsome hb (by rw [←hW];simp [go_sem]),bsome hb (by rw [←hW];simp [go_sem]),bsome hb (by rw [←hW];simp [go_sem]),bsome hb (by rw [←hW];simp [go_sem]),bsome hb (by rw [←hW];simp [go_sem]),bsome hb (by rw [←hW];simp [go_sem]),bsome hb (by rw [←hW];simp [go_sem]),bsome hb (by rw [←hW];simp [go_sem])⟩)
 rw [hW] at HB0 HcB ⊢
 clear hW
 have HC1:=hide (fun w' hb=>HAC.out W w' (.slice none 0 0) [] 1 xa HB0.out hb (World.ownsRow_nil _ _ _ _) (by simp))
 have HC2:=hide (fun w' v hb ho=>HAC.out W w' v (if Cd.isEnd p xa then ([]:List (Int × Int))++[(1,xa)] else []) 2 xb HB0.out hb ho (Cd.one_l _ _ _))
 clear HAC HcB
 have kc:Hid (Below W.heap.size W W.drew):=hide (below_drewN (Below.refl _ _) 1)
 obtain ⟨a0,a1,a2,a3,a4,a5,a6,a7⟩:=HJ.out W (Below.refl _ _)
 go_region_held3 (fun w'=>w'.cell? ⟨w.heap.size,0,none⟩=some (.string p.name)∧w'.cell? ⟨w.heap.size,1,none⟩=some (.slice qav p.vars.length qcv)∧w'.cell? ⟨w.heap.size,2,none⟩=some (.int .i64 p.params)∧w'.cell? ⟨w.heap.size,3,none⟩=some (.slice qab p.blocks.length qcb)∧w'.cell? ⟨w.heap.size,4,none⟩=some (.slice (some ⟨g,o,none⟩) p.ins.length qci)∧w'.cell? ⟨w.heap.size+1,1,none⟩=some (.int .i64 xa)∧w'.cell? ⟨w.heap.size+1,2,none⟩=some (.int .i64 xb)∧w'.cell? ⟨w.heap.size+1,7,none⟩=some (.slice aa xargs.length ca)) ((first|exact ⟨by assumption,by assumption,by assumption,by assumption,by assumption,by assumption,by assumption,by assumption⟩|go_keep)) ((first
   |(go_at_call 13;with_reducible refine (HC1.out _ (by exact kc.out)).mono ?_;rintro e w7 ⟨v7,rfl,ho7,hb7⟩;have HO7:=hide ho7;have HB7:=hide (kc.out.trans hb7);clear ho7 hb7;obtain ⟨j0,j1,j2,j3,j4,j5,j6,j7⟩:=HJ.out _ HB7.out)
   |(go_at_call 13;with_reducible refine (HC2.out _ _ (by exact HB7.out) (by exact HO7.out)).mono ?_;rintro e w9 ⟨v9,rfl,ho9,hb9⟩;have HO9:=hide ho9;have HB9:=hide (HB7.out.trans hb9);clear ho9 hb9;obtain ⟨j0,j1,j2,j3,j4,j5,j6,j7⟩:=HJ.out _ HB9.out)))
 all_goals
  go_wp2
  go_ret
  exact ⟨_,rfl,by rw [HD.out,←Cd.two_f];exact own_low HO9.out HB0.out.size,btrans HB0.out HB9.out⟩
set_option maxRecDepth 100000 in
set_option maxHeartbeats 4000000 in
theorem racts5_any (q:PV) (p:Cd.Pr) (k:Nat) (x:Cd.In) (w:World) (h:PC q p w) (hx:p.ins[k]? =some x) (hop:x.op=5):
  Calls Tryz.prog 8 #[q.v p,.int .i64 (k:Int)] w fun e w'=> ∃ v',e= .returned v'∧w'.ownsRow w.heap.size 57 2 v' (Cd.deeds p x).length (fcells (Cd.deeds p x))∧Below w.heap.size w w':=by
 have hk:=(List.getElem?_eq_some_iff.1 hx).1
 obtain ⟨ai,ci,e1,h1⟩:=h.ins
 obtain ⟨e2,e3⟩:q.ai=ai∧q.ci=ci:=by simpa using e1
 obtain ⟨g,o,e4,h2⟩:=h1 (List.ne_nil_of_mem (List.mem_of_getElem? hx))
 obtain ⟨ae,ce,aa,ca,h3⟩:=h2 k x hx
 rw [←e2] at e4
 have HE4:=hide e4
 have HP:=hide h
 have HI:=hide h3
 have i1:(0:Int)≤(k:Int):=by omega
 have i2:(k:Int)<(p.ins.length:Int):=by omega
 have d1:decide ((k:Int)<0)=false:=by simp
 have d2:decide ((p.ins.length:Int)≤(k:Int))=false:=by simp;omega
 clear h h1 h2 h3 hx hk e1 e2 e3 e4
 obtain ⟨xop,xa,xb,xn,xto,xt,xe,xargs,xbk,xlp,xat⟩:=x
 dsimp only at *
 subst hop
 have HD:Hid (Cd.deeds p ⟨5,xa,xb,xn,xto,xt,xe,xargs,xbk,xlp,xat⟩=([(1,xa)]:List (Int × Int)).filter fun y=>Cd.isEnd p y.2):=hide rfl
 generalize Cd.deeds p ⟨5,xa,xb,xn,xto,xt,xe,xargs,xbk,xlp,xat⟩=D at HD ⊢
 have HAC:Hid (∀ (w0 w':World) (v:Value) (L:List (Int × Int)) (kk yy:Int),Below w.heap.size w w0→Below w0.heap.size w0 w'→w'.ownsRow w0.heap.size 57 2 v L.length (fcells L)→L.length≤100000→Calls Tryz.prog 13 #[q.v p,v,.int .i64 kk,.int .i64 yy] w' fun e w''=> ∃ v',e= .returned v'∧w''.ownsRow w0.heap.size 57 2 v' (if Cd.isEnd p yy then L++[(kk,yy)] else L).length (fcells (if Cd.isEnd p yy then L++[(kk,yy)] else L))∧Below w0.heap.size w' w''):=hide (fun w0 w' v L kk yy hb0 hb ho hl=>act_any q p _ v L kk yy w' (HP.out.keep (btrans hb0 hb)) ho hl hb.size)
 unfold PV.v at *
 unfold PV.cells at *
 obtain ⟨qav,qcv,qab,qcb,qai,qci⟩:=q
 dsimp only at *
 obtain rfl:=HE4.out
 clear HE4
 obtain ⟨c0,c1,c2,c3,c4,c5,c6,c7,c8,c9,c10,-,cA⟩:=HI.out.keep (w':=w.alloc (.cells #[.string p.name,.slice qav p.vars.length qcv,.int .i64 p.params,.slice qab p.blocks.length qcb,.slice (some ⟨g,o,none⟩) p.ins.length qci] 26)) ((Below.refl _ _).alloc (Nat.le_refl _) _)
 dsimp only at c0 c1 c2 c3 c4 c5 c6 c7 c8 c9 c10 cA
 have HcA:=hide cA
 clear HI HP cA
 go_enter Tryz.func8,Tryz.ntmps8
 have HB0:Hid (Below w.heap.size w ((w.alloc (.cells #[.string p.name,.slice qav p.vars.length qcv,.int .i64 p.params,.slice qab p.blocks.length qcb,.slice (some ⟨g,o,none⟩) p.ins.length qci] 26)).alloc (.cells #[.int .i64 5,.int .i64 xa,.int .i64 xb,.int .i64 xn,.int .i64 xto,.string xt,.slice ae xe.length ce,.slice aa xargs.length ca,.int .i64 xbk,.int .i64 xlp,.int .i64 xat] 53))):=hide (((Below.refl _ _).alloc (Nat.le_refl _) _).alloc (by simp) _)
 have HC:=hide (HAC.out ((w.alloc (.cells #[.string p.name,.slice qav p.vars.length qcv,.int .i64 p.params,.slice qab p.blocks.length qcb,.slice (some ⟨g,o,none⟩) p.ins.length qci] 26)).alloc (.cells #[.int .i64 5,.int .i64 xa,.int .i64 xb,.int .i64 xn,.int .i64 xto,.string xt,.slice ae xe.length ce,.slice aa xargs.length ca,.int .i64 xbk,.int .i64 xlp,.int .i64 xat] 53)) ((w.alloc (.cells #[.string p.name,.slice qav p.vars.length qcv,.int .i64 p.params,.slice qab p.blocks.length qcb,.slice (some ⟨g,o,none⟩) p.ins.length qci] 26)).alloc (.cells #[.int .i64 5,.int .i64 xa,.int .i64 xb,.int .i64 xn,.int .i64 xto,.string xt,.slice ae xe.length ce,.slice aa xargs.length ca,.int .i64 xbk,.int .i64 xlp,.int .i64 xat] 53)) (.slice none 0 0) [] 1 xa HB0.out (Below.refl _ _) (World.ownsRow_nil _ _ _ _) (by simp))
 clear HAC HcA
 go_wp2_with fail
 refine HC.out.mono ?_
 rintro e w9 ⟨v9,rfl,ho9,hb9⟩
 have HO9:=hide (own_low ho9 HB0.out.size)
 have HB9:=hide (btrans HB0.out hb9)
 clear ho9 hb9 HC
 go_wp2
 go_ret
 exact ⟨_,rfl,by rw [HD.out,←Cd.one_f];exact HO9.out,HB9.out⟩
set_option maxRecDepth 100000 in
set_option maxHeartbeats 4000000 in
theorem racts7_any (q:PV) (p:Cd.Pr) (k:Nat) (x:Cd.In) (w:World) (h:PC q p w) (hx:p.ins[k]? =some x) (hop:x.op=7):
  Calls Tryz.prog 8 #[q.v p,.int .i64 (k:Int)] w fun e w'=> ∃ v',e= .returned v'∧w'.ownsRow w.heap.size 57 2 v' (Cd.deeds p x).length (fcells (Cd.deeds p x))∧Below w.heap.size w w':=by
 have hk:=(List.getElem?_eq_some_iff.1 hx).1
 obtain ⟨ai,ci,e1,h1⟩:=h.ins
 obtain ⟨e2,e3⟩:q.ai=ai∧q.ci=ci:=by simpa using e1
 obtain ⟨g,o,e4,h2⟩:=h1 (List.ne_nil_of_mem (List.mem_of_getElem? hx))
 obtain ⟨ae,ce,aa,ca,h3⟩:=h2 k x hx
 rw [←e2] at e4
 have HE4:=hide e4
 have HP:=hide h
 have HI:=hide h3
 have i1:(0:Int)≤(k:Int):=by omega
 have i2:(k:Int)<(p.ins.length:Int):=by omega
 have d1:decide ((k:Int)<0)=false:=by simp
 have d2:decide ((p.ins.length:Int)≤(k:Int))=false:=by simp;omega
 clear h h1 h2 h3 hx hk e1 e2 e3 e4
 obtain ⟨xop,xa,xb,xn,xto,xt,xe,xargs,xbk,xlp,xat⟩:=x
 dsimp only at *
 subst hop
 have HD:Hid (Cd.deeds p ⟨7,xa,xb,xn,xto,xt,xe,xargs,xbk,xlp,xat⟩=([(2,xa)]:List (Int × Int)).filter fun y=>Cd.isEnd p y.2):=hide rfl
 generalize Cd.deeds p ⟨7,xa,xb,xn,xto,xt,xe,xargs,xbk,xlp,xat⟩=D at HD ⊢
 have HAC:Hid (∀ (w0 w':World) (v:Value) (L:List (Int × Int)) (kk yy:Int),Below w.heap.size w w0→Below w0.heap.size w0 w'→w'.ownsRow w0.heap.size 57 2 v L.length (fcells L)→L.length≤100000→Calls Tryz.prog 13 #[q.v p,v,.int .i64 kk,.int .i64 yy] w' fun e w''=> ∃ v',e= .returned v'∧w''.ownsRow w0.heap.size 57 2 v' (if Cd.isEnd p yy then L++[(kk,yy)] else L).length (fcells (if Cd.isEnd p yy then L++[(kk,yy)] else L))∧Below w0.heap.size w' w''):=hide (fun w0 w' v L kk yy hb0 hb ho hl=>act_any q p _ v L kk yy w' (HP.out.keep (btrans hb0 hb)) ho hl hb.size)
 unfold PV.v at *
 unfold PV.cells at *
 obtain ⟨qav,qcv,qab,qcb,qai,qci⟩:=q
 dsimp only at *
 obtain rfl:=HE4.out
 clear HE4
 obtain ⟨c0,c1,c2,c3,c4,c5,c6,c7,c8,c9,c10,-,cA⟩:=HI.out.keep (w':=w.alloc (.cells #[.string p.name,.slice qav p.vars.length qcv,.int .i64 p.params,.slice qab p.blocks.length qcb,.slice (some ⟨g,o,none⟩) p.ins.length qci] 26)) ((Below.refl _ _).alloc (Nat.le_refl _) _)
 dsimp only at c0 c1 c2 c3 c4 c5 c6 c7 c8 c9 c10 cA
 have HcA:=hide cA
 clear HI HP cA
 go_enter Tryz.func8,Tryz.ntmps8
 have HB0:Hid (Below w.heap.size w ((w.alloc (.cells #[.string p.name,.slice qav p.vars.length qcv,.int .i64 p.params,.slice qab p.blocks.length qcb,.slice (some ⟨g,o,none⟩) p.ins.length qci] 26)).alloc (.cells #[.int .i64 7,.int .i64 xa,.int .i64 xb,.int .i64 xn,.int .i64 xto,.string xt,.slice ae xe.length ce,.slice aa xargs.length ca,.int .i64 xbk,.int .i64 xlp,.int .i64 xat] 53))):=hide (((Below.refl _ _).alloc (Nat.le_refl _) _).alloc (by simp) _)
 have HC:=hide (HAC.out ((w.alloc (.cells #[.string p.name,.slice qav p.vars.length qcv,.int .i64 p.params,.slice qab p.blocks.length qcb,.slice (some ⟨g,o,none⟩) p.ins.length qci] 26)).alloc (.cells #[.int .i64 7,.int .i64 xa,.int .i64 xb,.int .i64 xn,.int .i64 xto,.string xt,.slice ae xe.length ce,.slice aa xargs.length ca,.int .i64 xbk,.int .i64 xlp,.int .i64 xat] 53)) ((w.alloc (.cells #[.string p.name,.slice qav p.vars.length qcv,.int .i64 p.params,.slice qab p.blocks.length qcb,.slice (some ⟨g,o,none⟩) p.ins.length qci] 26)).alloc (.cells #[.int .i64 7,.int .i64 xa,.int .i64 xb,.int .i64 xn,.int .i64 xto,.string xt,.slice ae xe.length ce,.slice aa xargs.length ca,.int .i64 xbk,.int .i64 xlp,.int .i64 xat] 53)) (.slice none 0 0) [] 2 xa HB0.out (Below.refl _ _) (World.ownsRow_nil _ _ _ _) (by simp))
 clear HAC HcA
 go_wp2_with fail
 refine HC.out.mono ?_
 rintro e w9 ⟨v9,rfl,ho9,hb9⟩
 have HO9:=hide (own_low ho9 HB0.out.size)
 have HB9:=hide (btrans HB0.out hb9)
 clear ho9 hb9 HC
 go_wp2
 go_ret
 exact ⟨_,rfl,by rw [HD.out,←Cd.one_f];exact HO9.out,HB9.out⟩
set_option maxRecDepth 100000 in
set_option maxHeartbeats 4000000 in
theorem racts8_any (q:PV) (p:Cd.Pr) (k:Nat) (x:Cd.In) (w:World) (h:PC q p w) (hx:p.ins[k]? =some x) (hop:x.op=8):
  Calls Tryz.prog 8 #[q.v p,.int .i64 (k:Int)] w fun e w'=> ∃ v',e= .returned v'∧w'.ownsRow w.heap.size 57 2 v' (Cd.deeds p x).length (fcells (Cd.deeds p x))∧Below w.heap.size w w':=by
 have hk:=(List.getElem?_eq_some_iff.1 hx).1
 obtain ⟨ai,ci,e1,h1⟩:=h.ins
 obtain ⟨e2,e3⟩:q.ai=ai∧q.ci=ci:=by simpa using e1
 obtain ⟨g,o,e4,h2⟩:=h1 (List.ne_nil_of_mem (List.mem_of_getElem? hx))
 obtain ⟨ae,ce,aa,ca,h3⟩:=h2 k x hx
 rw [←e2] at e4
 have HE4:=hide e4
 have HP:=hide h
 have HI:=hide h3
 have i1:(0:Int)≤(k:Int):=by omega
 have i2:(k:Int)<(p.ins.length:Int):=by omega
 have d1:decide ((k:Int)<0)=false:=by simp
 have d2:decide ((p.ins.length:Int)≤(k:Int))=false:=by simp;omega
 clear h h1 h2 h3 hx hk e1 e2 e3 e4
 obtain ⟨xop,xa,xb,xn,xto,xt,xe,xargs,xbk,xlp,xat⟩:=x
 dsimp only at *
 subst hop
 have HD:Hid (Cd.deeds p ⟨8,xa,xb,xn,xto,xt,xe,xargs,xbk,xlp,xat⟩=([(2,xa)]:List (Int × Int)).filter fun y=>Cd.isEnd p y.2):=hide rfl
 generalize Cd.deeds p ⟨8,xa,xb,xn,xto,xt,xe,xargs,xbk,xlp,xat⟩=D at HD ⊢
 have HAC:Hid (∀ (w0 w':World) (v:Value) (L:List (Int × Int)) (kk yy:Int),Below w.heap.size w w0→Below w0.heap.size w0 w'→w'.ownsRow w0.heap.size 57 2 v L.length (fcells L)→L.length≤100000→Calls Tryz.prog 13 #[q.v p,v,.int .i64 kk,.int .i64 yy] w' fun e w''=> ∃ v',e= .returned v'∧w''.ownsRow w0.heap.size 57 2 v' (if Cd.isEnd p yy then L++[(kk,yy)] else L).length (fcells (if Cd.isEnd p yy then L++[(kk,yy)] else L))∧Below w0.heap.size w' w''):=hide (fun w0 w' v L kk yy hb0 hb ho hl=>act_any q p _ v L kk yy w' (HP.out.keep (btrans hb0 hb)) ho hl hb.size)
 unfold PV.v at *
 unfold PV.cells at *
 obtain ⟨qav,qcv,qab,qcb,qai,qci⟩:=q
 dsimp only at *
 obtain rfl:=HE4.out
 clear HE4
 obtain ⟨c0,c1,c2,c3,c4,c5,c6,c7,c8,c9,c10,-,cA⟩:=HI.out.keep (w':=w.alloc (.cells #[.string p.name,.slice qav p.vars.length qcv,.int .i64 p.params,.slice qab p.blocks.length qcb,.slice (some ⟨g,o,none⟩) p.ins.length qci] 26)) ((Below.refl _ _).alloc (Nat.le_refl _) _)
 dsimp only at c0 c1 c2 c3 c4 c5 c6 c7 c8 c9 c10 cA
 have HcA:=hide cA
 clear HI HP cA
 go_enter Tryz.func8,Tryz.ntmps8
 have HB0:Hid (Below w.heap.size w ((w.alloc (.cells #[.string p.name,.slice qav p.vars.length qcv,.int .i64 p.params,.slice qab p.blocks.length qcb,.slice (some ⟨g,o,none⟩) p.ins.length qci] 26)).alloc (.cells #[.int .i64 8,.int .i64 xa,.int .i64 xb,.int .i64 xn,.int .i64 xto,.string xt,.slice ae xe.length ce,.slice aa xargs.length ca,.int .i64 xbk,.int .i64 xlp,.int .i64 xat] 53))):=hide (((Below.refl _ _).alloc (Nat.le_refl _) _).alloc (by simp) _)
 have HC:=hide (HAC.out ((w.alloc (.cells #[.string p.name,.slice qav p.vars.length qcv,.int .i64 p.params,.slice qab p.blocks.length qcb,.slice (some ⟨g,o,none⟩) p.ins.length qci] 26)).alloc (.cells #[.int .i64 8,.int .i64 xa,.int .i64 xb,.int .i64 xn,.int .i64 xto,.string xt,.slice ae xe.length ce,.slice aa xargs.length ca,.int .i64 xbk,.int .i64 xlp,.int .i64 xat] 53)) ((w.alloc (.cells #[.string p.name,.slice qav p.vars.length qcv,.int .i64 p.params,.slice qab p.blocks.length qcb,.slice (some ⟨g,o,none⟩) p.ins.length qci] 26)).alloc (.cells #[.int .i64 8,.int .i64 xa,.int .i64 xb,.int .i64 xn,.int .i64 xto,.string xt,.slice ae xe.length ce,.slice aa xargs.length ca,.int .i64 xbk,.int .i64 xlp,.int .i64 xat] 53)) (.slice none 0 0) [] 2 xa HB0.out (Below.refl _ _) (World.ownsRow_nil _ _ _ _) (by simp))
 clear HAC HcA
 go_wp2_with fail
 refine HC.out.mono ?_
 rintro e w9 ⟨v9,rfl,ho9,hb9⟩
 have HO9:=hide (own_low ho9 HB0.out.size)
 have HB9:=hide (btrans HB0.out hb9)
 clear ho9 hb9 HC
 go_wp2
 go_ret
 exact ⟨_,rfl,by rw [HD.out,←Cd.one_f];exact HO9.out,HB9.out⟩
set_option maxRecDepth 100000 in
set_option maxHeartbeats 4000000 in
theorem racts9_any (q:PV) (p:Cd.Pr) (k:Nat) (x:Cd.In) (w:World) (h:PC q p w) (hx:p.ins[k]? =some x) (hop:x.op=9):
  Calls Tryz.prog 8 #[q.v p,.int .i64 (k:Int)] w fun e w'=> ∃ v',e= .returned v'∧w'.ownsRow w.heap.size 57 2 v' (Cd.deeds p x).length (fcells (Cd.deeds p x))∧Below w.heap.size w w':=by
 have hk:=(List.getElem?_eq_some_iff.1 hx).1
 obtain ⟨ai,ci,e1,h1⟩:=h.ins
 obtain ⟨e2,e3⟩:q.ai=ai∧q.ci=ci:=by simpa using e1
 obtain ⟨g,o,e4,h2⟩:=h1 (List.ne_nil_of_mem (List.mem_of_getElem? hx))
 obtain ⟨ae,ce,aa,ca,h3⟩:=h2 k x hx
 rw [←e2] at e4
 have HE4:=hide e4
 have HP:=hide h
 have HI:=hide h3
 have i1:(0:Int)≤(k:Int):=by omega
 have i2:(k:Int)<(p.ins.length:Int):=by omega
 have d1:decide ((k:Int)<0)=false:=by simp
 have d2:decide ((p.ins.length:Int)≤(k:Int))=false:=by simp;omega
 clear h h1 h2 h3 hx hk e1 e2 e3 e4
 obtain ⟨xop,xa,xb,xn,xto,xt,xe,xargs,xbk,xlp,xat⟩:=x
 dsimp only at *
 subst hop
 have HD:Hid (Cd.deeds p ⟨9,xa,xb,xn,xto,xt,xe,xargs,xbk,xlp,xat⟩=([(2,xa)]:List (Int × Int)).filter fun y=>Cd.isEnd p y.2):=hide rfl
 generalize Cd.deeds p ⟨9,xa,xb,xn,xto,xt,xe,xargs,xbk,xlp,xat⟩=D at HD ⊢
 have HAC:Hid (∀ (w0 w':World) (v:Value) (L:List (Int × Int)) (kk yy:Int),Below w.heap.size w w0→Below w0.heap.size w0 w'→w'.ownsRow w0.heap.size 57 2 v L.length (fcells L)→L.length≤100000→Calls Tryz.prog 13 #[q.v p,v,.int .i64 kk,.int .i64 yy] w' fun e w''=> ∃ v',e= .returned v'∧w''.ownsRow w0.heap.size 57 2 v' (if Cd.isEnd p yy then L++[(kk,yy)] else L).length (fcells (if Cd.isEnd p yy then L++[(kk,yy)] else L))∧Below w0.heap.size w' w''):=hide (fun w0 w' v L kk yy hb0 hb ho hl=>act_any q p _ v L kk yy w' (HP.out.keep (btrans hb0 hb)) ho hl hb.size)
 unfold PV.v at *
 unfold PV.cells at *
 obtain ⟨qav,qcv,qab,qcb,qai,qci⟩:=q
 dsimp only at *
 obtain rfl:=HE4.out
 clear HE4
 obtain ⟨c0,c1,c2,c3,c4,c5,c6,c7,c8,c9,c10,-,cA⟩:=HI.out.keep (w':=w.alloc (.cells #[.string p.name,.slice qav p.vars.length qcv,.int .i64 p.params,.slice qab p.blocks.length qcb,.slice (some ⟨g,o,none⟩) p.ins.length qci] 26)) ((Below.refl _ _).alloc (Nat.le_refl _) _)
 dsimp only at c0 c1 c2 c3 c4 c5 c6 c7 c8 c9 c10 cA
 have HcA:=hide cA
 clear HI HP cA
 go_enter Tryz.func8,Tryz.ntmps8
 have HB0:Hid (Below w.heap.size w ((w.alloc (.cells #[.string p.name,.slice qav p.vars.length qcv,.int .i64 p.params,.slice qab p.blocks.length qcb,.slice (some ⟨g,o,none⟩) p.ins.length qci] 26)).alloc (.cells #[.int .i64 9,.int .i64 xa,.int .i64 xb,.int .i64 xn,.int .i64 xto,.string xt,.slice ae xe.length ce,.slice aa xargs.length ca,.int .i64 xbk,.int .i64 xlp,.int .i64 xat] 53))):=hide (((Below.refl _ _).alloc (Nat.le_refl _) _).alloc (by simp) _)
 have HC:=hide (HAC.out ((w.alloc (.cells #[.string p.name,.slice qav p.vars.length qcv,.int .i64 p.params,.slice qab p.blocks.length qcb,.slice (some ⟨g,o,none⟩) p.ins.length qci] 26)).alloc (.cells #[.int .i64 9,.int .i64 xa,.int .i64 xb,.int .i64 xn,.int .i64 xto,.string xt,.slice ae xe.length ce,.slice aa xargs.length ca,.int .i64 xbk,.int .i64 xlp,.int .i64 xat] 53)) ((w.alloc (.cells #[.string p.name,.slice qav p.vars.length qcv,.int .i64 p.params,.slice qab p.blocks.length qcb,.slice (some ⟨g,o,none⟩) p.ins.length qci] 26)).alloc (.cells #[.int .i64 9,.int .i64 xa,.int .i64 xb,.int .i64 xn,.int .i64 xto,.string xt,.slice ae xe.length ce,.slice aa xargs.length ca,.int .i64 xbk,.int .i64 xlp,.int .i64 xat] 53)) (.slice none 0 0) [] 2 xa HB0.out (Below.refl _ _) (World.ownsRow_nil _ _ _ _) (by simp))
 clear HAC HcA
 go_wp2_with fail
 refine HC.out.mono ?_
 rintro e w9 ⟨v9,rfl,ho9,hb9⟩
 have HO9:=hide (own_low ho9 HB0.out.size)
 have HB9:=hide (btrans HB0.out hb9)
 clear ho9 hb9 HC
 go_wp2
 go_ret
 exact ⟨_,rfl,by rw [HD.out,←Cd.one_f];exact HO9.out,HB9.out⟩
set_option maxRecDepth 100000 in
set_option maxHeartbeats 4000000 in
theorem racts16_any (q:PV) (p:Cd.Pr) (k:Nat) (x:Cd.In) (w:World) (h:PC q p w) (hx:p.ins[k]? =some x) (hop:x.op=16):
  Calls Tryz.prog 8 #[q.v p,.int .i64 (k:Int)] w fun e w'=> ∃ v',e= .returned v'∧w'.ownsRow w.heap.size 57 2 v' (Cd.deeds p x).length (fcells (Cd.deeds p x))∧Below w.heap.size w w':=by
 have hk:=(List.getElem?_eq_some_iff.1 hx).1
 obtain ⟨ai,ci,e1,h1⟩:=h.ins
 obtain ⟨e2,e3⟩:q.ai=ai∧q.ci=ci:=by simpa using e1
 obtain ⟨g,o,e4,h2⟩:=h1 (List.ne_nil_of_mem (List.mem_of_getElem? hx))
 obtain ⟨ae,ce,aa,ca,h3⟩:=h2 k x hx
 rw [←e2] at e4
 have HE4:=hide e4
 have HP:=hide h
 have HI:=hide h3
 have i1:(0:Int)≤(k:Int):=by omega
 have i2:(k:Int)<(p.ins.length:Int):=by omega
 have d1:decide ((k:Int)<0)=false:=by simp
 have d2:decide ((p.ins.length:Int)≤(k:Int))=false:=by simp;omega
 clear h h1 h2 h3 hx hk e1 e2 e3 e4
 obtain ⟨xop,xa,xb,xn,xto,xt,xe,xargs,xbk,xlp,xat⟩:=x
 dsimp only at *
 subst hop
 have HD:Hid (Cd.deeds p ⟨16,xa,xb,xn,xto,xt,xe,xargs,xbk,xlp,xat⟩=([(4,xa)]:List (Int × Int)).filter fun y=>Cd.isEnd p y.2):=hide rfl
 generalize Cd.deeds p ⟨16,xa,xb,xn,xto,xt,xe,xargs,xbk,xlp,xat⟩=D at HD ⊢
 have HAC:Hid (∀ (w0 w':World) (v:Value) (L:List (Int × Int)) (kk yy:Int),Below w.heap.size w w0→Below w0.heap.size w0 w'→w'.ownsRow w0.heap.size 57 2 v L.length (fcells L)→L.length≤100000→Calls Tryz.prog 13 #[q.v p,v,.int .i64 kk,.int .i64 yy] w' fun e w''=> ∃ v',e= .returned v'∧w''.ownsRow w0.heap.size 57 2 v' (if Cd.isEnd p yy then L++[(kk,yy)] else L).length (fcells (if Cd.isEnd p yy then L++[(kk,yy)] else L))∧Below w0.heap.size w' w''):=hide (fun w0 w' v L kk yy hb0 hb ho hl=>act_any q p _ v L kk yy w' (HP.out.keep (btrans hb0 hb)) ho hl hb.size)
 unfold PV.v at *
 unfold PV.cells at *
 obtain ⟨qav,qcv,qab,qcb,qai,qci⟩:=q
 dsimp only at *
 obtain rfl:=HE4.out
 clear HE4
 obtain ⟨c0,c1,c2,c3,c4,c5,c6,c7,c8,c9,c10,-,cA⟩:=HI.out.keep (w':=w.alloc (.cells #[.string p.name,.slice qav p.vars.length qcv,.int .i64 p.params,.slice qab p.blocks.length qcb,.slice (some ⟨g,o,none⟩) p.ins.length qci] 26)) ((Below.refl _ _).alloc (Nat.le_refl _) _)
 dsimp only at c0 c1 c2 c3 c4 c5 c6 c7 c8 c9 c10 cA
 have HcA:=hide cA
 clear HI HP cA
 go_enter Tryz.func8,Tryz.ntmps8
 have HB0:Hid (Below w.heap.size w ((w.alloc (.cells #[.string p.name,.slice qav p.vars.length qcv,.int .i64 p.params,.slice qab p.blocks.length qcb,.slice (some ⟨g,o,none⟩) p.ins.length qci] 26)).alloc (.cells #[.int .i64 16,.int .i64 xa,.int .i64 xb,.int .i64 xn,.int .i64 xto,.string xt,.slice ae xe.length ce,.slice aa xargs.length ca,.int .i64 xbk,.int .i64 xlp,.int .i64 xat] 53))):=hide (((Below.refl _ _).alloc (Nat.le_refl _) _).alloc (by simp) _)
 have HC:=hide (HAC.out ((w.alloc (.cells #[.string p.name,.slice qav p.vars.length qcv,.int .i64 p.params,.slice qab p.blocks.length qcb,.slice (some ⟨g,o,none⟩) p.ins.length qci] 26)).alloc (.cells #[.int .i64 16,.int .i64 xa,.int .i64 xb,.int .i64 xn,.int .i64 xto,.string xt,.slice ae xe.length ce,.slice aa xargs.length ca,.int .i64 xbk,.int .i64 xlp,.int .i64 xat] 53)) ((w.alloc (.cells #[.string p.name,.slice qav p.vars.length qcv,.int .i64 p.params,.slice qab p.blocks.length qcb,.slice (some ⟨g,o,none⟩) p.ins.length qci] 26)).alloc (.cells #[.int .i64 16,.int .i64 xa,.int .i64 xb,.int .i64 xn,.int .i64 xto,.string xt,.slice ae xe.length ce,.slice aa xargs.length ca,.int .i64 xbk,.int .i64 xlp,.int .i64 xat] 53)) (.slice none 0 0) [] 4 xa HB0.out (Below.refl _ _) (World.ownsRow_nil _ _ _ _) (by simp))
 clear HAC HcA
 go_wp2_with fail
 refine HC.out.mono ?_
 rintro e w9 ⟨v9,rfl,ho9,hb9⟩
 have HO9:=hide (own_low ho9 HB0.out.size)
 have HB9:=hide (btrans HB0.out hb9)
 clear ho9 hb9 HC
 go_wp2
 go_ret
 exact ⟨_,rfl,by rw [HD.out,←Cd.one_f];exact HO9.out,HB9.out⟩
set_option maxRecDepth 100000 in
set_option maxHeartbeats 4000000 in
theorem ractsN_any (q:PV) (p:Cd.Pr) (k:Nat) (x:Cd.In) (w:World) (h:PC q p w) (hx:p.ins[k]? =some x) (h3:x.op ≠ 3) (h4:x.op ≠ 4) (h11:x.op ≠ 11) (h5:x.op ≠ 5) (h6:x.op ≠ 6) (h7:x.op ≠ 7) (h8:x.op ≠ 8) (h9:x.op ≠ 9) (h10:x.op ≠ 10) (h16:x.op ≠ 16):
  Calls Tryz.prog 8 #[q.v p,.int .i64 (k:Int)] w fun e w'=> ∃ v',e= .returned v'∧w'.ownsRow w.heap.size 57 2 v' (Cd.deeds p x).length (fcells (Cd.deeds p x))∧Below w.heap.size w w':=by
 have hk:=(List.getElem?_eq_some_iff.1 hx).1
 obtain ⟨ai,ci,e1,h1⟩:=h.ins
 obtain ⟨e2,e3⟩:q.ai=ai∧q.ci=ci:=by simpa using e1
 obtain ⟨g,o,e4,h2⟩:=h1 (List.ne_nil_of_mem (List.mem_of_getElem? hx))
 obtain ⟨ae,ce,aa,ca,h3⟩:=h2 k x hx
 rw [←e2] at e4
 have HE4:=hide e4
 have HP:=hide h
 have HI:=hide h3
 have i1:(0:Int)≤(k:Int):=by omega
 have i2:(k:Int)<(p.ins.length:Int):=by omega
 have d1:decide ((k:Int)<0)=false:=by simp
 have d2:decide ((p.ins.length:Int)≤(k:Int))=false:=by simp;omega
 clear h h1 h2 h3 hx hk e1 e2 e3 e4
 obtain ⟨xop,xa,xb,xn,xto,xt,xe,xargs,xbk,xlp,xat⟩:=x
 dsimp only at *
 have HD:Hid (Cd.deeds p ⟨xop,xa,xb,xn,xto,xt,xe,xargs,xbk,xlp,xat⟩=[]):=hide (by simp [Cd.deeds,Cd.acts0,h3,h4,h11,h5,h6,h7,h8,h9,h10,h16])
 generalize Cd.deeds p ⟨xop,xa,xb,xn,xto,xt,xe,xargs,xbk,xlp,xat⟩=D at HD ⊢
 have HAC:Hid (∀ (w0 w':World) (v:Value) (L:List (Int × Int)) (kk yy:Int),Below w.heap.size w w0→Below w0.heap.size w0 w'→w'.ownsRow w0.heap.size 57 2 v L.length (fcells L)→L.length≤100000→Calls Tryz.prog 13 #[q.v p,v,.int .i64 kk,.int .i64 yy] w' fun e w''=> ∃ v',e= .returned v'∧w''.ownsRow w0.heap.size 57 2 v' (if Cd.isEnd p yy then L++[(kk,yy)] else L).length (fcells (if Cd.isEnd p yy then L++[(kk,yy)] else L))∧Below w0.heap.size w' w''):=hide (fun w0 w' v L kk yy hb0 hb ho hl=>act_any q p _ v L kk yy w' (HP.out.keep (btrans hb0 hb)) ho hl hb.size)
 unfold PV.v at *
 unfold PV.cells at *
 obtain ⟨qav,qcv,qab,qcb,qai,qci⟩:=q
 dsimp only at *
 obtain rfl:=HE4.out
 clear HE4
 obtain ⟨c0,c1,c2,c3,c4,c5,c6,c7,c8,c9,c10,-,cA⟩:=HI.out.keep (w':=w.alloc (.cells #[.string p.name,.slice qav p.vars.length qcv,.int .i64 p.params,.slice qab p.blocks.length qcb,.slice (some ⟨g,o,none⟩) p.ins.length qci] 26)) ((Below.refl _ _).alloc (Nat.le_refl _) _)
 dsimp only at c0 c1 c2 c3 c4 c5 c6 c7 c8 c9 c10 cA
 have HcA:=hide cA
 clear HI HP cA
 go_enter Tryz.func8,Tryz.ntmps8
 have D3:decide (xop=3)=false:=by simpa using h3
 have b3:(xop == 3)=false:=by simpa using h3
 have D4:decide (xop=4)=false:=by simpa using h4
 have b4:(xop == 4)=false:=by simpa using h4
 have D11:decide (xop=11)=false:=by simpa using h11
 have b11:(xop == 11)=false:=by simpa using h11
 have D5:decide (xop=5)=false:=by simpa using h5
 have b5:(xop == 5)=false:=by simpa using h5
 have D6:decide (xop=6)=false:=by simpa using h6
 have b6:(xop == 6)=false:=by simpa using h6
 have D7:decide (xop=7)=false:=by simpa using h7
 have b7:(xop == 7)=false:=by simpa using h7
 have D8:decide (xop=8)=false:=by simpa using h8
 have b8:(xop == 8)=false:=by simpa using h8
 have D9:decide (xop=9)=false:=by simpa using h9
 have b9:(xop == 9)=false:=by simpa using h9
 have D10:decide (xop=10)=false:=by simpa using h10
 have b10:(xop == 10)=false:=by simpa using h10
 have D16:decide (xop=16)=false:=by simpa using h16
 have b16:(xop == 16)=false:=by simpa using h16
 clear h3 h4 h11 h5 h6 h7 h8 h9 h10 h16 HAC HcA
 go_wp2
 go_ret
 exact ⟨_,rfl,by rw [HD.out];exact World.ownsRow_nil _ _ _ _,((Below.refl _ _).alloc (Nat.le_refl _) _).alloc (by simp) _⟩
end Go.Proofs.YteeocekjekclbaaGreatDoor
