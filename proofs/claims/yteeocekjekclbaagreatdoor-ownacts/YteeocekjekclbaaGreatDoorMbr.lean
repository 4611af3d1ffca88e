import Derived.Test.YteeocekjekclbaaGreatDoorMbm
import Derived.Deep.RegionHeld3
namespace Go.Proofs.YteeocekjekclbaaGreatDoor
open Go.RowKit
theorem er1_new (w:World) (a b:Int) (t:TypeId):ER (w.alloc (.cells #[.int .i64 a,.int .i64 b] t)) (.slice (some ⟨w.heap.size,0,none⟩) 1 1) [(a,b)]:=by
 refine ⟨_,1,rfl,fun _=>⟨w.heap.size,0,rfl,fun k x hx=> ?_⟩⟩
 match k,hx with
 |0,hx=>simp at hx;subst hx;exact ⟨by simp [go_sem],by simp [go_sem]⟩
theorem er2_new (w:World) (a b c d:Int) (t:TypeId):ER (w.alloc (.cells #[.int .i64 a,.int .i64 b,.int .i64 c,.int .i64 d] t)) (.slice (some ⟨w.heap.size,0,none⟩) 2 2) [(a,b),(c,d)]:=by
 refine ⟨_,2,rfl,fun _=>⟨w.heap.size,0,rfl,fun k x hx=> ?_⟩⟩
 match k,hx with
 |0,hx=>simp at hx;subst hx;exact ⟨by simp [go_sem],by simp [go_sem]⟩
 |1,hx=>simp at hx;subst hx;exact ⟨by simp [go_sem],by simp [go_sem]⟩
set_option maxHeartbeats 400000 in
theorem mkUse_any (v:Int) (w:World):Calls Tryz.prog 22 #[.int .i64 v] w fun e w'=>e= .returned (.agg #[.int .i64 1,.int .i64 v])∧Below w.heap.size w w':=by
 go_enter Tryz.func22,Tryz.ntmps22
 go_wp2
 refine bodyPost_ret (v:= .agg #[.int .i64 1,.int .i64 v]) (by simp [results,Tryz.results22,go_sem]) rfl ⟨rfl,?_⟩
 exact (Below.refl _ _).alloc (Nat.le_refl _) _
set_option maxHeartbeats 400000 in
theorem mkDrop_any (v:Int) (w:World):Calls Tryz.prog 23 #[.int .i64 v] w fun e w'=>e= .returned (.agg #[.int .i64 2,.int .i64 v])∧Below w.heap.size w w':=by
 go_enter Tryz.func23,Tryz.ntmps23
 go_wp2
 refine bodyPost_ret (v:= .agg #[.int .i64 2,.int .i64 v]) (by simp [results,Tryz.results23,go_sem]) rfl ⟨rfl,?_⟩
 exact (Below.refl _ _).alloc (Nat.le_refl _) _
set_option maxHeartbeats 400000 in
theorem mkBind_any (v:Int) (w:World):Calls Tryz.prog 21 #[.int .i64 v] w fun e w'=>e= .returned (.agg #[.int .i64 3,.int .i64 v])∧Below w.heap.size w w':=by
 go_enter Tryz.func21,Tryz.ntmps21
 go_wp2
 refine bodyPost_ret (v:= .agg #[.int .i64 3,.int .i64 v]) (by simp [results,Tryz.results21,go_sem]) rfl ⟨rfl,?_⟩
 exact (Below.refl _ _).alloc (Nat.le_refl _) _
set_option maxHeartbeats 400000 in
theorem mkOver_any (v:Int) (w:World):Calls Tryz.prog 25 #[.int .i64 v] w fun e w'=>e= .returned (.agg #[.int .i64 4,.int .i64 v])∧Below w.heap.size w w':=by
 go_enter Tryz.func25,Tryz.ntmps25
 go_wp2
 refine bodyPost_ret (v:= .agg #[.int .i64 4,.int .i64 v]) (by simp [results,Tryz.results25,go_sem]) rfl ⟨rfl,?_⟩
 exact (Below.refl _ _).alloc (Nat.le_refl _) _
set_option maxRecDepth 100000 in
set_option maxHeartbeats 2000000 in
theorem deeds3_any (q:PV) (p:Cd.Pr) (x:Cd.In) (ae:Option Addr) (ce:Nat) (aa:Option Addr) (ca:Nat) (w:World) (h:PC q p w) (hx:x.op=3):
  Calls Tryz.prog 12 #[q.v p,IV x ae ce aa ca] w fun e w'=> ∃ v',e= .returned v'∧w'.ownsRow w.heap.size 57 2 v' (Cd.deeds p x).length (fcells (Cd.deeds p x))∧Below w.heap.size w w':=by
 obtain ⟨xop,xa,xb,xn,xto,xt,xe,xargs,xbk,xlp,xat⟩:=x
 dsimp only at hx
 subst hx
 have HD:Hid (Cd.deeds p ⟨3,xa,xb,xn,xto,xt,xe,xargs,xbk,xlp,xat⟩=([(3,xa),(3,xb)]:List (Int × Int)).filter fun y=>Cd.isEnd p y.2):=hide rfl
 rw [HD.out]
 have HP:=hide h
 have HOE:Hid (∀ (w':World) (v:Value) (L:List (Int × Int)),Below ((w.alloc (.cells (q.cells p) 26)).alloc (.cells #[.int .i64 3,.int .i64 xa,.int .i64 xb,.int .i64 xn,.int .i64 xto,.string xt,.slice ae xe.length ce,.slice aa xargs.length ca,.int .i64 xbk,.int .i64 xlp,.int .i64 xat] 53)).heap.size ((w.alloc (.cells (q.cells p) 26)).alloc (.cells #[.int .i64 3,.int .i64 xa,.int .i64 xb,.int .i64 xn,.int .i64 xto,.string xt,.slice ae xe.length ce,.slice aa xargs.length ca,.int .i64 xbk,.int .i64 xlp,.int .i64 xat] 53)) w'→ER w' v L→L.length≤100000→Calls Tryz.prog 20 #[q.v p,v] w' fun e w''=> ∃ v',e= .returned v'∧w''.ownsRow w'.heap.size 57 2 v' (L.filter fun y=>Cd.isEnd p y.2).length (fcells (L.filter fun y=>Cd.isEnd p y.2))∧Below w'.heap.size w' w''):=hide (fun w' v L hb he hl=>onEnds_any q p v L w' (HP.out.keep (btrans (((Below.refl _ _).alloc (Nat.le_refl _) _).alloc (by simp) _) hb)) he hl)
 have HB0:Hid (Below w.heap.size w ((w.alloc (.cells (q.cells p) 26)).alloc (.cells #[.int .i64 3,.int .i64 xa,.int .i64 xb,.int .i64 xn,.int .i64 xto,.string xt,.slice ae xe.length ce,.slice aa xargs.length ca,.int .i64 xbk,.int .i64 xlp,.int .i64 xat] 53))):=hide (((Below.refl _ _).alloc (Nat.le_refl _) _).alloc (by simp) _)
 unfold PV.v IV at *
 unfold PV.cells at *
 dsimp only at *
 clear h HD HP
 go_enter Tryz.func12,Tryz.ntmps12
 go_wp2
 have HJ0:((w.alloc (.cells #[.string p.name,.slice q.av p.vars.length q.cv,.int .i64 p.params,.slice q.ab p.blocks.length q.cb,.slice q.ai p.ins.length q.ci] 26)).alloc (.cells #[.int .i64 3,.int .i64 xa,.int .i64 xb,.int .i64 xn,.int .i64 xto,.string xt,.slice ae xe.length ce,.slice aa xargs.length ca,.int .i64 xbk,.int .i64 xlp,.int .i64 xat] 53)).cell? ⟨w.heap.size,0,none⟩=some (.string p.name):=by simp [go_sem]
 obtain ⟨W,hW⟩: ∃ W,((w.alloc (.cells #[.string p.name,.slice q.av p.vars.length q.cv,.int .i64 p.params,.slice q.ab p.blocks.length q.cb,.slice q.ai p.ins.length q.ci] 26)).alloc (.cells #[.int .i64 3,.int .i64 xa,.int .i64 xb,.int .i64 xn,.int .i64 xto,.string xt,.slice ae xe.length ce,.slice aa xargs.length ca,.int .i64 xbk,.int .i64 xlp,.int .i64 xat] 53))=W:=⟨_,rfl⟩
 have HJ:Hid (∀ w',Below W.heap.size W w'→w'.cell? ⟨w.heap.size,0,none⟩=some (.string p.name)∧w'.cell? ⟨w.heap.size,1,none⟩=some (.slice q.av p.vars.length q.cv)∧w'.cell? ⟨w.heap.size,2,none⟩=some (.int .i64 p.params)∧w'.cell? ⟨w.heap.size,3,none⟩=some (.slice q.ab p.blocks.length q.cb)∧w'.cell? ⟨w.heap.size,4,none⟩=some (.slice q.ai p.ins.length q.ci)∧w'.cell? ⟨w.heap.size+1,1,none⟩=some (.int .i64 xa)∧w'.cell? ⟨w.heap.size+1,2,none⟩=some (.int .i64 xb)):=hide (fun w' hb=>⟨bsome hb (by rw [←hW];simp [go_sem]),bsome hb (by rw [←hW];simp [go_sem]),bsome hb (by rw [←hW];simp [go_sem]),bsome hb (by rw [←hW];simp [go_sem]),bsome hb (by rw [←hW];simp [go_sem]),bsome hb (by rw [←hW];simp [go_sem]),bsome hb (by rw [←hW];simp [go_sem])⟩)
 rw [hW] at HOE HB0 ⊢
 clear hW HJ0
 have kc:Hid (Below W.heap.size W W.drew):=hide (below_drewN (Below.refl _ _) 1)
 obtain ⟨a0,a1,a2,a3,a4,a5,a6⟩:=HJ.out W (Below.refl _ _)
 go_region_held3 (fun w'=>w'.cell? ⟨w.heap.size,0,none⟩=some (.string p.name)∧w'.cell? ⟨w.heap.size,1,none⟩=some (.slice q.av p.vars.length q.cv)∧w'.cell? ⟨w.heap.size,2,none⟩=some (.int .i64 p.params)∧w'.cell? ⟨w.heap.size,3,none⟩=some (.slice q.ab p.blocks.length q.cb)∧w'.cell? ⟨w.heap.size,4,none⟩=some (.slice q.ai p.ins.length q.ci)∧w'.cell? ⟨w.heap.size+1,1,none⟩=some (.int .i64 xa)∧w'.cell? ⟨w.heap.size+1,2,none⟩=some (.int .i64 xb)) ((first|exact ⟨by assumption,by assumption,by assumption,by assumption,by assumption,by assumption,by assumption⟩|go_keep)) ((first
   |(go_at_call 21;refine (mkBind_any _ _).mono ?_;rintro e wq ⟨rfl,hbq⟩;have kd:=hide (btrans kc.out hbq);clear kc;have kc:=kd;clear kd hbq;obtain ⟨j0,j1,j2,j3,j4,j5,j6⟩:=HJ.out _ kc.out)
   |(go_at_call 20;refine (HOE.out _ _ [(3,xa),(3,xb)] (by exact btrans kc.out ((Below.refl _ _).alloc (Nat.le_refl _) _)) (by exact er2_new _ 3 xa 3 xb 57) (by simp)).mono ?_;rintro e w9 ⟨v9,rfl,ho9,hb9⟩;have HO9:=hide ho9;have HB9:=hide (btrans (btrans kc.out ((Below.refl _ _).alloc (Nat.le_refl _) _)) hb9);clear ho9 hb9;obtain ⟨j0,j1,j2,j3,j4,j5,j6⟩:=HJ.out _ HB9.out)))
 all_goals
  go_wp2
  go_ret
  exact ⟨_,rfl,own_low HO9.out (by have:=kc.out.size;have:=HB0.out.size;simp;omega),btrans HB0.out HB9.out⟩
set_option maxRecDepth 100000 in
set_option maxHeartbeats 2000000 in
theorem deeds4_any (q:PV) (p:Cd.Pr) (x:Cd.In) (ae:Option Addr) (ce:Nat) (aa:Option Addr) (ca:Nat) (w:World) (h:PC q p w) (hx:x.op=4):
  Calls Tryz.prog 12 #[q.v p,IV x ae ce aa ca] w fun e w'=> ∃ v',e= .returned v'∧w'.ownsRow w.heap.size 57 2 v' (Cd.deeds p x).length (fcells (Cd.deeds p x))∧Below w.heap.size w w':=by
 obtain ⟨xop,xa,xb,xn,xto,xt,xe,xargs,xbk,xlp,xat⟩:=x
 dsimp only at hx
 subst hx
 have HD:Hid (Cd.deeds p ⟨4,xa,xb,xn,xto,xt,xe,xargs,xbk,xlp,xat⟩=([(1,xb),(3,xa)]:List (Int × Int)).filter fun y=>Cd.isEnd p y.2):=hide rfl
 rw [HD.out]
 have HP:=hide h
 have HOE:Hid (∀ (w':World) (v:Value) (L:List (Int × Int)),Below ((w.alloc (.cells (q.cells p) 26)).alloc (.cells #[.int .i64 4,.int .i64 xa,.int .i64 xb,.int .i64 xn,.int .i64 xto,.string xt,.slice ae xe.length ce,.slice aa xargs.length ca,.int .i64 xbk,.int .i64 xlp,.int .i64 xat] 53)).heap.size ((w.alloc (.cells (q.cells p) 26)).alloc (.cells #[.int .i64 4,.int .i64 xa,.int .i64 xb,.int .i64 xn,.int .i64 xto,.string xt,.slice ae xe.length ce,.slice aa xargs.length ca,.int .i64 xbk,.int .i64 xlp,.int .i64 xat] 53)) w'→ER w' v L→L.length≤100000→Calls Tryz.prog 20 #[q.v p,v] w' fun e w''=> ∃ v',e= .returned v'∧w''.ownsRow w'.heap.size 57 2 v' (L.filter fun y=>Cd.isEnd p y.2).length (fcells (L.filter fun y=>Cd.isEnd p y.2))∧Below w'.heap.size w' w''):=hide (fun w' v L hb he hl=>onEnds_any q p v L w' (HP.out.keep (btrans (((Below.refl _ _).alloc (Nat.le_refl _) _).alloc (by simp) _) hb)) he hl)
 have HB0:Hid (Below w.heap.size w ((w.alloc (.cells (q.cells p) 26)).alloc (.cells #[.int .i64 4,.int .i64 xa,.int .i64 xb,.int .i64 xn,.int .i64 xto,.string xt,.slice ae xe.length ce,.slice aa xargs.length ca,.int .i64 xbk,.int .i64 xlp,.int .i64 xat] 53))):=hide (((Below.refl _ _).alloc (Nat.le_refl _) _).alloc (by simp) _)
 unfold PV.v IV at *
 unfold PV.cells at *
 dsimp only at *
 clear h HD HP
 go_enter Tryz.func12,Tryz.ntmps12
 go_wp2
 have HJ0:((w.alloc (.cells #[.string p.name,.slice q.av p.vars.length q.cv,.int .i64 p.params,.slice q.ab p.blocks.length q.cb,.slice q.ai p.ins.length q.ci] 26)).alloc (.cells #[.int .i64 4,.int .i64 xa,.int .i64 xb,.int .i64 xn,.int .i64 xto,.string xt,.slice ae xe.length ce,.slice aa xargs.length ca,.int .i64 xbk,.int .i64 xlp,.int .i64 xat] 53)).cell? ⟨w.heap.size,0,none⟩=some (.string p.name):=by simp [go_sem]
 obtain ⟨W,hW⟩: ∃ W,((w.alloc (.cells #[.string p.name,.slice q.av p.vars.length q.cv,.int .i64 p.params,.slice q.ab p.blocks.length q.cb,.slice q.ai p.ins.length q.ci] 26)).alloc (.cells #[.int .i64 4,.int .i64 xa,.int .i64 xb,.int .i64 xn,.int .i64 xto,.string xt,.slice ae xe.length ce,.slice aa xargs.length ca,.int .i64 xbk,.int .i64 xlp,.int .i64 xat] 53))=W:=⟨_,rfl⟩
 have HJ:Hid (∀ w',Below W.heap.size W w'→w'.cell? ⟨w.heap.size,0,none⟩=some (.string p.name)∧w'.cell? ⟨w.heap.size,1,none⟩=some (.slice q.av p.vars.length q.cv)∧w'.cell? ⟨w.heap.size,2,none⟩=some (.int .i64 p.params)∧w'.cell? ⟨w.heap.size,3,none⟩=some (.slice q.ab p.blocks.length q.cb)∧w'.cell? ⟨w.heap.size,4,none⟩=some (.slice q.ai p.ins.length q.ci)∧w'.cell? ⟨w.heap.size+1,1,none⟩=some (.int .i64 xa)∧w'.cell? ⟨w.heap.size+1,2,none⟩=some (.int .i64 xb)):=hide (fun w' hb=>⟨bsome hb (by rw [←hW];simp [go_sem]),bsome hb (by rw [←hW];simp [go_sem]),bsome hb (by rw [←hW];simp [go_sem]),bsome hb (by rw [←hW];simp [go_sem]),bsome hb (by rw [←hW];simp [go_sem]),bsome hb (by rw [←hW];simp [go_sem]),bsome hb (by rw [←hW];simp [go_sem])⟩)
 rw [hW] at HOE HB0 ⊢
 clear hW HJ0
 have kc:Hid (Below W.heap.size W W.drew):=hide (below_drewN (Below.refl _ _) 1)
 obtain ⟨a0,a1,a2,a3,a4,a5,a6⟩:=HJ.out W (Below.refl _ _)
 go_region_held3 (fun w'=>w'.cell? ⟨w.heap.size,0,none⟩=some (.string p.name)∧w'.cell? ⟨w.heap.size,1,none⟩=some (.slice q.av p.vars.length q.cv)∧w'.cell? ⟨w.heap.size,2,none⟩=some (.int .i64 p.params)∧w'.cell? ⟨w.heap.size,3,none⟩=some (.slice q.ab p.blocks.length q.cb)∧w'.cell? ⟨w.heap.size,4,none⟩=some (.slice q.ai p.ins.length q.ci)∧w'.cell? ⟨w.heap.size+1,1,none⟩=some (.int .i64 xa)∧w'.cell? ⟨w.heap.size+1,2,none⟩=some (.int .i64 xb)) ((first|exact ⟨by assumption,by assumption,by assumption,by assumption,by assumption,by assumption,by assumption⟩|go_keep)) ((first
   |(go_at_call 22;refine (mkUse_any _ _).mono ?_;rintro e wq ⟨rfl,hbq⟩;have kd:=hide (btrans kc.out hbq);clear kc;have kc:=kd;clear kd hbq;obtain ⟨j0,j1,j2,j3,j4,j5,j6⟩:=HJ.out _ kc.out)
   |(go_at_call 21;refine (mkBind_any _ _).mono ?_;rintro e wq ⟨rfl,hbq⟩;have kd:=hide (btrans kc.out hbq);clear kc;have kc:=kd;clear kd hbq;obtain ⟨j0,j1,j2,j3,j4,j5,j6⟩:=HJ.out _ kc.out)
   |(go_at_call 20;refine (HOE.out _ _ [(1,xb),(3,xa)] (by exact btrans kc.out ((Below.refl _ _).alloc (Nat.le_refl _) _)) (by exact er2_new _ 1 xb 3 xa 57) (by simp)).mono ?_;rintro e w9 ⟨v9,rfl,ho9,hb9⟩;have HO9:=hide ho9;have HB9:=hide (btrans (btrans kc.out ((Below.refl _ _).alloc (Nat.le_refl _) _)) hb9);clear ho9 hb9;obtain ⟨j0,j1,j2,j3,j4,j5,j6⟩:=HJ.out _ HB9.out)))
 all_goals
  go_wp2
  go_ret
  exact ⟨_,rfl,own_low HO9.out (by have:=kc.out.size;have:=HB0.out.size;simp;omega),btrans HB0.out HB9.out⟩
set_option maxRecDepth 100000 in
set_option maxHeartbeats 2000000 in
theorem deeds11_any (q:PV) (p:Cd.Pr) (x:Cd.In) (ae:Option Addr) (ce:Nat) (aa:Option Addr) (ca:Nat) (w:World) (h:PC q p w) (hx:x.op=11):
  Calls Tryz.prog 12 #[q.v p,IV x ae ce aa ca] w fun e w'=> ∃ v',e= .returned v'∧w'.ownsRow w.heap.size 57 2 v' (Cd.deeds p x).length (fcells (Cd.deeds p x))∧Below w.heap.size w w':=by
 obtain ⟨xop,xa,xb,xn,xto,xt,xe,xargs,xbk,xlp,xat⟩:=x
 dsimp only at hx
 subst hx
 have HD:Hid (Cd.deeds p ⟨11,xa,xb,xn,xto,xt,xe,xargs,xbk,xlp,xat⟩=([(1,xb),(3,xa)]:List (Int × Int)).filter fun y=>Cd.isEnd p y.2):=hide rfl
 rw [HD.out]
 have HP:=hide h
 have HOE:Hid (∀ (w':World) (v:Value) (L:List (Int × Int)),Below ((w.alloc (.cells (q.cells p) 26)).alloc (.cells #[.int .i64 11,.int .i64 xa,.int .i64 xb,.int .i64 xn,.int .i64 xto,.string xt,.slice ae xe.length ce,.slice aa xargs.length ca,.int .i64 xbk,.int .i64 xlp,.int .i64 xat] 53)).heap.size ((w.alloc (.cells (q.cells p) 26)).alloc (.cells #[.int .i64 11,.int .i64 xa,.int .i64 xb,.int .i64 xn,.int .i64 xto,.string xt,.slice ae xe.length ce,.slice aa xargs.length ca,.int .i64 xbk,.int .i64 xlp,.int .i64 xat] 53)) w'→ER w' v L→L.length≤100000→Calls Tryz.prog 20 #[q.v p,v] w' fun e w''=> ∃ v',e= .returned v'∧w''.ownsRow w'.heap.size 57 2 v' (L.filter fun y=>Cd.isEnd p y.2).length (fcells (L.filter fun y=>Cd.isEnd p y.2))∧Below w'.heap.size w' w''):=hide (fun w' v L hb he hl=>onEnds_any q p v L w' (HP.out.keep (btrans (((Below.refl _ _).alloc (Nat.le_refl _) _).alloc (by simp) _) hb)) he hl)
 have HB0:Hid (Below w.heap.size w ((w.alloc (.cells (q.cells p) 26)).alloc (.cells #[.int .i64 11,.int .i64 xa,.int .i64 xb,.int .i64 xn,.int .i64 xto,.string xt,.slice ae xe.length ce,.slice aa xargs.length ca,.int .i64 xbk,.int .i64 xlp,.int .i64 xat] 53))):=hide (((Below.refl _ _).alloc (Nat.le_refl _) _).alloc (by simp) _)
 unfold PV.v IV at *
 unfold PV.cells at *
 dsimp only at *
 clear h HD HP
 go_enter Tryz.func12,Tryz.ntmps12
 go_wp2
 have HJ0:((w.alloc (.cells #[.string p.name,.slice q.av p.vars.length q.cv,.int .i64 p.params,.slice q.ab p.blocks.length q.cb,.slice q.ai p.ins.length q.ci] 26)).alloc (.cells #[.int .i64 11,.int .i64 xa,.int .i64 xb,.int .i64 xn,.int .i64 xto,.string xt,.slice ae xe.length ce,.slice aa xargs.length ca,.int .i64 xbk,.int .i64 xlp,.int .i64 xat] 53)).cell? ⟨w.heap.size,0,none⟩=some (.string p.name):=by simp [go_sem]
 obtain ⟨W,hW⟩: ∃ W,((w.alloc (.cells #[.string p.name,.slice q.av p.vars.length q.cv,.int .i64 p.params,.slice q.ab p.blocks.length q.cb,.slice q.ai p.ins.length q.ci] 26)).alloc (.cells #[.int .i64 11,.int .i64 xa,.int .i64 xb,.int .i64 xn,.int .i64 xto,.string xt,.slice ae xe.length ce,.slice aa xargs.length ca,.int .i64 xbk,.int .i64 xlp,.int .i64 xat] 53))=W:=⟨_,rfl⟩
 have HJ:Hid (∀ w',Below W.heap.size W w'→w'.cell? ⟨w.heap.size,0,none⟩=some (.string p.name)∧w'.cell? ⟨w.heap.size,1,none⟩=some (.slice q.av p.vars.length q.cv)∧w'.cell? ⟨w.heap.size,2,none⟩=some (.int .i64 p.params)∧w'.cell? ⟨w.heap.size,3,none⟩=some (.slice q.ab p.blocks.length q.cb)∧w'.cell? ⟨w.heap.size,4,none⟩=some (.slice q.ai p.ins.length q.ci)∧w'.cell? ⟨w.heap.size+1,1,none⟩=some (.int .i64 xa)∧w'.cell? ⟨w.heap.size+1,2,none⟩=some (.int .i64 xb)):=hide (fun w' hb=>⟨bsome hb (by rw [←hW];simp [go_sem]),bsome hb (by rw [←hW];simp [go_sem]),bsome hb (by rw [←hW];simp [go_sem]),bsome hb (by rw [←hW];simp [go_sem]),bsome hb (by rw [←hW];simp [go_sem]),bsome hb (by rw [←hW];simp [go_sem]),bsome hb (by rw [←hW];simp [go_sem])⟩)
 rw [hW] at HOE HB0 ⊢
 clear hW HJ0
 have kc:Hid (Below W.heap.size W W.drew):=hide (below_drewN (Below.refl _ _) 1)
 obtain ⟨a0,a1,a2,a3,a4,a5,a6⟩:=HJ.out W (Below.refl _ _)
 go_region_held3 (fun w'=>w'.cell? ⟨w.heap.size,0,none⟩=some (.string p.name)∧w'.cell? ⟨w.heap.size,1,none⟩=some (.slice q.av p.vars.length q.cv)∧w'.cell? ⟨w.heap.size,2,none⟩=some (.int .i64 p.params)∧w'.cell? ⟨w.heap.size,3,none⟩=some (.slice q.ab p.blocks.length q.cb)∧w'.cell? ⟨w.heap.size,4,none⟩=some (.slice q.ai p.ins.length q.ci)∧w'.cell? ⟨w.heap.size+1,1,none⟩=some (.int .i64 xa)∧w'.cell? ⟨w.heap.size+1,2,none⟩=some (.int .i64 xb)) ((first|exact ⟨by assumption,by assumption,by assumption,by assumption,by assumption,by assumption,by assumption⟩|go_keep)) ((first
   |(go_at_call 22;refine (mkUse_any _ _).mono ?_;rintro e wq ⟨rfl,hbq⟩;have kd:=hide (btrans kc.out hbq);clear kc;have kc:=kd;clear kd hbq;obtain ⟨j0,j1,j2,j3,j4,j5,j6⟩:=HJ.out _ kc.out)
   |(go_at_call 21;refine (mkBind_any _ _).mono ?_;rintro e wq ⟨rfl,hbq⟩;have kd:=hide (btrans kc.out hbq);clear kc;have kc:=kd;clear kd hbq;obtain ⟨j0,j1,j2,j3,j4,j5,j6⟩:=HJ.out _ kc.out)
   |(go_at_call 20;refine (HOE.out _ _ [(1,xb),(3,xa)] (by exact btrans kc.out ((Below.refl _ _).alloc (Nat.le_refl _) _)) (by exact er2_new _ 1 xb 3 xa 57) (by simp)).mono ?_;rintro e w9 ⟨v9,rfl,ho9,hb9⟩;have HO9:=hide ho9;have HB9:=hide (btrans (btrans kc.out ((Below.refl _ _).alloc (Nat.le_refl _) _)) hb9);clear ho9 hb9;obtain ⟨j0,j1,j2,j3,j4,j5,j6⟩:=HJ.out _ HB9.out)))
 all_goals
  go_wp2
  go_ret
  exact ⟨_,rfl,own_low HO9.out (by have:=kc.out.size;have:=HB0.out.size;simp;omega),btrans HB0.out HB9.out⟩
set_option maxRecDepth 100000 in
set_option maxHeartbeats 2000000 in
theorem deeds5_any (q:PV) (p:Cd.Pr) (x:Cd.In) (ae:Option Addr) (ce:Nat) (aa:Option Addr) (ca:Nat) (w:World) (h:PC q p w) (hx:x.op=5):
  Calls Tryz.prog 12 #[q.v p,IV x ae ce aa ca] w fun e w'=> ∃ v',e= .returned v'∧w'.ownsRow w.heap.size 57 2 v' (Cd.deeds p x).length (fcells (Cd.deeds p x))∧Below w.heap.size w w':=by
 obtain ⟨xop,xa,xb,xn,xto,xt,xe,xargs,xbk,xlp,xat⟩:=x
 dsimp only at hx
 subst hx
 have HD:Hid (Cd.deeds p ⟨5,xa,xb,xn,xto,xt,xe,xargs,xbk,xlp,xat⟩=([(1,xa)]:List (Int × Int)).filter fun y=>Cd.isEnd p y.2):=hide rfl
 rw [HD.out]
 have HP:=hide h
 have HOE:Hid (∀ (w':World) (v:Value) (L:List (Int × Int)),Below ((w.alloc (.cells (q.cells p) 26)).alloc (.cells #[.int .i64 5,.int .i64 xa,.int .i64 xb,.int .i64 xn,.int .i64 xto,.string xt,.slice ae xe.length ce,.slice aa xargs.length ca,.int .i64 xbk,.int .i64 xlp,.int .i64 xat] 53)).heap.size ((w.alloc (.cells (q.cells p) 26)).alloc (.cells #[.int .i64 5,.int .i64 xa,.int .i64 xb,.int .i64 xn,.int .i64 xto,.string xt,.slice ae xe.length ce,.slice aa xargs.length ca,.int .i64 xbk,.int .i64 xlp,.int .i64 xat] 53)) w'→ER w' v L→L.length≤100000→Calls Tryz.prog 20 #[q.v p,v] w' fun e w''=> ∃ v',e= .returned v'∧w''.ownsRow w'.heap.size 57 2 v' (L.filter fun y=>Cd.isEnd p y.2).length (fcells (L.filter fun y=>Cd.isEnd p y.2))∧Below w'.heap.size w' w''):=hide (fun w' v L hb he hl=>onEnds_any q p v L w' (HP.out.keep (btrans (((Below.refl _ _).alloc (Nat.le_refl _) _).alloc (by simp) _) hb)) he hl)
 have HB0:Hid (Below w.heap.size w ((w.alloc (.cells (q.cells p) 26)).alloc (.cells #[.int .i64 5,.int .i64 xa,.int .i64 xb,.int .i64 xn,.int .i64 xto,.string xt,.slice ae xe.length ce,.slice aa xargs.length ca,.int .i64 xbk,.int .i64 xlp,.int .i64 xat] 53))):=hide (((Below.refl _ _).alloc (Nat.le_refl _) _).alloc (by simp) _)
 unfold PV.v IV at *
 unfold PV.cells at *
 dsimp only at *
 clear h HD HP
 go_enter Tryz.func12,Tryz.ntmps12
 go_wp2
 have HJ0:((w.alloc (.cells #[.string p.name,.slice q.av p.vars.length q.cv,.int .i64 p.params,.slice q.ab p.blocks.length q.cb,.slice q.ai p.ins.length q.ci] 26)).alloc (.cells #[.int .i64 5,.int .i64 xa,.int .i64 xb,.int .i64 xn,.int .i64 xto,.string xt,.slice ae xe.length ce,.slice aa xargs.length ca,.int .i64 xbk,.int .i64 xlp,.int .i64 xat] 53)).cell? ⟨w.heap.size,0,none⟩=some (.string p.name):=by simp [go_sem]
 obtain ⟨W,hW⟩: ∃ W,((w.alloc (.cells #[.string p.name,.slice q.av p.vars.length q.cv,.int .i64 p.params,.slice q.ab p.blocks.length q.cb,.slice q.ai p.ins.length q.ci] 26)).alloc (.cells #[.int .i64 5,.int .i64 xa,.int .i64 xb,.int .i64 xn,.int .i64 xto,.string xt,.slice ae xe.length ce,.slice aa xargs.length ca,.int .i64 xbk,.int .i64 xlp,.int .i64 xat] 53))=W:=⟨_,rfl⟩
 have HJ:Hid (∀ w',Below W.heap.size W w'→w'.cell? ⟨w.heap.size,0,none⟩=some (.string p.name)∧w'.cell? ⟨w.heap.size,1,none⟩=some (.slice q.av p.vars.length q.cv)∧w'.cell? ⟨w.heap.size,2,none⟩=some (.int .i64 p.params)∧w'.cell? ⟨w.heap.size,3,none⟩=some (.slice q.ab p.blocks.length q.cb)∧w'.cell? ⟨w.heap.size,4,none⟩=some (.slice q.ai p.ins.length q.ci)∧w'.cell? ⟨w.heap.size+1,1,none⟩=some (.int .i64 xa)∧w'.cell? ⟨w.heap.size+1,2,none⟩=some (.int .i64 xb)):=hide (fun w' hb=>⟨bsome hb (by rw [←hW];simp [go_sem]),bsome hb (by rw [←hW];simp [go_sem]),bsome hb (by rw [←hW];simp [go_sem]),bsome hb (by rw [←hW];simp [go_sem]),bsome hb (by rw [←hW];simp [go_sem]),bsome hb (by rw [←hW];simp [go_sem]),bsome hb (by rw [←hW];simp [go_sem])⟩)
 rw [hW] at HOE HB0 ⊢
 clear hW HJ0
 have kc:Hid (Below W.heap.size W W.drew):=hide (below_drewN (Below.refl _ _) 1)
 obtain ⟨a0,a1,a2,a3,a4,a5,a6⟩:=HJ.out W (Below.refl _ _)
 go_region_held3 (fun w'=>w'.cell? ⟨w.heap.size,0,none⟩=some (.string p.name)∧w'.cell? ⟨w.heap.size,1,none⟩=some (.slice q.av p.vars.length q.cv)∧w'.cell? ⟨w.heap.size,2,none⟩=some (.int .i64 p.params)∧w'.cell? ⟨w.heap.size,3,none⟩=some (.slice q.ab p.blocks.length q.cb)∧w'.cell? ⟨w.heap.size,4,none⟩=some (.slice q.ai p.ins.length q.ci)∧w'.cell? ⟨w.heap.size+1,1,none⟩=some (.int .i64 xa)∧w'.cell? ⟨w.heap.size+1,2,none⟩=some (.int .i64 xb)) ((first|exact ⟨by assumption,by assumption,by assumption,by assumption,by assumption,by assumption,by assumption⟩|go_keep)) ((first
   |(go_at_call 22;refine (mkUse_any _ _).mono ?_;rintro e wq ⟨rfl,hbq⟩;have kd:=hide (btrans kc.out hbq);clear kc;have kc:=kd;clear kd hbq;obtain ⟨j0,j1,j2,j3,j4,j5,j6⟩:=HJ.out _ kc.out)
   |(go_at_call 20;refine (HOE.out _ _ [(1,xa)] (by exact btrans kc.out ((Below.refl _ _).alloc (Nat.le_refl _) _)) (by exact er1_new _ 1 xa 57) (by simp)).mono ?_;rintro e w9 ⟨v9,rfl,ho9,hb9⟩;have HO9:=hide ho9;have HB9:=hide (btrans (btrans kc.out ((Below.refl _ _).alloc (Nat.le_refl _) _)) hb9);clear ho9 hb9;obtain ⟨j0,j1,j2,j3,j4,j5,j6⟩:=HJ.out _ HB9.out)))
 all_goals
  go_wp2
  go_ret
  exact ⟨_,rfl,own_low HO9.out (by have:=kc.out.size;have:=HB0.out.size;simp;omega),btrans HB0.out HB9.out⟩
set_option maxRecDepth 100000 in
set_option maxHeartbeats 2000000 in
theorem deeds6_any (q:PV) (p:Cd.Pr) (x:Cd.In) (ae:Option Addr) (ce:Nat) (aa:Option Addr) (ca:Nat) (w:World) (h:PC q p w) (hx:x.op=6):
  Calls Tryz.prog 12 #[q.v p,IV x ae ce aa ca] w fun e w'=> ∃ v',e= .returned v'∧w'.ownsRow w.heap.size 57 2 v' (Cd.deeds p x).length (fcells (Cd.deeds p x))∧Below w.heap.size w w':=by
 obtain ⟨xop,xa,xb,xn,xto,xt,xe,xargs,xbk,xlp,xat⟩:=x
 dsimp only at hx
 subst hx
 have HD:Hid (Cd.deeds p ⟨6,xa,xb,xn,xto,xt,xe,xargs,xbk,xlp,xat⟩=([(1,xa),(2,xb)]:List (Int × Int)).filter fun y=>Cd.isEnd p y.2):=hide rfl
 rw [HD.out]
 have HP:=hide h
 have HOE:Hid (∀ (w':World) (v:Value) (L:List (Int × Int)),Below ((w.alloc (.cells (q.cells p) 26)).alloc (.cells #[.int .i64 6,.int .i64 xa,.int .i64 xb,.int .i64 xn,.int .i64 xto,.string xt,.slice ae xe.length ce,.slice aa xargs.length ca,.int .i64 xbk,.int .i64 xlp,.int .i64 xat] 53)).heap.size ((w.alloc (.cells (q.cells p) 26)).alloc (.cells #[.int .i64 6,.int .i64 xa,.int .i64 xb,.int .i64 xn,.int .i64 xto,.string xt,.slice ae xe.length ce,.slice aa xargs.length ca,.int .i64 xbk,.int .i64 xlp,.int .i64 xat] 53)) w'→ER w' v L→L.length≤100000→Calls Tryz.prog 20 #[q.v p,v] w' fun e w''=> ∃ v',e= .returned v'∧w''.ownsRow w'.heap.size 57 2 v' (L.filter fun y=>Cd.isEnd p y.2).length (fcells (L.filter fun y=>Cd.isEnd p y.2))∧Below w'.heap.size w' w''):=hide (fun w' v L hb he hl=>onEnds_any q p v L w' (HP.out.keep (btrans (((Below.refl _ _).alloc (Nat.le_refl _) _).alloc (by simp) _) hb)) he hl)
 have HB0:Hid (Below w.heap.size w ((w.alloc (.cells (q.cells p) 26)).alloc (.cells #[.int .i64 6,.int .i64 xa,.int .i64 xb,.int .i64 xn,.int .i64 xto,.string xt,.slice ae xe.length ce,.slice aa xargs.length ca,.int .i64 xbk,.int .i64 xlp,.int .i64 xat] 53))):=hide (((Below.refl _ _).alloc (Nat.le_refl _) _).alloc (by simp) _)
 unfold PV.v IV at *
 unfold PV.cells at *
 dsimp only at *
 clear h HD HP
 go_enter Tryz.func12,Tryz.ntmps12
 go_wp2
 have HJ0:((w.alloc (.cells #[.string p.name,.slice q.av p.vars.length q.cv,.int .i64 p.params,.slice q.ab p.blocks.length q.cb,.slice q.ai p.ins.length q.ci] 26)).alloc (.cells #[.int .i64 6,.int .i64 xa,.int .i64 xb,.int .i64 xn,.int .i64 xto,.string xt,.slice ae xe.length ce,.slice aa xargs.length ca,.int .i64 xbk,.int .i64 xlp,.int .i64 xat] 53)).cell? ⟨w.heap.size,0,none⟩=some (.string p.name):=by simp [go_sem]
 obtain ⟨W,hW⟩: ∃ W,((w.alloc (.cells #[.string p.name,.slice q.av p.vars.length q.cv,.int .i64 p.params,.slice q.ab p.blocks.length q.cb,.slice q.ai p.ins.length q.ci] 26)).alloc (.cells #[.int .i64 6,.int .i64 xa,.int .i64 xb,.int .i64 xn,.int .i64 xto,.string xt,.slice ae xe.length ce,.slice aa xargs.length ca,.int .i64 xbk,.int .i64 xlp,.int .i64 xat] 53))=W:=⟨_,rfl⟩
 have HJ:Hid (∀ w',Below W.heap.size W w'→w'.cell? ⟨w.heap.size,0,none⟩=some (.string p.name)∧w'.cell? ⟨w.heap.size,1,none⟩=some (.slice q.av p.vars.length q.cv)∧w'.cell? ⟨w.heap.size,2,none⟩=some (.int .i64 p.params)∧w'.cell? ⟨w.heap.size,3,none⟩=some (.slice q.ab p.blocks.length q.cb)∧w'.cell? ⟨w.heap.size,4,none⟩=some (.slice q.ai p.ins.length q.ci)∧w'.cell? ⟨w.heap.size+1,1,none⟩=some (.int .i64 xa)∧w'.cell? ⟨w.heap.size+1,2,none⟩=some (.int .i64 xb)):=hide (fun w' hb=>⟨bsome hb (by rw [←hW];simp [go_sem]),bsome hb (by rw [←hW];simp [go_sem]),bsome hb (by rw [←hW];simp [go_sem]),bsome hb (by rw [←hW];simp [go_sem]),bsome hb (by rw [←hW];simp [go_sem]),bsome hb (by rw [←hW];simp [go_sem]),bsome hb (by rw [←hW];simp [go_sem])⟩)
 rw [hW] at HOE HB0 ⊢
 clear hW HJ0
 have kc:Hid (Below W.heap.size W W.drew):=hide (below_drewN (Below.refl _ _) 1)
 obtain ⟨a0,a1,a2,a3,a4,a5,a6⟩:=HJ.out W (Below.refl _ _)
 go_region_held3 (fun w'=>w'.cell? ⟨w.heap.size,0,none⟩=some (.string p.name)∧w'.cell? ⟨w.heap.size,1,none⟩=some (.slice q.av p.vars.length q.cv)∧w'.cell? ⟨w.heap.size,2,none⟩=some (.int .i64 p.params)∧w'.cell? ⟨w.heap.size,3,none⟩=some (.slice q.ab p.blocks.length q.cb)∧w'.cell? ⟨w.heap.size,4,none⟩=some (.slice q.ai p.ins.length q.ci)∧w'.cell? ⟨w.heap.size+1,1,none⟩=some (.int .i64 xa)∧w'.cell? ⟨w.heap.size+1,2,none⟩=some (.int .i64 xb)) ((first|exact ⟨by assumption,by assumption,by assumption,by assumption,by assumption,by assumption,by assumption⟩|go_keep)) ((first
   |(go_at_call 22;refine (mkUse_any _ _).mono ?_;rintro e wq ⟨rfl,hbq⟩;have kd:=hide (btrans kc.out hbq);clear kc;have kc:=kd;clear kd hbq;obtain ⟨j0,j1,j2,j3,j4,j5,j6⟩:=HJ.out _ kc.out)
   |(go_at_call 23;refine (mkDrop_any _ _).mono ?_;rintro e wq ⟨rfl,hbq⟩;have kd:=hide (btrans kc.out hbq);clear kc;have kc:=kd;clear kd hbq;obtain ⟨j0,j1,j2,j3,j4,j5,j6⟩:=HJ.out _ kc.out)
   |(go_at_call 20;refine (HOE.out _ _ [(1,xa),(2,xb)] (by exact btrans kc.out ((Below.refl _ _).alloc (Nat.le_refl _) _)) (by exact er2_new _ 1 xa 2 xb 57) (by simp)).mono ?_;rintro e w9 ⟨v9,rfl,ho9,hb9⟩;have HO9:=hide ho9;have HB9:=hide (btrans (btrans kc.out ((Below.refl _ _).alloc (Nat.le_refl _) _)) hb9);clear ho9 hb9;obtain ⟨j0,j1,j2,j3,j4,j5,j6⟩:=HJ.out _ HB9.out)))
 all_goals
  go_wp2
  go_ret
  exact ⟨_,rfl,own_low HO9.out (by have:=kc.out.size;have:=HB0.out.size;simp;omega),btrans HB0.out HB9.out⟩
set_option maxRecDepth 100000 in
set_option maxHeartbeats 2000000 in
theorem deeds7_any (q:PV) (p:Cd.Pr) (x:Cd.In) (ae:Option Addr) (ce:Nat) (aa:Option Addr) (ca:Nat) (w:World) (h:PC q p w) (hx:x.op=7):
  Calls Tryz.prog 12 #[q.v p,IV x ae ce aa ca] w fun e w'=> ∃ v',e= .returned v'∧w'.ownsRow w.heap.size 57 2 v' (Cd.deeds p x).length (fcells (Cd.deeds p x))∧Below w.heap.size w w':=by
 obtain ⟨xop,xa,xb,xn,xto,xt,xe,xargs,xbk,xlp,xat⟩:=x
 dsimp only at hx
 subst hx
 have HD:Hid (Cd.deeds p ⟨7,xa,xb,xn,xto,xt,xe,xargs,xbk,xlp,xat⟩=([(2,xa)]:List (Int × Int)).filter fun y=>Cd.isEnd p y.2):=hide rfl
 rw [HD.out]
 have HP:=hide h
 have HOE:Hid (∀ (w':World) (v:Value) (L:List (Int × Int)),Below ((w.alloc (.cells (q.cells p) 26)).alloc (.cells #[.int .i64 7,.int .i64 xa,.int .i64 xb,.int .i64 xn,.int .i64 xto,.string xt,.slice ae xe.length ce,.slice aa xargs.length ca,.int .i64 xbk,.int .i64 xlp,.int .i64 xat] 53)).heap.size ((w.alloc (.cells (q.cells p) 26)).alloc (.cells #[.int .i64 7,.int .i64 xa,.int .i64 xb,.int .i64 xn,.int .i64 xto,.string xt,.slice ae xe.length ce,.slice aa xargs.length ca,.int .i64 xbk,.int .i64 xlp,.int .i64 xat] 53)) w'→ER w' v L→L.length≤100000→Calls Tryz.prog 20 #[q.v p,v] w' fun e w''=> ∃ v',e= .returned v'∧w''.ownsRow w'.heap.size 57 2 v' (L.filter fun y=>Cd.isEnd p y.2).length (fcells (L.filter fun y=>Cd.isEnd p y.2))∧Below w'.heap.size w' w''):=hide (fun w' v L hb he hl=>onEnds_any q p v L w' (HP.out.keep (btrans (((Below.refl _ _).alloc (Nat.le_refl _) _).alloc (by simp) _) hb)) he hl)
 have HB0:Hid (Below w.heap.size w ((w.alloc (.cells (q.cells p) 26)).alloc (.cells #[.int .i64 7,.int .i64 xa,.int .i64 xb,.int .i64 xn,.int .i64 xto,.string xt,.slice ae xe.length ce,.slice aa xargs.length ca,.int .i64 xbk,.int .i64 xlp,.int .i64 xat] 53))):=hide (((Below.refl _ _).alloc (Nat.le_refl _) _).alloc (by simp) _)
 unfold PV.v IV at *
 unfold PV.cells at *
 dsimp only at *
 clear h HD HP
 go_enter Tryz.func12,Tryz.ntmps12
 go_wp2
 have HJ0:((w.alloc (.cells #[.string p.name,.slice q.av p.vars.length q.cv,.int .i64 p.params,.slice q.ab p.blocks.length q.cb,.slice q.ai p.ins.length q.ci] 26)).alloc (.cells #[.int .i64 7,.int .i64 xa,.int .i64 xb,.int .i64 xn,.int .i64 xto,.string xt,.slice ae xe.length ce,.slice aa xargs.length ca,.int .i64 xbk,.int .i64 xlp,.int .i64 xat] 53)).cell? ⟨w.heap.size,0,none⟩=some (.string p.name):=by simp [go_sem]
 obtain ⟨W,hW⟩: ∃ W,((w.alloc (.cells #[.string p.name,.slice q.av p.vars.length q.cv,.int .i64 p.params,.slice q.ab p.blocks.length q.cb,.slice q.ai p.ins.length q.ci] 26)).alloc (.cells #[.int .i64 7,.int .i64 xa,.int .i64 xb,.int .i64 xn,.int .i64 xto,.string xt,.slice ae xe.length ce,.slice aa xargs.length ca,.int .i64 xbk,.int .i64 xlp,.int .i64 xat] 53))=W:=⟨_,rfl⟩
 have HJ:Hid (∀ w',Below W.heap.size W w'→w'.cell? ⟨w.heap.size,0,none⟩=some (.string p.name)∧w'.cell? ⟨w.heap.size,1,none⟩=some (.slice q.av p.vars.length q.cv)∧w'.cell? ⟨w.heap.size,2,none⟩=some (.int .i64 p.params)∧w'.cell? ⟨w.heap.size,3,none⟩=some (.slice q.ab p.blocks.length q.cb)∧w'.cell? ⟨w.heap.size,4,none⟩=some (.slice q.ai p.ins.length q.ci)∧w'.cell? ⟨w.heap.size+1,1,none⟩=some (.int .i64 xa)∧w'.cell? ⟨w.heap.size+1,2,none⟩=some (.int .i64 xb)):=hide (fun w' hb=>⟨bsome hb (by rw [←hW];simp [go_sem]),bsome hb (by rw [←hW];simp [go_sem]),bsome hb (by rw [←hW];simp [go_sem]),bsome hb (by rw [←hW];simp [go_sem]),bsome hb (by rw [←hW];simp [go_sem]),bsome hb (by rw [←hW];simp [go_sem]),bsome hb (by rw [←hW];simp [go_sem])⟩)
 rw [hW] at HOE HB0 ⊢
 clear hW HJ0
 have kc:Hid (Below W.heap.size W W.drew):=hide (below_drewN (Below.refl _ _) 1)
 obtain ⟨a0,a1,a2,a3,a4,a5,a6⟩:=HJ.out W (Below.refl _ _)
 go_region_held3 (fun w'=>w'.cell? ⟨w.heap.size,0,none⟩=some (.string p.name)∧w'.cell? ⟨w.heap.size,1,none⟩=some (.slice q.av p.vars.length q.cv)∧w'.cell? ⟨w.heap.size,2,none⟩=some (.int .i64 p.params)∧w'.cell? ⟨w.heap.size,3,none⟩=some (.slice q.ab p.blocks.length q.cb)∧w'.cell? ⟨w.heap.size,4,none⟩=some (.slice q.ai p.ins.length q.ci)∧w'.cell? ⟨w.heap.size+1,1,none⟩=some (.int .i64 xa)∧w'.cell? ⟨w.heap.size+1,2,none⟩=some (.int .i64 xb)) ((first|exact ⟨by assumption,by assumption,by assumption,by assumption,by assumption,by assumption,by assumption⟩|go_keep)) ((first
   |(go_at_call 23;refine (mkDrop_any _ _).mono ?_;rintro e wq ⟨rfl,hbq⟩;have kd:=hide (btrans kc.out hbq);clear kc;have kc:=kd;clear kd hbq;obtain ⟨j0,j1,j2,j3,j4,j5,j6⟩:=HJ.out _ kc.out)
   |(go_at_call 20;refine (HOE.out _ _ [(2,xa)] (by exact btrans kc.out ((Below.refl _ _).alloc (Nat.le_refl _) _)) (by exact er1_new _ 2 xa 57) (by simp)).mono ?_;rintro e w9 ⟨v9,rfl,ho9,hb9⟩;have HO9:=hide ho9;have HB9:=hide (btrans (btrans kc.out ((Below.refl _ _).alloc (Nat.le_refl _) _)) hb9);clear ho9 hb9;obtain ⟨j0,j1,j2,j3,j4,j5,j6⟩:=HJ.out _ HB9.out)))
 all_goals
  go_wp2
  go_ret
  exact ⟨_,rfl,own_low HO9.out (by have:=kc.out.size;have:=HB0.out.size;simp;omega),btrans HB0.out HB9.out⟩
set_option maxRecDepth 100000 in
set_option maxHeartbeats 2000000 in
theorem deeds8_any (q:PV) (p:Cd.Pr) (x:Cd.In) (ae:Option Addr) (ce:Nat) (aa:Option Addr) (ca:Nat) (w:World) (h:PC q p w) (hx:x.op=8):
  Calls Tryz.prog 12 #[q.v p,IV x ae ce aa ca] w fun e w'=> ∃ v',e= .returned v'∧w'.ownsRow w.heap.size 57 2 v' (Cd.deeds p x).length (fcells (Cd.deeds p x))∧Below w.heap.size w w':=by
 obtain ⟨xop,xa,xb,xn,xto,xt,xe,xargs,xbk,xlp,xat⟩:=x
 dsimp only at hx
 subst hx
 have HD:Hid (Cd.deeds p ⟨8,xa,xb,xn,xto,xt,xe,xargs,xbk,xlp,xat⟩=([(2,xa)]:List (Int × Int)).filter fun y=>Cd.isEnd p y.2):=hide rfl
 rw [HD.out]
 have HP:=hide h
 have HOE:Hid (∀ (w':World) (v:Value) (L:List (Int × Int)),Below ((w.alloc (.cells (q.cells p) 26)).alloc (.cells #[.int .i64 8,.int .i64 xa,.int .i64 xb,.int .i64 xn,.int .i64 xto,.string xt,.slice ae xe.length ce,.slice aa xargs.length ca,.int .i64 xbk,.int .i64 xlp,.int .i64 xat] 53)).heap.size ((w.alloc (.cells (q.cells p) 26)).alloc (.cells #[.int .i64 8,.int .i64 xa,.int .i64 xb,.int .i64 xn,.int .i64 xto,.string xt,.slice ae xe.length ce,.slice aa xargs.length ca,.int .i64 xbk,.int .i64 xlp,.int .i64 xat] 53)) w'→ER w' v L→L.length≤100000→Calls Tryz.prog 20 #[q.v p,v] w' fun e w''=> ∃ v',e= .returned v'∧w''.ownsRow w'.heap.size 57 2 v' (L.filter fun y=>Cd.isEnd p y.2).length (fcells (L.filter fun y=>Cd.isEnd p y.2))∧Below w'.heap.size w' w''):=hide (fun w' v L hb he hl=>onEnds_any q p v L w' (HP.out.keep (btrans (((Below.refl _ _).alloc (Nat.le_refl _) _).alloc (by simp) _) hb)) he hl)
 have HB0:Hid (Below w.heap.size w ((w.alloc (.cells (q.cells p) 26)).alloc (.cells #[.int .i64 8,.int .i64 xa,.int .i64 xb,.int .i64 xn,.int .i64 xto,.string xt,.slice ae xe.length ce,.slice aa xargs.length ca,.int .i64 xbk,.int .i64 xlp,.int .i64 xat] 53))):=hide (((Below.refl _ _).alloc (Nat.le_refl _) _).alloc (by simp) _)
 unfold PV.v IV at *
 unfold PV.cells at *
 dsimp only at *
 clear h HD HP
 go_enter Tryz.func12,Tryz.ntmps12
 go_wp2
 have HJ0:((w.alloc (.cells #[.string p.name,.slice q.av p.vars.length q.cv,.int .i64 p.params,.slice q.ab p.blocks.length q.cb,.slice q.ai p.ins.length q.ci] 26)).alloc (.cells #[.int .i64 8,.int .i64 xa,.int .i64 xb,.int .i64 xn,.int .i64 xto,.string xt,.slice ae xe.length ce,.slice aa xargs.length ca,.int .i64 xbk,.int .i64 xlp,.int .i64 xat] 53)).cell? ⟨w.heap.size,0,none⟩=some (.string p.name):=by simp [go_sem]
 obtain ⟨W,hW⟩: ∃ W,((w.alloc (.cells #[.string p.name,.slice q.av p.vars.length q.cv,.int .i64 p.params,.slice q.ab p.blocks.length q.cb,.slice q.ai p.ins.length q.ci] 26)).alloc (.cells #[.int .i64 8,.int .i64 xa,.int .i64 xb,.int .i64 xn,.int .i64 xto,.string xt,.slice ae xe.length ce,.slice aa xargs.length ca,.int .i64 xbk,.int .i64 xlp,.int .i64 xat] 53))=W:=⟨_,rfl⟩
 have HJ:Hid (∀ w',Below W.heap.size W w'→w'.cell? ⟨w.heap.size,0,none⟩=some (.string p.name)∧w'.cell? ⟨w.heap.size,1,none⟩=some (.slice q.av p.vars.length q.cv)∧w'.cell? ⟨w.heap.size,2,none⟩=some (.int .i64 p.params)∧w'.cell? ⟨w.heap.size,3,none⟩=some (.slice q.ab p.blocks.length q.cb)∧w'.cell? ⟨w.heap.size,4,none⟩=some (.slice q.ai p.ins.length q.ci)∧w'.cell? ⟨w.heap.size+1,1,none⟩=some (.int .i64 xa)∧w'.cell? ⟨w.heap.size+1,2,none⟩=some (.int .i64 xb)):=hide (fun w' hb=>⟨bsome hb (by rw [←hW];simp [go_sem]),bsome hb (by rw [←hW];simp [go_sem]),bsome hb (by rw [←hW];simp [go_sem]),bsome hb (by rw [←hW];simp [go_sem]),bsome hb (by rw [←hW];simp [go_sem]),bsome hb (by rw [←hW];simp [go_sem]),bsome hb (by rw [←hW];simp [go_sem])⟩)
 rw [hW] at HOE HB0 ⊢
 clear hW HJ0
 have kc:Hid (Below W.heap.size W W.drew):=hide (below_drewN (Below.refl _ _) 1)
 obtain ⟨a0,a1,a2,a3,a4,a5,a6⟩:=HJ.out W (Below.refl _ _)
 go_region_held3 (fun w'=>w'.cell? ⟨w.heap.size,0,none⟩=some (.string p.name)∧w'.cell? ⟨w.heap.size,1,none⟩=some (.slice q.av p.vars.length q.cv)∧w'.cell? ⟨w.heap.size,2,none⟩=some (.int .i64 p.params)∧w'.cell? ⟨w.heap.size,3,none⟩=some (.slice q.ab p.blocks.length q.cb)∧w'.cell? ⟨w.heap.size,4,none⟩=some (.slice q.ai p.ins.length q.ci)∧w'.cell? ⟨w.heap.size+1,1,none⟩=some (.int .i64 xa)∧w'.cell? ⟨w.heap.size+1,2,none⟩=some (.int .i64 xb)) ((first|exact ⟨by assumption,by assumption,by assumption,by assumption,by assumption,by assumption,by assumption⟩|go_keep)) ((first
   |(go_at_call 23;refine (mkDrop_any _ _).mono ?_;rintro e wq ⟨rfl,hbq⟩;have kd:=hide (btrans kc.out hbq);clear kc;have kc:=kd;clear kd hbq;obtain ⟨j0,j1,j2,j3,j4,j5,j6⟩:=HJ.out _ kc.out)
   |(go_at_call 20;refine (HOE.out _ _ [(2,xa)] (by exact btrans kc.out ((Below.refl _ _).alloc (Nat.le_refl _) _)) (by exact er1_new _ 2 xa 57) (by simp)).mono ?_;rintro e w9 ⟨v9,rfl,ho9,hb9⟩;have HO9:=hide ho9;have HB9:=hide (btrans (btrans kc.out ((Below.refl _ _).alloc (Nat.le_refl _) _)) hb9);clear ho9 hb9;obtain ⟨j0,j1,j2,j3,j4,j5,j6⟩:=HJ.out _ HB9.out)))
 all_goals
  go_wp2
  go_ret
  exact ⟨_,rfl,own_low HO9.out (by have:=kc.out.size;have:=HB0.out.size;simp;omega),btrans HB0.out HB9.out⟩
set_option maxRecDepth 100000 in
set_option maxHeartbeats 2000000 in
theorem deeds9_any (q:PV) (p:Cd.Pr) (x:Cd.In) (ae:Option Addr) (ce:Nat) (aa:Option Addr) (ca:Nat) (w:World) (h:PC q p w) (hx:x.op=9):
  Calls Tryz.prog 12 #[q.v p,IV x ae ce aa ca] w fun e w'=> ∃ v',e= .returned v'∧w'.ownsRow w.heap.size 57 2 v' (Cd.deeds p x).length (fcells (Cd.deeds p x))∧Below w.heap.size w w':=by
 obtain ⟨xop,xa,xb,xn,xto,xt,xe,xargs,xbk,xlp,xat⟩:=x
 dsimp only at hx
 subst hx
 have HD:Hid (Cd.deeds p ⟨9,xa,xb,xn,xto,xt,xe,xargs,xbk,xlp,xat⟩=([(2,xa)]:List (Int × Int)).filter fun y=>Cd.isEnd p y.2):=hide rfl
 rw [HD.out]
 have HP:=hide h
 have HOE:Hid (∀ (w':World) (v:Value) (L:List (Int × Int)),Below ((w.alloc (.cells (q.cells p) 26)).alloc (.cells #[.int .i64 9,.int .i64 xa,.int .i64 xb,.int .i64 xn,.int .i64 xto,.string xt,.slice ae xe.length ce,.slice aa xargs.length ca,.int .i64 xbk,.int .i64 xlp,.int .i64 xat] 53)).heap.size ((w.alloc (.cells (q.cells p) 26)).alloc (.cells #[.int .i64 9,.int .i64 xa,.int .i64 xb,.int .i64 xn,.int .i64 xto,.string xt,.slice ae xe.length ce,.slice aa xargs.length ca,.int .i64 xbk,.int .i64 xlp,.int .i64 xat] 53)) w'→ER w' v L→L.length≤100000→Calls Tryz.prog 20 #[q.v p,v] w' fun e w''=> ∃ v',e= .returned v'∧w''.ownsRow w'.heap.size 57 2 v' (L.filter fun y=>Cd.isEnd p y.2).length (fcells (L.filter fun y=>Cd.isEnd p y.2))∧Below w'.heap.size w' w''):=hide (fun w' v L hb he hl=>onEnds_any q p v L w' (HP.out.keep (btrans (((Below.refl _ _).alloc (Nat.le_refl _) _).alloc (by simp) _) hb)) he hl)
 have HB0:Hid (Below w.heap.size w ((w.alloc (.cells (q.cells p) 26)).alloc (.cells #[.int .i64 9,.int .i64 xa,.int .i64 xb,.int .i64 xn,.int .i64 xto,.string xt,.slice ae xe.length ce,.slice aa xargs.length ca,.int .i64 xbk,.int .i64 xlp,.int .i64 xat] 53))):=hide (((Below.refl _ _).alloc (Nat.le_refl _) _).alloc (by simp) _)
 unfold PV.v IV at *
 unfold PV.cells at *
 dsimp only at *
 clear h HD HP
 go_enter Tryz.func12,Tryz.ntmps12
 go_wp2
 have HJ0:((w.alloc (.cells #[.string p.name,.slice q.av p.vars.length q.cv,.int .i64 p.params,.slice q.ab p.blocks.length q.cb,.slice q.ai p.ins.length q.ci] 26)).alloc (.cells #[.int .i64 9,.int .i64 xa,.int .i64 xb,.int .i64 xn,.int .i64 xto,.string xt,.slice ae xe.length ce,.slice aa xargs.length ca,.int .i64 xbk,.int .i64 xlp,.int .i64 xat] 53)).cell? ⟨w.heap.size,0,none⟩=some (.string p.name):=by simp [go_sem]
 obtain ⟨W,hW⟩: ∃ W,((w.alloc (.cells #[.string p.name,.slice q.av p.vars.length q.cv,.int .i64 p.params,.slice q.ab p.blocks.length q.cb,.slice q.ai p.ins.length q.ci] 26)).alloc (.cells #[.int .i64 9,.int .i64 xa,.int .i64 xb,.int .i64 xn,.int .i64 xto,.string xt,.slice ae xe.length ce,.slice aa xargs.length ca,.int .i64 xbk,.int .i64 xlp,.int .i64 xat] 53))=W:=⟨_,rfl⟩
 have HJ:Hid (∀ w',Below W.heap.size W w'→w'.cell? ⟨w.heap.size,0,none⟩=some (.string p.name)∧w'.cell? ⟨w.heap.size,1,none⟩=some (.slice q.av p.vars.length q.cv)∧w'.cell? ⟨w.heap.size,2,none⟩=some (.int .i64 p.params)∧w'.cell? ⟨w.heap.size,3,none⟩=some (.slice q.ab p.blocks.length q.cb)∧w'.cell? ⟨w.heap.size,4,none⟩=some (.slice q.ai p.ins.length q.ci)∧w'.cell? ⟨w.heap.size+1,1,none⟩=some (.int .i64 xa)∧w'.cell? ⟨w.heap.size+1,2,none⟩=some (.int .i64 xb)):=hide (fun w' hb=>⟨bsome hb (by rw [←hW];simp [go_sem]),bsome hb (by rw [←hW];simp [go_sem]),bsome hb (by rw [←hW];simp [go_sem]),bsome hb (by rw [←hW];simp [go_sem]),bsome hb (by rw [←hW];simp [go_sem]),bsome hb (by rw [←hW];simp [go_sem]),bsome hb (by rw [←hW];simp [go_sem])⟩)
 rw [hW] at HOE HB0 ⊢
 clear hW HJ0
 have kc:Hid (Below W.heap.size W W.drew):=hide (below_drewN (Below.refl _ _) 1)
 obtain ⟨a0,a1,a2,a3,a4,a5,a6⟩:=HJ.out W (Below.refl _ _)
 go_region_held3 (fun w'=>w'.cell? ⟨w.heap.size,0,none⟩=some (.string p.name)∧w'.cell? ⟨w.heap.size,1,none⟩=some (.slice q.av p.vars.length q.cv)∧w'.cell? ⟨w.heap.size,2,none⟩=some (.int .i64 p.params)∧w'.cell? ⟨w.heap.size,3,none⟩=some (.slice q.ab p.blocks.length q.cb)∧w'.cell? ⟨w.heap.size,4,none⟩=some (.slice q.ai p.ins.length q.ci)∧w'.cell? ⟨w.heap.size+1,1,none⟩=some (.int .i64 xa)∧w'.cell? ⟨w.heap.size+1,2,none⟩=some (.int .i64 xb)) ((first|exact ⟨by assumption,by assumption,by assumption,by assumption,by assumption,by assumption,by assumption⟩|go_keep)) ((first
   |(go_at_call 23;refine (mkDrop_any _ _).mono ?_;rintro e wq ⟨rfl,hbq⟩;have kd:=hide (btrans kc.out hbq);clear kc;have kc:=kd;clear kd hbq;obtain ⟨j0,j1,j2,j3,j4,j5,j6⟩:=HJ.out _ kc.out)
   |(go_at_call 20;refine (HOE.out _ _ [(2,xa)] (by exact btrans kc.out ((Below.refl _ _).alloc (Nat.le_refl _) _)) (by exact er1_new _ 2 xa 57) (by simp)).mono ?_;rintro e w9 ⟨v9,rfl,ho9,hb9⟩;have HO9:=hide ho9;have HB9:=hide (btrans (btrans kc.out ((Below.refl _ _).alloc (Nat.le_refl _) _)) hb9);clear ho9 hb9;obtain ⟨j0,j1,j2,j3,j4,j5,j6⟩:=HJ.out _ HB9.out)))
 all_goals
  go_wp2
  go_ret
  exact ⟨_,rfl,own_low HO9.out (by have:=kc.out.size;have:=HB0.out.size;simp;omega),btrans HB0.out HB9.out⟩
set_option maxRecDepth 100000 in
set_option maxHeartbeats 2000000 in
theorem deeds16_any (q:PV) (p:Cd.Pr) (x:Cd.In) (ae:Option Addr) (ce:Nat) (aa:Option Addr) (ca:Nat) (w:World) (h:PC q p w) (hx:x.op=16):
  Calls Tryz.prog 12 #[q.v p,IV x ae ce aa ca] w fun e w'=> ∃ v',e= .returned v'∧w'.ownsRow w.heap.size 57 2 v' (Cd.deeds p x).length (fcells (Cd.deeds p x))∧Below w.heap.size w w':=by
 obtain ⟨xop,xa,xb,xn,xto,xt,xe,xargs,xbk,xlp,xat⟩:=x
 dsimp only at hx
 subst hx
 have HD:Hid (Cd.deeds p ⟨16,xa,xb,xn,xto,xt,xe,xargs,xbk,xlp,xat⟩=([(4,xa)]:List (Int × Int)).filter fun y=>Cd.isEnd p y.2):=hide rfl
 rw [HD.out]
 have HP:=hide h
 have HOE:Hid (∀ (w':World) (v:Value) (L:List (Int × Int)),Below ((w.alloc (.cells (q.cells p) 26)).alloc (.cells #[.int .i64 16,.int .i64 xa,.int .i64 xb,.int .i64 xn,.int .i64 xto,.string xt,.slice ae xe.length ce,.slice aa xargs.length ca,.int .i64 xbk,.int .i64 xlp,.int .i64 xat] 53)).heap.size ((w.alloc (.cells (q.cells p) 26)).alloc (.cells #[.int .i64 16,.int .i64 xa,.int .i64 xb,.int .i64 xn,.int .i64 xto,.string xt,.slice ae xe.length ce,.slice aa xargs.length ca,.int .i64 xbk,.int .i64 xlp,.int .i64 xat] 53)) w'→ER w' v L→L.length≤100000→Calls Tryz.prog 20 #[q.v p,v] w' fun e w''=> ∃ v',e= .returned v'∧w''.ownsRow w'.heap.size 57 2 v' (L.filter fun y=>Cd.isEnd p y.2).length (fcells (L.filter fun y=>Cd.isEnd p y.2))∧Below w'.heap.size w' w''):=hide (fun w' v L hb he hl=>onEnds_any q p v L w' (HP.out.keep (btrans (((Below.refl _ _).alloc (Nat.le_refl _) _).alloc (by simp) _) hb)) he hl)
 have HB0:Hid (Below w.heap.size w ((w.alloc (.cells (q.cells p) 26)).alloc (.cells #[.int .i64 16,.int .i64 xa,.int .i64 xb,.int .i64 xn,.int .i64 xto,.string xt,.slice ae xe.length ce,.slice aa xargs.length ca,.int .i64 xbk,.int .i64 xlp,.int .i64 xat] 53))):=hide (((Below.refl _ _).alloc (Nat.le_refl _) _).alloc (by simp) _)
 unfold PV.v IV at *
 unfold PV.cells at *
 dsimp only at *
 clear h HD HP
 go_enter Tryz.func12,Tryz.ntmps12
 go_wp2
 have HJ0:((w.alloc (.cells #[.string p.name,.slice q.av p.vars.length q.cv,.int .i64 p.params,.slice q.ab p.blocks.length q.cb,.slice q.ai p.ins.length q.ci] 26)).alloc (.cells #[.int .i64 16,.int .i64 xa,.int .i64 xb,.int .i64 xn,.int .i64 xto,.string xt,.slice ae xe.length ce,.slice aa xargs.length ca,.int .i64 xbk,.int .i64 xlp,.int .i64 xat] 53)).cell? ⟨w.heap.size,0,none⟩=some (.string p.name):=by simp [go_sem]
 obtain ⟨W,hW⟩: ∃ W,((w.alloc (.cells #[.string p.name,.slice q.av p.vars.length q.cv,.int .i64 p.params,.slice q.ab p.blocks.length q.cb,.slice q.ai p.ins.length q.ci] 26)).alloc (.cells #[.int .i64 16,.int .i64 xa,.int .i64 xb,.int .i64 xn,.int .i64 xto,.string xt,.slice ae xe.length ce,.slice aa xargs.length ca,.int .i64 xbk,.int .i64 xlp,.int .i64 xat] 53))=W:=⟨_,rfl⟩
 have HJ:Hid (∀ w',Below W.heap.size W w'→w'.cell? ⟨w.heap.size,0,none⟩=some (.string p.name)∧w'.cell? ⟨w.heap.size,1,none⟩=some (.slice q.av p.vars.length q.cv)∧w'.cell? ⟨w.heap.size,2,none⟩=some (.int .i64 p.params)∧w'.cell? ⟨w.heap.size,3,none⟩=some (.slice q.ab p.blocks.length q.cb)∧w'.cell? ⟨w.heap.size,4,none⟩=some (.slice q.ai p.ins.length q.ci)∧w'.cell? ⟨w.heap.size+1,1,none⟩=some (.int .i64 xa)∧w'.cell? ⟨w.heap.size+1,2,none⟩=some (.int .i64 xb)):=hide (fun w' hb=>⟨bsome hb (by rw [←hW];simp [go_sem]),bsome hb (by rw [←hW];simp [go_sem]),bsome hb (by rw [←hW];simp [go_sem]),bsome hb (by rw [←hW];simp [go_sem]),bsome hb (by rw [←hW];simp [go_sem]),bsome hb (by rw [←hW];simp [go_sem]),bsome hb (by rw [←hW];simp [go_sem])⟩)
 rw [hW] at HOE HB0 ⊢
 clear hW HJ0
 have kc:Hid (Below W.heap.size W W.drew):=hide (below_drewN (Below.refl _ _) 1)
 obtain ⟨a0,a1,a2,a3,a4,a5,a6⟩:=HJ.out W (Below.refl _ _)
 go_region_held3 (fun w'=>w'.cell? ⟨w.heap.size,0,none⟩=some (.string p.name)∧w'.cell? ⟨w.heap.size,1,none⟩=some (.slice q.av p.vars.length q.cv)∧w'.cell? ⟨w.heap.size,2,none⟩=some (.int .i64 p.params)∧w'.cell? ⟨w.heap.size,3,none⟩=some (.slice q.ab p.blocks.length q.cb)∧w'.cell? ⟨w.heap.size,4,none⟩=some (.slice q.ai p.ins.length q.ci)∧w'.cell? ⟨w.heap.size+1,1,none⟩=some (.int .i64 xa)∧w'.cell? ⟨w.heap.size+1,2,none⟩=some (.int .i64 xb)) ((first|exact ⟨by assumption,by assumption,by assumption,by assumption,by assumption,by assumption,by assumption⟩|go_keep)) ((first
   |(go_at_call 25;refine (mkOver_any _ _).mono ?_;rintro e wq ⟨rfl,hbq⟩;have kd:=hide (btrans kc.out hbq);clear kc;have kc:=kd;clear kd hbq;obtain ⟨j0,j1,j2,j3,j4,j5,j6⟩:=HJ.out _ kc.out)
   |(go_at_call 20;refine (HOE.out _ _ [(4,xa)] (by exact btrans kc.out ((Below.refl _ _).alloc (Nat.le_refl _) _)) (by exact er1_new _ 4 xa 57) (by simp)).mono ?_;rintro e w9 ⟨v9,rfl,ho9,hb9⟩;have HO9:=hide ho9;have HB9:=hide (btrans (btrans kc.out ((Below.refl _ _).alloc (Nat.le_refl _) _)) hb9);clear ho9 hb9;obtain ⟨j0,j1,j2,j3,j4,j5,j6⟩:=HJ.out _ HB9.out)))
 all_goals
  go_wp2
  go_ret
  exact ⟨_,rfl,own_low HO9.out (by have:=kc.out.size;have:=HB0.out.size;simp;omega),btrans HB0.out HB9.out⟩
end Go.Proofs.YteeocekjekclbaaGreatDoor
