import Derived.Test.YteeocekjekclbaaGreatDoorMah
import Derived.Test.YteeocekjekclbaaGreatDoorMal
import Derived.BigRegion
namespace Go.Proofs.YteeocekjekclbaaGreatDoor
open Go.RowKit
set_option maxRecDepth 100000 in
set_option maxHeartbeats 2000000 in
theorem oTo_any (c l v st:Int) (w:World) (h0:0≤v) (h1:v≤1000000):Calls Tryz.prog 74 #[.agg #[.int .u64 c,.int .u64 l],.int .i64 v,.int .i64 st] w fun e w'=>e= .returned (.agg #[.int .u64 (Ow.to (c,l) v st).1,.int .u64 (Ow.to (c,l) v st).2])∧Below w.heap.size w w':=by
 have hb:Below w.heap.size w ((w.alloc (.cells #[.int .u64 c,.int .u64 l] 125)).alloc (.cells #[.int .u64 0,.int .u64 0] 125)):=((Below.refl _ _).alloc (Nat.le_refl _) _).alloc (by simp) _
 have HB:=hide hb
 have HA:=hide (fun w1=>oPlace_any v 3 w1 h0 h1)
 have HC:=hide (fun w1=>oPlace_any v st w1 h0 h1)
 unfold Ow.to
 dsimp only
 generalize Ow.place v 3=p3 at *
 generalize Ow.place v st=ps at *
 clear hb
 go_enter Tryz.func74,Tryz.ntmps74
 go_wp2_with fail
 refine (HA.out _).mono ?_
 rintro e w1 ⟨rfl,rfl⟩
 go_wp2
 obtain ⟨W,hW⟩: ∃ W,(w.alloc (.cells #[.int .u64 c,.int .u64 l] 125)).alloc (.cells #[.int .u64 0,.int .u64 0] 125)=W:=⟨_,rfl⟩
 have j0:W.cell? ⟨w.heap.size,0,none⟩=some (.int .u64 c):=by rw [←hW];simp [go_sem]
 have j1:W.cell? ⟨w.heap.size,1,none⟩=some (.int .u64 l):=by rw [←hW];simp [go_sem]
 have r0:W.cell? ⟨w.heap.size+1,0,none⟩=some (.int .u64 0):=by rw [←hW];simp [go_sem]
 have r1:W.cell? ⟨w.heap.size+1,1,none⟩=some (.int .u64 0):=by rw [←hW];simp [go_sem]
 have f0:W.frozen? ⟨w.heap.size+1,0,none⟩=false:=by rw [←hW];simp [go_sem]
 have f1:W.frozen? ⟨w.heap.size+1,1,none⟩=false:=by rw [←hW];simp [go_sem]
 rw [hW] at HB ⊢
 clear hW HA
 have HZ:Hid (∀ a b:Value,Below w.heap.size w ((W.setCell ⟨w.heap.size+1,0,none⟩ a).setCell ⟨w.heap.size+1,1,none⟩ b)∧((W.setCell ⟨w.heap.size+1,0,none⟩ a).setCell ⟨w.heap.size+1,1,none⟩ b).cell? ⟨w.heap.size+1,0,none⟩=some a∧((W.setCell ⟨w.heap.size+1,0,none⟩ a).setCell ⟨w.heap.size+1,1,none⟩ b).cell? ⟨w.heap.size+1,1,none⟩=some b):=hide (fun a b=>⟨(HB.out.setCell (Nat.le_succ _) _).setCell (Nat.le_succ _) _,(World.cell?_setCell_other _ _ _ _ (fun e=>by injection e with e1 e2;omega)).trans (World.cell?_setCell_same _ _ _ r0),World.cell?_setCell_same _ _ _ ((World.cell?_setCell_other _ _ _ _ (fun e=>by injection e with e1 e2;omega)).trans r1)⟩)
 go_region_law ((refine step_call_rv rfl 106 #[.int .i64 v,.int .i64 st] ?_ (HC.out _) ?_;(focus (go_simp;done));rintro wq rfl))
 all_goals
  go_wp2
  obtain ⟨z1,z2,z3⟩:=HZ.out (.int .u64 (bits BinOp.or IntKind.u64 c p3)) (.int .u64 (bits BinOp.or IntKind.u64 (bits BinOp.andNot IntKind.u64 l p3) ps))
  refine bodyPost_ret (v:= .agg #[.int .u64 (bits BinOp.or IntKind.u64 c p3),.int .u64 (bits BinOp.or IntKind.u64 (bits BinOp.andNot IntKind.u64 l p3) ps)]) ?_ rfl ⟨rfl,?_⟩
  ·first
    |(simp [results,Tryz.results74,go_sem,z2,z3];done)
    |(have z2':(((W.setCell ⟨w.heap.size+1,0,none⟩ (.int .u64 (bits BinOp.or IntKind.u64 c p3))).setCell ⟨w.heap.size+1,1,none⟩ (.int .u64 (bits BinOp.or IntKind.u64 (bits BinOp.andNot IntKind.u64 l p3) ps))).drew).cell? ⟨w.heap.size+1,0,none⟩=some (.int .u64 (bits BinOp.or IntKind.u64 c p3)):=z2
      have z3':(((W.setCell ⟨w.heap.size+1,0,none⟩ (.int .u64 (bits BinOp.or IntKind.u64 c p3))).setCell ⟨w.heap.size+1,1,none⟩ (.int .u64 (bits BinOp.or IntKind.u64 (bits BinOp.andNot IntKind.u64 l p3) ps))).drew).cell? ⟨w.heap.size+1,1,none⟩=some (.int .u64 (bits BinOp.or IntKind.u64 (bits BinOp.andNot IntKind.u64 l p3) ps)):=z3
      simp [results,Tryz.results74,go_sem,z2',z3'])
  ·first
    |exact z1
    |exact btrans z1 (below_drewN (Below.refl _ _) 1)
set_option maxRecDepth 100000 in
set_option maxHeartbeats 2000000 in
theorem oAnd3_any (c l v:Int) (w:World) (h0:0≤v) (h1:v≤1000000):Calls Tryz.prog 44 #[.agg #[.int .u64 c,.int .u64 l],.agg #[.int .i64 3,.int .i64 v]] w fun e w'=>e= .returned (.agg #[.int .u64 (Ow.to (c,l) v 2).1,.int .u64 (Ow.to (c,l) v 2).2])∧Below w.heap.size w w':=by
 have hb:Below w.heap.size w (((w.alloc (.cells #[.int .u64 c,.int .u64 l] 125)).alloc (.cells #[.int .i64 3,.int .i64 v] 57)).alloc (.cells #[.int .u64 0,.int .u64 0] 125)):=(((Below.refl _ _).alloc (Nat.le_refl _) _).alloc (by simp) _).alloc (by simp;omega) _
 have HB:=hide hb
 have CT:=hide (oTo_any c l v 2 (((w.alloc (.cells #[.int .u64 c,.int .u64 l] 125)).alloc (.cells #[.int .i64 3,.int .i64 v] 57)).alloc (.cells #[.int .u64 0,.int .u64 0] 125)) h0 h1)
 generalize (Ow.to (c,l) v 2).1=t1 at *
 generalize (Ow.to (c,l) v 2).2=t2 at *
 have HR:Hid (∀ w',Below ((((w.alloc (.cells #[.int .u64 c,.int .u64 l] 125)).alloc (.cells #[.int .i64 3,.int .i64 v] 57)).alloc (.cells #[.int .u64 0,.int .u64 0] 125))).heap.size (((w.alloc (.cells #[.int .u64 c,.int .u64 l] 125)).alloc (.cells #[.int .i64 3,.int .i64 v] 57)).alloc (.cells #[.int .u64 0,.int .u64 0] 125)) w'→w'.cell? ⟨w.heap.size+1+1,0,none⟩=some (.int .u64 0)∧w'.cell? ⟨w.heap.size+1+1,1,none⟩=some (.int .u64 0)∧w'.frozen? ⟨w.heap.size+1+1,0,none⟩=false∧w'.frozen? ⟨w.heap.size+1+1,1,none⟩=false):=hide (fun w' hb=>⟨bsome hb (by simp [go_sem]),bsome hb (by simp [go_sem]),(World.frozen?_of_block (a:=⟨w.heap.size+1+1,0,none⟩) (hb.block (w.heap.size+1+1) (by simp))).trans (by simp [go_sem]),(World.frozen?_of_block (a:=⟨w.heap.size+1+1,1,none⟩) (hb.block (w.heap.size+1+1) (by simp))).trans (by simp [go_sem])⟩)
 clear hb
 go_enter Tryz.func44,Tryz.ntmps44
 go_wp2_with fail
 refine CT.out.mono ?_
 rintro e w1 ⟨rfl,hb1⟩
 obtain ⟨r0,r1,f0,f1⟩:=HR.out w1 hb1
 have HB1:=hide (btrans HB.out hb1)
 clear hb1 CT HR HB
 go_wp2
 have z0:((w1.setCell ⟨w.heap.size+1+1,0,none⟩ (.int .u64 t1)).setCell ⟨w.heap.size+1+1,1,none⟩ (.int .u64 t2)).cell? ⟨w.heap.size+1+1,0,none⟩=some (.int .u64 t1):=(World.cell?_setCell_other _ _ _ _ (fun e=>by injection e with e1 e2;omega)).trans (World.cell?_setCell_same _ _ _ r0)
 have z1:((w1.setCell ⟨w.heap.size+1+1,0,none⟩ (.int .u64 t1)).setCell ⟨w.heap.size+1+1,1,none⟩ (.int .u64 t2)).cell? ⟨w.heap.size+1+1,1,none⟩=some (.int .u64 t2):=World.cell?_setCell_same _ _ _ ((World.cell?_setCell_other _ _ _ _ (fun e=>by injection e with e1 e2;omega)).trans r1)
 refine bodyPost_ret (v:= .agg #[.int .u64 t1,.int .u64 t2]) (by simp [results,Tryz.results44,go_sem,z0,z1]) rfl ⟨rfl,(HB1.out.setCell (by show w.heap.size≤w.heap.size+1+1;omega) _).setCell (by show w.heap.size≤w.heap.size+1+1;omega) _⟩
set_option maxRecDepth 100000 in
set_option maxHeartbeats 2000000 in
theorem oAnd2_any (c l v:Int) (w:World) (h0:0≤v) (h1:v≤1000000):Calls Tryz.prog 44 #[.agg #[.int .u64 c,.int .u64 l],.agg #[.int .i64 2,.int .i64 v]] w fun e w'=>e= .returned (.agg #[.int .u64 (Ow.to (c,l) v 1).1,.int .u64 (Ow.to (c,l) v 1).2])∧Below w.heap.size w w':=by
 have hb:Below w.heap.size w (((w.alloc (.cells #[.int .u64 c,.int .u64 l] 125)).alloc (.cells #[.int .i64 2,.int .i64 v] 57)).alloc (.cells #[.int .u64 0,.int .u64 0] 125)):=(((Below.refl _ _).alloc (Nat.le_refl _) _).alloc (by simp) _).alloc (by simp;omega) _
 have HB:=hide hb
 have CT:=hide (oTo_any c l v 1 (((w.alloc (.cells #[.int .u64 c,.int .u64 l] 125)).alloc (.cells #[.int .i64 2,.int .i64 v] 57)).alloc (.cells #[.int .u64 0,.int .u64 0] 125)) h0 h1)
 generalize (Ow.to (c,l) v 1).1=t1 at *
 generalize (Ow.to (c,l) v 1).2=t2 at *
 have HR:Hid (∀ w',Below ((((w.alloc (.cells #[.int .u64 c,.int .u64 l] 125)).alloc (.cells #[.int .i64 2,.int .i64 v] 57)).alloc (.cells #[.int .u64 0,.int .u64 0] 125))).heap.size (((w.alloc (.cells #[.int .u64 c,.int .u64 l] 125)).alloc (.cells #[.int .i64 2,.int .i64 v] 57)).alloc (.cells #[.int .u64 0,.int .u64 0] 125)) w'→w'.cell? ⟨w.heap.size+1+1,0,none⟩=some (.int .u64 0)∧w'.cell? ⟨w.heap.size+1+1,1,none⟩=some (.int .u64 0)∧w'.frozen? ⟨w.heap.size+1+1,0,none⟩=false∧w'.frozen? ⟨w.heap.size+1+1,1,none⟩=false):=hide (fun w' hb=>⟨bsome hb (by simp [go_sem]),bsome hb (by simp [go_sem]),(World.frozen?_of_block (a:=⟨w.heap.size+1+1,0,none⟩) (hb.block (w.heap.size+1+1) (by simp))).trans (by simp [go_sem]),(World.frozen?_of_block (a:=⟨w.heap.size+1+1,1,none⟩) (hb.block (w.heap.size+1+1) (by simp))).trans (by simp [go_sem])⟩)
 clear hb
 go_enter Tryz.func44,Tryz.ntmps44
 go_wp2_with fail
 refine CT.out.mono ?_
 rintro e w1 ⟨rfl,hb1⟩
 obtain ⟨r0,r1,f0,f1⟩:=HR.out w1 hb1
 have HB1:=hide (btrans HB.out hb1)
 clear hb1 CT HR HB
 go_wp2
 have z0:((w1.setCell ⟨w.heap.size+1+1,0,none⟩ (.int .u64 t1)).setCell ⟨w.heap.size+1+1,1,none⟩ (.int .u64 t2)).cell? ⟨w.heap.size+1+1,0,none⟩=some (.int .u64 t1):=(World.cell?_setCell_other _ _ _ _ (fun e=>by injection e with e1 e2;omega)).trans (World.cell?_setCell_same _ _ _ r0)
 have z1:((w1.setCell ⟨w.heap.size+1+1,0,none⟩ (.int .u64 t1)).setCell ⟨w.heap.size+1+1,1,none⟩ (.int .u64 t2)).cell? ⟨w.heap.size+1+1,1,none⟩=some (.int .u64 t2):=World.cell?_setCell_same _ _ _ ((World.cell?_setCell_other _ _ _ _ (fun e=>by injection e with e1 e2;omega)).trans r1)
 refine bodyPost_ret (v:= .agg #[.int .u64 t1,.int .u64 t2]) (by simp [results,Tryz.results44,go_sem,z0,z1]) rfl ⟨rfl,(HB1.out.setCell (by show w.heap.size≤w.heap.size+1+1;omega) _).setCell (by show w.heap.size≤w.heap.size+1+1;omega) _⟩
set_option maxRecDepth 100000 in
set_option maxHeartbeats 2000000 in
theorem oAnd4_any (c l v:Int) (w:World) (h0:0≤v) (h1:v≤1000000):Calls Tryz.prog 44 #[.agg #[.int .u64 c,.int .u64 l],.agg #[.int .i64 4,.int .i64 v]] w fun e w'=>e= .returned (.agg #[.int .u64 (Ow.to (c,l) v 1).1,.int .u64 (Ow.to (c,l) v 1).2])∧Below w.heap.size w w':=by
 have hb:Below w.heap.size w (((w.alloc (.cells #[.int .u64 c,.int .u64 l] 125)).alloc (.cells #[.int .i64 4,.int .i64 v] 57)).alloc (.cells #[.int .u64 0,.int .u64 0] 125)):=(((Below.refl _ _).alloc (Nat.le_refl _) _).alloc (by simp) _).alloc (by simp;omega) _
 have HB:=hide hb
 have CT:=hide (oTo_any c l v 1 (((w.alloc (.cells #[.int .u64 c,.int .u64 l] 125)).alloc (.cells #[.int .i64 4,.int .i64 v] 57)).alloc (.cells #[.int .u64 0,.int .u64 0] 125)) h0 h1)
 generalize (Ow.to (c,l) v 1).1=t1 at *
 generalize (Ow.to (c,l) v 1).2=t2 at *
 have HR:Hid (∀ w',Below ((((w.alloc (.cells #[.int .u64 c,.int .u64 l] 125)).alloc (.cells #[.int .i64 4,.int .i64 v] 57)).alloc (.cells #[.int .u64 0,.int .u64 0] 125))).heap.size (((w.alloc (.cells #[.int .u64 c,.int .u64 l] 125)).alloc (.cells #[.int .i64 4,.int .i64 v] 57)).alloc (.cells #[.int .u64 0,.int .u64 0] 125)) w'→w'.cell? ⟨w.heap.size+1+1,0,none⟩=some (.int .u64 0)∧w'.cell? ⟨w.heap.size+1+1,1,none⟩=some (.int .u64 0)∧w'.frozen? ⟨w.heap.size+1+1,0,none⟩=false∧w'.frozen? ⟨w.heap.size+1+1,1,none⟩=false):=hide (fun w' hb=>⟨bsome hb (by simp [go_sem]),bsome hb (by simp [go_sem]),(World.frozen?_of_block (a:=⟨w.heap.size+1+1,0,none⟩) (hb.block (w.heap.size+1+1) (by simp))).trans (by simp [go_sem]),(World.frozen?_of_block (a:=⟨w.heap.size+1+1,1,none⟩) (hb.block (w.heap.size+1+1) (by simp))).trans (by simp [go_sem])⟩)
 clear hb
 go_enter Tryz.func44,Tryz.ntmps44
 go_wp2_with fail
 refine CT.out.mono ?_
 rintro e w1 ⟨rfl,hb1⟩
 obtain ⟨r0,r1,f0,f1⟩:=HR.out w1 hb1
 have HB1:=hide (btrans HB.out hb1)
 clear hb1 CT HR HB
 go_wp2
 have z0:((w1.setCell ⟨w.heap.size+1+1,0,none⟩ (.int .u64 t1)).setCell ⟨w.heap.size+1+1,1,none⟩ (.int .u64 t2)).cell? ⟨w.heap.size+1+1,0,none⟩=some (.int .u64 t1):=(World.cell?_setCell_other _ _ _ _ (fun e=>by injection e with e1 e2;omega)).trans (World.cell?_setCell_same _ _ _ r0)
 have z1:((w1.setCell ⟨w.heap.size+1+1,0,none⟩ (.int .u64 t1)).setCell ⟨w.heap.size+1+1,1,none⟩ (.int .u64 t2)).cell? ⟨w.heap.size+1+1,1,none⟩=some (.int .u64 t2):=World.cell?_setCell_same _ _ _ ((World.cell?_setCell_other _ _ _ _ (fun e=>by injection e with e1 e2;omega)).trans r1)
 refine bodyPost_ret (v:= .agg #[.int .u64 t1,.int .u64 t2]) (by simp [results,Tryz.results44,go_sem,z0,z1]) rfl ⟨rfl,(HB1.out.setCell (by show w.heap.size≤w.heap.size+1+1;omega) _).setCell (by show w.heap.size≤w.heap.size+1+1;omega) _⟩
set_option maxRecDepth 100000 in
set_option maxHeartbeats 2000000 in
theorem oAnd1_any (c l v:Int) (w:World):Calls Tryz.prog 44 #[.agg #[.int .u64 c,.int .u64 l],.agg #[.int .i64 1,.int .i64 v]] w fun e w'=>e= .returned (.agg #[.int .u64 c,.int .u64 l])∧Below w.heap.size w w':=by
 have HB:Hid (Below w.heap.size w (((w.alloc (.cells #[.int .u64 c,.int .u64 l] 125)).alloc (.cells #[.int .i64 1,.int .i64 v] 57)).alloc (.cells #[.int .u64 c,.int .u64 l] 125))):=hide ((((Below.refl _ _).alloc (Nat.le_refl _) _).alloc (by simp) _).alloc (by simp;omega) _)
 go_enter Tryz.func44,Tryz.ntmps44
 go_wp2
 refine bodyPost_ret (v:= .agg #[.int .u64 c,.int .u64 l]) (by simp [results,Tryz.results44,go_sem]) rfl ⟨rfl,HB.out⟩
theorem oAnd_any (c l a v:Int) (w:World) (ha:a=1∨a=2∨a=3∨a=4) (h0:0≤v) (h1:v≤1000000):Calls Tryz.prog 44 #[.agg #[.int .u64 c,.int .u64 l],.agg #[.int .i64 a,.int .i64 v]] w fun e w'=>e= .returned (.agg #[.int .u64 (Ow.and (c,l) a v).1,.int .u64 (Ow.and (c,l) a v).2])∧Below w.heap.size w w':=by
 rcases ha with rfl|rfl|rfl|rfl
 ·exact oAnd1_any c l v w
 ·exact oAnd2_any c l v w h0 h1
 ·exact oAnd3_any c l v w h0 h1
 ·exact oAnd4_any c l v w h0 h1
def Ow.along (p:Cd.Pr) (i to:Int) (t:Int × Int) (s:Int):Int:=match p.ins[i.toNat]? with
 |some x=>if x.op=11∧to ≠ i+1 then s else Ow.behind t s
 |none=>s
structure CoP (g:Nat) (q:PV) (p:Cd.Pr) (w:World):Prop where
 c0:w.cell? ⟨g,0,none⟩=some (.string p.name)
 c1:w.cell? ⟨g,1,none⟩=some (.slice q.av p.vars.length q.cv)
 c2:w.cell? ⟨g,2,none⟩=some (.int .i64 p.params)
 c3:w.cell? ⟨g,3,none⟩=some (.slice q.ab p.blocks.length q.cb)
 c4:w.cell? ⟨g,4,none⟩=some (.slice q.ai p.ins.length q.ci)
 pc:PC q p w
theorem CoP.keep {g:Nat} {q:PV} {p:Cd.Pr} {w w':World} (h:CoP g q p w) (hb:Below w.heap.size w w'):CoP g q p w':=⟨bsome hb h.c0,bsome hb h.c1,bsome hb h.c2,bsome hb h.c3,bsome hb h.c4,h.pc.keep hb⟩
set_option maxRecDepth 100000 in
set_option maxHeartbeats 2000000 in
theorem oAlong_any (g:Nat) (q:PV) (p:Cd.Pr) (i:Nat) (to c l s:Int) (w:World) (h:CoP g q p w) (hi:i<p.ins.length) (hl:p.ins.length≤1000000):Calls Tryz.prog 73 #[.pointer (some ⟨g,0,none⟩),.int .i64 i,.int .i64 to,.agg #[.int .u64 c,.int .u64 l],.int .u64 s] w fun e w'=>e= .returned (.int .u64 (Ow.along p i to (c,l) s))∧Below w.heap.size w w':=by
 obtain ⟨x,hx⟩: ∃ y,p.ins[i]? =some y:=⟨_,List.getElem?_eq_getElem hi⟩
 obtain ⟨a1,c1,e1,h1⟩:=h.pc.ins
 obtain ⟨e2,e3⟩:q.ai=a1∧q.ci=c1:=by simpa using e1
 obtain ⟨gi,oi,e4,h2⟩:=h1 (List.ne_nil_of_mem (List.mem_of_getElem? hx))
 obtain ⟨ae,ce,aa,ca,h3⟩:=h2 i x hx
 have hb:Below w.heap.size w (w.alloc (.cells #[.int .u64 c,.int .u64 l] 125)):=(Below.refl _ _).alloc (Nat.le_refl _) _
 have x0:=bsome hb h3.c0
 have y4:=bsome hb h.c4
 rw [e2,e4] at y4
 have HB:=hide hb
 have CB:=hide (oBehind_any c l s (w.alloc (.cells #[.int .u64 c,.int .u64 l] 125)))
 have HP:Hid (Ow.along p i to (c,l) s=if x.op=11∧to ≠ (i:Int)+1 then s else Ow.behind (c,l) s):=hide (by unfold Ow.along;rw [Int.toNat_natCast,hx])
 have hi0:(0:Int)≤(i:Int):=by omega
 have hi1:(i:Int)<(p.ins.length:Int):=by omega
 rw [HP.out]
 generalize Ow.behind (c,l) s=BH at *
 generalize x.op=xo at *
 clear h h1 h2 h3 e1 e2 e3 e4 hx hb HP
 by_cases k1:xo=11
 ·by_cases k2:to=(i:Int)+1
  ·have b1:(xo == 11)=true:=by simpa using k1
   rw [if_neg (fun h=>h.2 k2)]
   subst k2 k1
   go_enter Tryz.func73,Tryz.ntmps73
   go_wp2_with fail
   refine CB.out.mono ?_
   rintro e w1 ⟨rfl,hb1⟩
   have HB1:=hide (btrans HB.out hb1)
   clear hb1
   go_wp2
   go_ret
   exact ⟨rfl,HB1.out⟩
  ·have b2:(to == (i:Int)+1)=false:=by simpa using k2
   have b3:(to !=(i:Int)+1)=true:=by simpa using k2
   have b4:decide (to=(i:Int)+1)=false:=by simpa using k2
   rw [if_pos ⟨k1,k2⟩]
   subst k1
   go_enter Tryz.func73,Tryz.ntmps73
   go_wp2
   go_ret
   exact ⟨rfl,HB.out⟩
 ·have b1:(xo == 11)=false:=by simpa using k1
  have b2:decide (xo=11)=false:=by simpa using k1
  rw [if_neg (fun h=>k1 h.1)]
  go_enter Tryz.func73,Tryz.ntmps73
  go_wp2_with fail
  refine CB.out.mono ?_
  rintro e w1 ⟨rfl,hb1⟩
  have HB1:=hide (btrans HB.out hb1)
  clear hb1
  go_wp2
  go_ret
  exact ⟨rfl,HB1.out⟩
theorem Tryz.infoA:(Tryz.prog.info? 57).map (fun i=>(i.zero,i.size,i.bytes))=some (some (.agg #[.int .i64 0,.int .i64 0]),2,16):=by kernel_rfl
def fcells:List (Int × Int)→List Value
 |[]=>[]
 |x::r=> .int .i64 x.1:: .int .i64 x.2::fcells r
theorem fcells_app (a b:List (Int × Int)):fcells (a++b)=fcells a++fcells b:=by
 induction a with
 |nil=>rfl
 |cons x r ih=>simp [fcells,ih]
theorem fcells_at (l:List (Int × Int)) (i:Nat) (h:i<l.length):(fcells l)[i * 2]? =some (.int .i64 (l[i]?.getD (0,0)).1)∧(fcells l)[i * 2+1]? =some (.int .i64 (l[i]?.getD (0,0)).2):=by
 induction l generalizing i with
 |nil=>simp at h
 |cons x r ih=>
  match i with
  |0=>simp [fcells]
  |i+1=>
   have:=ih i (by simpa using h)
   rw [show (i+1) * 2=i * 2+1+1 from by omega]
   simpa [fcells] using this
theorem own_er {w:World} {B:Nat} {v:Value} {L:List (Int × Int)} (h:w.ownsRow B 57 2 v L.length (fcells L)):ER w v L:=by
 rcases h.2 with ⟨hv,h0⟩|⟨g,cap,cur,hv,hb,hg,hnc,hcm,_,_⟩
 ·exact ⟨none,0,by rw [hv,h0],fun hn=>absurd (List.eq_nil_of_length_eq_zero h0) hn⟩
 ·refine ⟨_,cap,hv,fun _=>⟨g,0,rfl,fun k x hx=> ?_⟩⟩
  have hk:=(List.getElem?_eq_some_iff.1 hx).1
  obtain ⟨a1,a2⟩:=fcells_at L k hk
  rw [hx] at a1 a2
  have h1:=h.cells (g:=g) (by rw [hv];rfl) (k * 2) _ a1
  have h2:=h.cells (g:=g) (by rw [hv];rfl) (k * 2+1) _ a2
  rw [add_off] at h1 h2
  rw [Nat.zero_add]
  exact ⟨h1,h2⟩
theorem own_keepA {B:Nat} {w w':World} {v:Value} {n:Nat} {xs:List Value} (h:w.ownsRow B 57 2 v n xs) (hk: ∀ g,v.ownBlock=some g→w'.heap[g]? =w.heap[g]?):w'.ownsRow B 57 2 v n xs:=by
 refine ⟨h.1,?_⟩
 rcases h.2 with h|⟨g,cap,cur,hv,hb,hg,rest⟩
 ·exact .inl h
 ·exact .inr ⟨g,cap,cur,hv,hb,by rw [hk g (by rw [hv];rfl)];exact hg,rest⟩
theorem two_new (w:World) (x y:Int) (t:TypeId): ∀ (j:Nat) (u:Value),[Value.int .i64 x,.int .i64 y][j]? =some u→(w.alloc (.cells #[.int .i64 x,.int .i64 y] t)).cell? ((⟨w.heap.size,0,none⟩:Addr).add j)=some u:=by
 intro j u hj
 rw [add_off]
 match j,hj with
 |0,hj=>simp at hj;subst hj;simp [go_sem]
 |1,hj=>simp at hj;subst hj;simp [go_sem]
theorem own_low {B B':Nat} {w:World} {v:Value} {n:Nat} {xs:List Value} (h:w.ownsRow B 57 2 v n xs) (hb:B'≤B):w.ownsRow B' 57 2 v n xs:=by
 refine ⟨h.1,?_⟩
 rcases h.2 with h|⟨g,cap,cur,hv,hg,rest⟩
 ·exact .inl h
 ·exact .inr ⟨g,cap,cur,hv,Nat.le_trans hb hg,rest⟩
theorem own_sliceA {w:World} {B:Nat} {v:Value} {n:Nat} {xs:List Value} (h:w.ownsRow B 57 2 v n xs): ∃ a c,v= .slice a n c:=by
 rcases h.2 with ⟨hv,h0⟩|⟨g,cap,cur,hv,-⟩
 ·exact ⟨none,0,by rw [hv,h0]⟩
 ·exact ⟨_,_,hv⟩
set_option maxRecDepth 100000 in
set_option maxHeartbeats 1000000 in
theorem isEnd_any (q:PV) (p:Cd.Pr) (v:Int) (w:World) (h:PC q p w):
  Calls Tryz.prog 46 #[q.v p,.int .i64 v] w fun e w'=>e= .returned (.bool (Cd.isEnd p v))∧Below w.heap.size w w':=by
 have hb:Below w.heap.size w (w.alloc (.cells (q.cells p) 26)):=(Below.refl _ _).alloc (Nat.le_refl _) _
 have HB:=hide hb
 obtain ⟨a,c,h1,h2⟩:=(h.keep hb).vars
 obtain ⟨qa,qc,qb,qd,qi,qe⟩:=q
 obtain ⟨rfl,-,rfl⟩:qa=a∧True∧qc=c:=by simpa using h1
 have HV:=hide h2
 clear h h1 h2 hb
 unfold PV.v PV.cells at *
 dsimp only at *
 by_cases h0:0≤v
 ·by_cases hlt:v<(p.vars.length:Int)
  ·obtain ⟨k,rfl⟩: ∃ k:Nat,v=(k:Int):=⟨v.toNat,by omega⟩
   obtain ⟨x,hx⟩: ∃ x,p.vars[k]? =some x:=⟨_,List.getElem?_eq_getElem (by omega)⟩
   obtain ⟨g,o,rfl,hc⟩:=HV.out (List.ne_nil_of_mem (List.mem_of_getElem? hx))
   obtain ⟨c1,c2⟩:=hc k x hx
   have HE:Hid (Cd.isEnd p (k:Int)=decide (1<x.2.size)):=hide (by unfold Cd.isEnd;rw [Cd.typ_in hx])
   have e1:decide ((1:Int)<(x.2.size:Int))=decide (1<x.2.size):=by simp only [decide_eq_decide];omega
   clear hx hc HV
   go_enter Tryz.func46,Tryz.ntmps46
   go_wp2
   go_ret
   exact ⟨by rw [HE.out];simp,HB.out⟩
  ·have d1:decide (v<(p.vars.length:Int))=false:=by simpa using hlt
   have HE:Hid (Cd.isEnd p v=false):=hide (by unfold Cd.isEnd;rw [Cd.typ_out (fun hh=>hlt hh.2)];rfl)
   clear HV
   go_enter Tryz.func46,Tryz.ntmps46
   go_wp2
   go_ret
   exact ⟨by rw [HE.out];rfl,HB.out⟩
 ·have d0:decide (0≤v)=false:=by simpa using h0
  have HE:Hid (Cd.isEnd p v=false):=hide (by unfold Cd.isEnd;rw [Cd.typ_out (fun hh=>h0 hh.1)];rfl)
  clear HV
  go_enter Tryz.func46,Tryz.ntmps46
  go_wp2
  go_ret
  exact ⟨by rw [HE.out];rfl,HB.out⟩
def Ow.fst1 (p:Cd.Pr) (s:Int) (v:Nat):Int:=if Cd.isEnd p v then (if (v:Int)<p.params then Ow.join [s,Ow.place v 2] else Ow.join [s,Ow.place v 1]) else s
def Ow.fstN (p:Cd.Pr) (lo:Nat):Nat→Int
 |0=>0
 |n+1=>Ow.fst1 p (Ow.fstN p lo n) (lo+n)
def Ow.hi (p:Cd.Pr) (b:Nat):Nat:=min ((b+1) * 32) p.vars.length
def Ow.first (p:Cd.Pr) (b:Nat):Int:=Ow.fstN p (b * 32) (Ow.hi p b - b * 32)
theorem two_ur (w:World) (x y:Int) (t:TypeId):UR (w.alloc (.cells #[.int .u64 x,.int .u64 y] t)) (.slice (some ⟨w.heap.size,0,none⟩) 2 2) [x,y]:=by
 refine ⟨_,2,rfl,fun _=>⟨w.heap.size,0,rfl,fun k z hz=> ?_⟩⟩
 match k,hz with
 |0,hz=>simp at hz;subst hz;simp [go_sem]
 |1,hz=>simp at hz;subst hz;simp [go_sem]
set_option maxRecDepth 100000 in
set_option maxHeartbeats 2000000 in
theorem oFirst_any (g:Nat) (q:PV) (p:Cd.Pr) (b:Nat) (w:World) (h:CoP g q p w) (hb:b≤10000) (hl:p.vars.length≤1000000):Calls Tryz.prog 71 #[.pointer (some ⟨g,0,none⟩),.int .i64 b] w fun e w'=>e= .returned (.int .u64 (Ow.first p b))∧Below w.heap.size w w':=by
 have HC:=hide h
 have HH:Hid (Ow.hi p b=min ((b+1) * 32) p.vars.length):=hide rfl
 have HF:Hid (Ow.first p b=Ow.fstN p (b * 32) (Ow.hi p b - b * 32)):=hide rfl
 rw [HF.out]
 clear h HF
 go_enter Tryz.func71,Tryz.ntmps71
 go_wp2
 go_loopw [5,6] (fun sv iv wr=> ∃ i V:Nat,i≤Ow.hi p b - b * 32∧Hid (V=b * 32+i)∧iv= .int .i64 (V:Int)∧sv= .int .u64 (Ow.fstN p (b * 32) i)∧Hid (Below w.heap.size w wr)) (fun _ iv _=>Ow.hi p b - (intOf iv).toNat)
 case atStart=>exact ⟨0,b * 32,Nat.zero_le _,hide rfl,by simp,rfl,hide (Below.refl _ _)⟩
 case round=>
  obtain ⟨i,V,hi,HV,rfl,rfl,HB⟩:=hrel
  have hcp:=HC.out.keep HB.out
  have c0:=hcp.c0
  have c1:=hcp.c1
  have c2:=hcp.c2
  have c3:=hcp.c3
  have c4:=hcp.c4
  have hmin:min (((b:Int)+1) * 32) (p.vars.length:Int)=(Ow.hi p b:Int):=by rw [HH.out];omega
  have hVm:V≤1000000:=by have h8:=HH.out;have h9:=HV.out;omega
  by_cases hlt:V<Ow.hi p b
  ·have d1:decide ((V:Int)<(Ow.hi p b:Int))=true:=by simp;omega
   have hi2:i+1≤Ow.hi p b - b * 32:=by have h9:=HV.out;omega
   have CE:=hide (isEnd_any q p (V:Int) wr hcp.pc)
   unfold PV.v PV.cells at CE
   generalize hS:Ow.fstN p (b * 32) i=S at *
   have HCP:=hide hcp
   clear hcp
   cases hE:Cd.isEnd p (V:Int) with
   |true=>
    rw [hE] at CE
    by_cases hp:(V:Int)<p.params
    ·have d2:decide ((V:Int)<p.params)=true:=by simpa using hp
     go_wp2_with fail
     refine CE.out.mono ?_
     rintro e w1 ⟨rfl,hb1⟩
     have HB1:=hide (btrans HB.out hb1)
     have c2:=bsome hb1 c2
     clear hb1 CE
     have CPL:=hide (oPlace_any (V:Int) 2 w1 (by omega) (by omega))
     have HN:Hid (Ow.fstN p (b * 32) (i+1)=Ow.join [S,Ow.place (V:Int) 2]):=hide (by show Ow.fst1 p (Ow.fstN p (b * 32) i) (b * 32+i)=_;rw [hS,←HV.out];unfold Ow.fst1;rw [hE,if_pos rfl,if_pos (by omega)])
     generalize Ow.place (V:Int) 2=PL at *
     go_wp2_with fail
     refine CPL.out.mono ?_
     rintro e w2 ⟨rfl,rfl⟩
     have CJ:=hide (oJoin_any [S,PL] (some ⟨w2.heap.size,0,none⟩) 2 (w2.alloc (.cells #[.int .u64 S,.int .u64 PL] 121)) (two_ur w2 S PL 121) (by simp))
     have HB2:Hid (Below w.heap.size w (w2.alloc (.cells #[.int .u64 S,.int .u64 PL] 121))):=hide (btrans HB1.out ((Below.refl _ _).alloc (Nat.le_refl _) _))
     generalize Ow.join [S,PL]=JN at *
     clear CPL
     go_wp2_with fail
     refine CJ.out.mono ?_
     rintro e w3 ⟨rfl,rfl⟩
     clear CJ
     go_wp2
     go_roundw
     case rel=>exact ⟨i+1,V+1,hi2,hide (by rw [HV.out];omega),by go_num,by rw [HN.out],HB2⟩
     case measure=>simp [intOf];omega
    ·have d2:decide ((V:Int)<p.params)=false:=by simpa using hp
     go_wp2_with fail
     refine CE.out.mono ?_
     rintro e w1 ⟨rfl,hb1⟩
     have HB1:=hide (btrans HB.out hb1)
     have c2:=bsome hb1 c2
     clear hb1 CE
     have CPL:=hide (oPlace_any (V:Int) 1 w1 (by omega) (by omega))
     have HN:Hid (Ow.fstN p (b * 32) (i+1)=Ow.join [S,Ow.place (V:Int) 1]):=hide (by show Ow.fst1 p (Ow.fstN p (b * 32) i) (b * 32+i)=_;rw [hS,←HV.out];unfold Ow.fst1;rw [hE,if_pos rfl,if_neg (by omega)])
     generalize Ow.place (V:Int) 1=PL at *
     go_wp2_with fail
     refine CPL.out.mono ?_
     rintro e w2 ⟨rfl,rfl⟩
     have CJ:=hide (oJoin_any [S,PL] (some ⟨w2.heap.size,0,none⟩) 2 (w2.alloc (.cells #[.int .u64 S,.int .u64 PL] 121)) (two_ur w2 S PL 121) (by simp))
     have HB2:Hid (Below w.heap.size w (w2.alloc (.cells #[.int .u64 S,.int .u64 PL] 121))):=hide (btrans HB1.out ((Below.refl _ _).alloc (Nat.le_refl _) _))
     generalize Ow.join [S,PL]=JN at *
     clear CPL
     go_wp2_with fail
     refine CJ.out.mono ?_
     rintro e w3 ⟨rfl,rfl⟩
     clear CJ
     go_wp2
     go_roundw
     case rel=>exact ⟨i+1,V+1,hi2,hide (by rw [HV.out];omega),by go_num,by rw [HN.out],HB2⟩
     case measure=>simp [intOf];omega
   |false=>
    rw [hE] at CE
    have HN:Hid (Ow.fstN p (b * 32) (i+1)=S):=hide (by show Ow.fst1 p (Ow.fstN p (b * 32) i) (b * 32+i)=_;rw [hS,←HV.out];unfold Ow.fst1;rw [hE,if_neg (by simp)])
    go_wp2_with fail
    refine CE.out.mono ?_
    rintro e w1 ⟨rfl,hb1⟩
    have HB1:=hide (btrans HB.out hb1)
    clear hb1 CE
    go_wp2
    go_roundw
    case rel=>exact ⟨i+1,V+1,hi2,hide (by rw [HV.out];omega),by go_num,by rw [HN.out],HB1⟩
    case measure=>simp [intOf];omega
  ·have d1:decide ((V:Int)<(Ow.hi p b:Int))=false:=by simp;omega
   have hfi:i=Ow.hi p b - b * 32:=by have h9:=HV.out;omega
   clear hcp
   go_wp2
   go_ret
   exact ⟨by rw [hfi];rfl,HB.out⟩
set_option maxRecDepth 100000 in
set_option maxHeartbeats 1000000 in
theorem typ_any (q:PV) (p:Cd.Pr) (v:Int) (w:World) (h:PC q p w):
  Calls Tryz.prog 26 #[q.v p,.int .i64 v] w fun e w'=>e= .returned (.string (Cd.typ p v))∧Below w.heap.size w w':=by
 have hb:Below w.heap.size w (w.alloc (.cells (q.cells p) 26)):=(Below.refl _ _).alloc (Nat.le_refl _) _
 have HB:=hide hb
 obtain ⟨a,c,h1,h2⟩:=(h.keep hb).vars
 obtain ⟨qa,qc,qb,qd,qi,qe⟩:=q
 obtain ⟨rfl,-,rfl⟩:qa=a∧True∧qc=c:=by simpa using h1
 have HV:=hide h2
 clear h h1 h2 hb
 unfold PV.v PV.cells at *
 dsimp only at *
 by_cases h0:0≤v
 ·have d0:decide (v<0)=false:=by simp;omega
  by_cases hlt:v<(p.vars.length:Int)
  ·obtain ⟨k,rfl⟩: ∃ k:Nat,v=(k:Int):=⟨v.toNat,by omega⟩
   obtain ⟨x,hx⟩: ∃ x,p.vars[k]? =some x:=⟨_,List.getElem?_eq_getElem (by omega)⟩
   obtain ⟨g,o,rfl,hc⟩:=HV.out (List.ne_nil_of_mem (List.mem_of_getElem? hx))
   obtain ⟨c1,c2⟩:=hc k x hx
   have HE:=hide (Cd.typ_in hx)
   have d1:decide ((p.vars.length:Int)≤(k:Int))=false:=by simp;omega
   clear hx hc HV
   go_enter Tryz.func26,Tryz.ntmps26
   go_wp2
   go_ret
   exact ⟨by rw [HE.out];rfl,HB.out⟩
  ·have d1:decide ((p.vars.length:Int)≤v)=true:=by simp;omega
   have HE:=hide (Cd.typ_out (p:=p) (v:=v) (fun hh=>hlt hh.2))
   clear HV
   go_enter Tryz.func26,Tryz.ntmps26
   go_wp2
   go_ret
   exact ⟨by rw [HE.out];rfl,HB.out⟩
 ·have d0:decide (v<0)=true:=by simp;omega
  have HE:=hide (Cd.typ_out (p:=p) (v:=v) (fun hh=>h0 hh.1))
  clear HV
  go_enter Tryz.func26,Tryz.ntmps26
  go_wp2
  go_ret
  exact ⟨by rw [HE.out];rfl,HB.out⟩
set_option maxRecDepth 100000 in
set_option maxHeartbeats 1000000 in
theorem act_any (q:PV) (p:Cd.Pr) (B:Nat) (v:Value) (L:List (Int × Int)) (x y:Int) (w:World) (h:PC q p w) (ho:w.ownsRow B 57 2 v L.length (fcells L)) (hl:L.length≤100000) (hB:B≤w.heap.size):
  Calls Tryz.prog 13 #[q.v p,v,.int .i64 x,.int .i64 y] w fun e w'=> ∃ v',e= .returned v'∧w'.ownsRow B 57 2 v' (if Cd.isEnd p y then L++[(x,y)] else L).length (fcells (if Cd.isEnd p y then L++[(x,y)] else L))∧Below B w w':=by
 obtain ⟨i0,hi,hz0,hz1,hz2⟩:=info_parts Tryz.infoA
 have hb:Below w.heap.size w (w.alloc (.cells (q.cells p) 26)):=(Below.refl _ _).alloc (Nat.le_refl _) _
 have CT:=hide (typ_any q p y (w.alloc (.cells (q.cells p) 26)) (h.keep hb))
 obtain ⟨av,cv,rfl⟩:=own_sliceA ho
 have HO:=hide ho
 have HB:=hide hb
 have HE:Hid (Cd.isEnd p y=decide (1<(Cd.typ p y).size)):=hide rfl
 generalize Cd.typ p y=T at *
 clear h ho hb
 unfold PV.v PV.cells at *
 by_cases ht:1<T.size
 ·have d1:decide ((1:Int)<(T.size:Int))=true:=by simp;omega
  rw [HE.out,if_pos (by simpa using ht)]
  go_enter Tryz.func13,Tryz.ntmps13
  go_wp2_with fail
  refine CT.out.mono ?_
  rintro e w1 ⟨rfl,hb1⟩
  have hs1:=hb1.size
  simp only [World.size_alloc] at hs1
  have HB1:=hide (btrans HB.out hb1)
  have HO1:=hide (own_keepA HO.out (fun g hg=>HB1.out.block g (HO.out.lt g hg).2))
  clear CT hb1 HO HB
  go_wp2_with (at_builtin;refine wpList_append_lies _ rfl _ _ 30 rfl B 57 i0 (.agg #[.int .i64 0,.int .i64 0]) 2 16 Tryz.underlying30 hi hz0 hz1 hz2 rfl (by decide) _ _ _ rfl (HO1.out.alloc _) ⟨w1.heap.size,0,none⟩ 1 1 [.int .i64 x,.int .i64 y] rfl rfl ?c1 ?c2 ?c3 ?c4 ?c5 ?c6 _ rfl ?_)
  case c1=>exact two_new _ _ _ _
  case c2=>intro u hu;simp at hu;rcases hu with rfl|rfl<;> rfl
  case c3=>decide
  case c4=>unfold maxLen;omega
  case c5=>omega
  case c6=>simp;omega
  intro g cap w3 hown hgrow hat hlt3
  have HB3:Hid (Below B w w3):=hide (((HB1.out.mono hB).alloc (by omega) _).grown hgrow (by simp;omega) (fun j hj=>(HO1.out.lt j hj).1))
  have HO3:Hid (w3.ownsRow B 57 2 (.slice (some ⟨g,0,none⟩) (L.length+1) cap) (L++[(x,y)]).length (fcells (L++[(x,y)]))):=hide (by rw [fcells_app,List.length_append];exact hown)
  clear hown hgrow hat
  go_wp2
  go_ret
  exact ⟨_,rfl,HO3.out,HB3.out⟩
 ·have d1:decide ((1:Int)<(T.size:Int))=false:=by simp;omega
  rw [HE.out,if_neg (by simpa using ht)]
  go_enter Tryz.func13,Tryz.ntmps13
  go_wp2_with fail
  refine CT.out.mono ?_
  rintro e w1 ⟨rfl,hb1⟩
  have HB1:=hide (btrans HB.out hb1)
  have HO1:=hide (own_keepA HO.out (fun g hg=>HB1.out.block g (HO.out.lt g hg).2))
  clear CT hb1 HO HB
  go_wp2
  go_ret
  exact ⟨_,rfl,HO1.out,HB1.out.mono hB⟩
set_option maxRecDepth 100000 in
set_option maxHeartbeats 1000000 in
theorem onEnds_any (q:PV) (p:Cd.Pr) (v:Value) (L:List (Int × Int)) (w:World) (h:PC q p w) (hv:ER w v L) (hl:L.length≤100000):
  Calls Tryz.prog 20 #[q.v p,v] w fun e w'=> ∃ v',e= .returned v'∧w'.ownsRow w.heap.size 57 2 v' (L.filter fun y=>Cd.isEnd p y.2).length (fcells (L.filter fun y=>Cd.isEnd p y.2))∧Below w.heap.size w w':=by
 obtain ⟨i0,hi0,hz0,hz1,hz2⟩:=info_parts Tryz.infoA
 have hb:Below w.heap.size w (w.alloc (.cells (q.cells p) 26)):=(Below.refl _ _).alloc (Nat.le_refl _) _
 have HP:=hide h
 have HV:=hide hv
 obtain ⟨a,c,rfl,-⟩:=hv
 have HB:=hide hb
 clear h hb
 unfold PV.v at *
 have HW1:Hid (∀ w',Below (w.alloc (.cells (q.cells p) 26)).heap.size (w.alloc (.cells (q.cells p) 26)) w'→w'.cell? ⟨w.heap.size,0,none⟩=some (.string p.name)∧w'.cell? ⟨w.heap.size,1,none⟩=some (.slice q.av p.vars.length q.cv)∧w'.cell? ⟨w.heap.size,2,none⟩=some (.int .i64 p.params)∧w'.cell? ⟨w.heap.size,3,none⟩=some (.slice q.ab p.blocks.length q.cb)∧w'.cell? ⟨w.heap.size,4,none⟩=some (.slice q.ai p.ins.length q.ci)):=hide (fun w' hb=>⟨bsome hb (by simp [go_sem,PV.cells]),bsome hb (by simp [go_sem,PV.cells]),bsome hb (by simp [go_sem,PV.cells]),bsome hb (by simp [go_sem,PV.cells]),bsome hb (by simp [go_sem,PV.cells])⟩)
 have CE:Hid (∀ (w':World) (y:Int),Below w.heap.size w w'→Calls Tryz.prog 46 #[.agg (q.cells p),.int .i64 y] w' fun e w''=>e= .returned (.bool (Cd.isEnd p y))∧Below w'.heap.size w' w''):=hide (fun w' y hb=>isEnd_any q p y w' (HP.out.keep hb))
 unfold PV.cells at *
 go_enter Tryz.func20,Tryz.ntmps20
 go_wp2
 obtain ⟨W,hW⟩: ∃ W,w.alloc (.cells #[.string p.name,.slice q.av p.vars.length q.cv,.int .i64 p.params,.slice q.ab p.blocks.length q.cb,.slice q.ai p.ins.length q.ci] 26)=W:=⟨_,rfl⟩
 have hWs:W.heap.size=w.heap.size+1:=by rw [←hW];simp
 rw [hW] at HB HW1 ⊢
 clear hW
 go_loopw [5,10] (fun v iv wr=> ∃ i:Nat,i≤L.length∧iv= .int .i64 i∧Hid (wr.ownsRow (w.heap.size+1) 57 2 v ((L.take i).filter fun y=>Cd.isEnd p y.2).length (fcells ((L.take i).filter fun y=>Cd.isEnd p y.2)))∧Hid (Below W.heap.size W wr)) (fun _ iv _=>L.length - (intOf iv).toNat)
 case atStart=>exact ⟨0,Nat.zero_le _,rfl,hide (World.ownsRow_nil _ _ _ _),hide (Below.refl _ _)⟩
 case round=>
  obtain ⟨i,hi,rfl,HO,HBW⟩:=hrel
  have hsW:=HBW.out.size
  by_cases hlt:i<L.length
  ·have d1:decide ((i:Int)<(L.length:Int))=true:=by simp;omega
   obtain ⟨x,hx⟩: ∃ x,L[i]? =some x:=⟨_,List.getElem?_eq_getElem hlt⟩
   have hBw:Below w.heap.size w wr:=HB.out.trans (HBW.out.mono (by omega))
   obtain ⟨a2,c2,e2,h2⟩:=HV.out.keep hBw
   obtain ⟨rfl,-,rfl⟩:a=a2∧True∧c=c2:=by simpa using e2
   obtain ⟨g,o,rfl,hc⟩:=h2 (List.ne_nil_of_mem (List.mem_of_getElem? hx))
   obtain ⟨x0,x1⟩:=hc i x hx
   have HT:Hid (L.take (i+1)=L.take i++[x]):=hide (by rw [List.take_add_one,hx];rfl)
   obtain ⟨xa,xb⟩:=x
   simp only at x0 x1
   have hb5:Below wr.heap.size wr (wr.alloc (.cells #[.int .i64 xa,.int .i64 xb] 57)):=(Below.refl _ _).alloc (Nat.le_refl _) _
   have CI:=hide (CE.out _ xb (hBw.trans (hb5.mono hBw.size)))
   obtain ⟨p0,p1,p2,p3,p4⟩:=HW1.out _ (HBW.out.trans (hb5.mono hsW))
   have HB5:=hide hb5
   obtain ⟨va,vc,rfl⟩:=own_sliceA HO.out
   have hfl:((L.take i).filter fun y=>Cd.isEnd p y.2).length≤100000:=Nat.le_trans (List.length_filter_le _ _) (by rw [List.length_take];omega)
   have HFl:Hid (((L.take (i+1)).filter fun y=>Cd.isEnd p y.2)=((L.take i).filter fun y=>Cd.isEnd p y.2)++(if Cd.isEnd p xb then [(xa,xb)] else [])):=hide (by
    rw [HT.out,List.filter_append]
    cases hq:Cd.isEnd p xb<;> simp [hq])
   generalize ((L.take i).filter fun y=>Cd.isEnd p y.2)=K at *
   clear hx hc h2 e2 hb5 HT
   have i0':(0:Int)≤(i:Int):=by omega
   have i1':(i:Int)<(L.length:Int):=by omega
   go_wp2_with fail
   refine CI.out.mono ?_
   rintro e w5 ⟨rfl,hb6⟩
   have z0:w5.cell? ⟨wr.heap.size,0,none⟩=some (.int .i64 xa):=bsome hb6 (by simp [go_sem])
   have z1:w5.cell? ⟨wr.heap.size,1,none⟩=some (.int .i64 xb):=bsome hb6 (by simp [go_sem])
   have hb7:=btrans HB5.out hb6
   have hs7:=hb7.size
   have HO7:=hide (own_keepA HO.out (fun g hg=>hb7.block g (HO.out.lt g hg).2))
   have HB7:=hide (HBW.out.trans (hb7.mono hsW))
   clear CI hb6 hb7 HO HBW HB5 x0 x1 p0 p1 p2 p3 p4
   cases hq:Cd.isEnd p xb with
   |true=>
    rw [hq,if_pos rfl] at HFl
    go_wp2_with (at_builtin;refine wpList_append_lies _ rfl _ _ 30 rfl (w.heap.size+1) 57 i0 (.agg #[.int .i64 0,.int .i64 0]) 2 16 Tryz.underlying30 hi0 hz0 hz1 hz2 rfl (by decide) _ _ _ rfl (HO7.out.alloc _) ⟨w5.heap.size,0,none⟩ 1 1 [.int .i64 xa,.int .i64 xb] rfl rfl ?c1 ?c2 ?c3 ?c4 ?c5 ?c6 _ rfl ?_)
    case c1=>exact two_new _ _ _ _
    case c2=>intro u hu;simp at hu;rcases hu with rfl|rfl<;> rfl
    case c3=>decide
    case c4=>unfold maxLen;omega
    case c5=>omega
    case c6=>simp;omega
    intro gn cap w8 hown hgrow hat hlt8
    have HB8:Hid (Below W.heap.size W w8):=hide ((HB7.out.alloc (by omega) _).grown hgrow (by simp;omega) (fun j hj=>by have:=(HO7.out.lt j hj).1;omega))
    have HO8:Hid (w8.ownsRow (w.heap.size+1) 57 2 (.slice (some ⟨gn,0,none⟩) (K.length+1) cap) ((L.take (i+1)).filter fun y=>Cd.isEnd p y.2).length (fcells ((L.take (i+1)).filter fun y=>Cd.isEnd p y.2))):=hide (by rw [HFl.out,fcells_app,List.length_append];exact hown)
    clear hown hgrow hat HO7 HB7
    go_wp2
    go_roundw
    case rel=>exact ⟨i+1,by omega,by go_num,HO8,HB8⟩
    case measure=>simp [intOf];omega
   |false=>
    rw [hq,if_neg (by simp),List.append_nil] at HFl
    have HO8:Hid (w5.ownsRow (w.heap.size+1) 57 2 (.slice va K.length vc) ((L.take (i+1)).filter fun y=>Cd.isEnd p y.2).length (fcells ((L.take (i+1)).filter fun y=>Cd.isEnd p y.2))):=hide (by rw [HFl.out];exact HO7.out)
    clear HO7
    go_wp2
    go_roundw
    case rel=>exact ⟨i+1,by omega,by go_num,HO8,HB7⟩
    case measure=>simp [intOf];omega
  ·obtain rfl:i=L.length:=by omega
   have d1:decide ((L.length:Int)<(L.length:Int))=false:=by simp
   rw [List.take_length] at HO
   have HBe:Hid (Below w.heap.size w wr):=hide (HB.out.trans (HBW.out.mono (by omega)))
   have HOe:=hide (own_low HO.out (Nat.le_succ _))
   clear HO HBW
   go_wp2
   go_ret
   exact ⟨_,rfl,HOe.out,HBe.out⟩
end Go.Proofs.YteeocekjekclbaaGreatDoor
