import Derived.Test.YtcdcoiobpbdmpaaGreatDoorMar
import Derived.Deep.Cut
namespace Go.Proofs.YtcdcoiobpbdmpaaGreatDoor
open Go.RowKit
theorem Lw.made_some {ab:List Lw.Ab} {n:Nat} {nm:List UInt8} {ax:Int} {ps body:List Sx.Tr} {vs:List Lw.Vr} {s':Lw.St} (h:Lw.made ab n (Sx.tG nm ax ps body) vs=some s'):nm.length≤1000000∧vs.length≤1000000∧ps.length≤1000000∧
  Lw.within (Lw.stmt ab n) ⟨vs,[],[]⟩ 0 ax (1,0,0) body (fun s nb=>(Lw.over s nb ax (ps.map fun p=>bs (Sx.pH p).1)).bind fun s2=>Lw.put s2 nb ax ⟨17,0,0,0,0,⟨#[]⟩,[],[],0,0,0⟩)=some s':=by
 by_cases hc:1000000<nm.length∨1000000<vs.length∨1000000<ps.length
 ·have:Lw.made ab n (Sx.tG nm ax ps body) vs=none:=if_pos hc
  rw [this] at h;cases h
 ·have:Lw.made ab n (Sx.tG nm ax ps body) vs=Lw.within (Lw.stmt ab n) ⟨vs,[],[]⟩ 0 ax (1,0,0) body (fun s nb=>(Lw.over s nb ax (ps.map fun p=>bs (Sx.pH p).1)).bind fun s2=>Lw.put s2 nb ax ⟨17,0,0,0,0,⟨#[]⟩,[],[],0,0,0⟩):=if_neg hc
  rw [this] at h
  exact ⟨by omega,by omega,by omega,h⟩
theorem MK.begin {X:World} {nm:ByteArray} {ps ax:Int} {uA:Value} {vs:List Lw.Vr} {av:Option Addr} {cv:Nat} (hov:X.ownsRow 0 98 2 (.slice av vs.length cv) vs.length (vs.flatMap Cd.vcl)) (hvl:vs.length≤1000000) (Y:World) (hY:X.alloc (.cells #[.string nm,.slice av vs.length cv,.int .i64 ps,.slice none 0 0,.slice none 0 0,uA,.int .i64 0,.int .i64 ax] 89)=Y):MK ⟨X.heap.size,fun j=>j<X.heap.size,nm,ps,uA⟩ ⟨av,cv,none,0,none,0⟩ ⟨vs,[],[]⟩ 0 ax Y:=by
 have hb:Below X.heap.size X Y:=by rw [←hY];exact (Below.refl _ _).alloc (Nat.le_refl _) _
 have hs:Y.heap.size=X.heap.size+1:=by rw [←hY];simp
 refine ⟨by rw [←hY];simp [go_sem],by rw [←hY];simp [go_sem],by rw [←hY];simp [go_sem],by rw [←hY];simp [go_sem],by rw [←hY];simp [go_sem],by rw [←hY];simp [go_sem],by rw [←hY];simp [go_sem],by rw [←hY];simp [go_sem],own_keepT hov (fun j hj=>hb.block j (hov.lt j hj).2),World.ownsRow_nil _ _ _ _,⟨[],World.ownsRow_nil _ _ _ _,rfl,fun k x hx=>by simp at hx⟩,fun j hj=>⟨?_,by simp [ob],by simp [ob]⟩,fun j hj=>by simp [ob] at hj,fun k=>by rw [←hY];simp [go_sem],?_,hvl,fun j hj=> ?_⟩
 ·have:=(hov.lt j (by rw [ob_own];exact hj)).2
  show j ≠ X.heap.size
  omega
 ·show X.heap.size<Y.heap.size
  omega
 ·have hj':j<X.heap.size:=hj
  omega
theorem five_set {w:World} {b:Nat} {u0 u1 u2 u3 u4 v0 v1 v2 v3 v4:Value} (h0:w.cell? ⟨b,0,none⟩=some u0) (h1:w.cell? ⟨b,1,none⟩=some u1) (h2:w.cell? ⟨b,2,none⟩=some u2) (h3:w.cell? ⟨b,3,none⟩=some u3) (h4:w.cell? ⟨b,4,none⟩=some u4):(((((w.setCell ⟨b,0,none⟩ v0).setCell ⟨b,1,none⟩ v1).setCell ⟨b,2,none⟩ v2).setCell ⟨b,3,none⟩ v3).setCell ⟨b,4,none⟩ v4).cell? ⟨b,0,none⟩=some v0∧(((((w.setCell ⟨b,0,none⟩ v0).setCell ⟨b,1,none⟩ v1).setCell ⟨b,2,none⟩ v2).setCell ⟨b,3,none⟩ v3).setCell ⟨b,4,none⟩ v4).cell? ⟨b,1,none⟩=some v1∧(((((w.setCell ⟨b,0,none⟩ v0).setCell ⟨b,1,none⟩ v1).setCell ⟨b,2,none⟩ v2).setCell ⟨b,3,none⟩ v3).setCell ⟨b,4,none⟩ v4).cell? ⟨b,2,none⟩=some v2∧(((((w.setCell ⟨b,0,none⟩ v0).setCell ⟨b,1,none⟩ v1).setCell ⟨b,2,none⟩ v2).setCell ⟨b,3,none⟩ v3).setCell ⟨b,4,none⟩ v4).cell? ⟨b,3,none⟩=some v3∧(((((w.setCell ⟨b,0,none⟩ v0).setCell ⟨b,1,none⟩ v1).setCell ⟨b,2,none⟩ v2).setCell ⟨b,3,none⟩ v3).setCell ⟨b,4,none⟩ v4).cell? ⟨b,4,none⟩=some v4:=by
 have o: ∀ (w:World) (i j:Nat) (v:Value),i ≠ j→(w.setCell ⟨b,i,none⟩ v).cell? ⟨b,j,none⟩=w.cell? ⟨b,j,none⟩:=fun w i j v h=>World.cell?_setCell_other _ _ _ _ (fun e=>by injection e with e1 e2;first|exact h e2|exact h e2.symm)
 have s: ∀ (w:World) (i:Nat) (u v:Value),w.cell? ⟨b,i,none⟩=some u→(w.setCell ⟨b,i,none⟩ v).cell? ⟨b,i,none⟩=some v:=fun w i u v h=>World.cell?_setCell_same _ _ _ h
 refine ⟨?_,?_,?_,?_,?_⟩
 ·rw [o _ 4 0 _ (by decide),o _ 3 0 _ (by decide),o _ 2 0 _ (by decide),o _ 1 0 _ (by decide)];exact s _ 0 _ _ h0
 ·rw [o _ 4 1 _ (by decide),o _ 3 1 _ (by decide),o _ 2 1 _ (by decide)];exact s _ 1 _ _ (by rw [o _ 0 1 _ (by decide)];exact h1)
 ·rw [o _ 4 2 _ (by decide),o _ 3 2 _ (by decide)];exact s _ 2 _ _ (by rw [o _ 1 2 _ (by decide),o _ 0 2 _ (by decide)];exact h2)
 ·rw [o _ 4 3 _ (by decide)];exact s _ 3 _ _ (by rw [o _ 2 3 _ (by decide),o _ 1 3 _ (by decide),o _ 0 3 _ (by decide)];exact h3)
 ·exact s _ 4 _ _ (by rw [o _ 3 4 _ (by decide),o _ 2 4 _ (by decide),o _ 1 4 _ (by decide),o _ 0 4 _ (by decide)];exact h4)
theorem five_new (w:World) (v0 v1 v2 v3 v4:Value) (t:TypeId):(w.alloc (.cells #[v0,v1,v2,v3,v4] t)).cell? ⟨w.heap.size,0,none⟩=some v0∧(w.alloc (.cells #[v0,v1,v2,v3,v4] t)).cell? ⟨w.heap.size,1,none⟩=some v1∧(w.alloc (.cells #[v0,v1,v2,v3,v4] t)).cell? ⟨w.heap.size,2,none⟩=some v2∧(w.alloc (.cells #[v0,v1,v2,v3,v4] t)).cell? ⟨w.heap.size,3,none⟩=some v3∧(w.alloc (.cells #[v0,v1,v2,v3,v4] t)).cell? ⟨w.heap.size,4,none⟩=some v4:=⟨by simp [go_sem],by simp [go_sem],by simp [go_sem],by simp [go_sem],by simp [go_sem]⟩
theorem five_below {B:Nat} {W w:World} {b:Nat} {v0 v1 v2 v3 v4:Value} (h:Below B W w) (hb:B≤b):Below B W (((((w.setCell ⟨b,0,none⟩ v0).setCell ⟨b,1,none⟩ v1).setCell ⟨b,2,none⟩ v2).setCell ⟨b,3,none⟩ v3).setCell ⟨b,4,none⟩ v4):=((((h.setCell hb _).setCell hb _).setCell hb _).setCell hb _).setCell hb _
set_option maxRecDepth 100000 in
set_option maxHeartbeats 4000000 in
theorem made_any (ab:List Lw.Ab) (n:Nat) {w:World} (P:Nat→Prop) (hP: ∀ j,P j→j<w.heap.size) (nm:List UInt8) (ax:Int) (ps body:List Sx.Tr) (aP aB:Option Addr) (cP cB:Nat) (hps:Sl RP w P ps (.slice aP ps.length cP)) (hB:Sl (RS w P n) w P body (.slice aB body.length cB)) (vs:List Lw.Vr) (av:Option Addr) (cv:Nat) (hov:w.ownsRow 0 98 2 (.slice av vs.length cv) vs.length (vs.flatMap Cd.vcl)) (hPv: ∀ j,ob av=some j→ ¬ P j) (aU:Option Addr) (cU:Nat) (hA:ABm w P (.slice aU ab.length cU) ab) (s':Lw.St)
  (hs:Lw.made ab n (Sx.tG nm ax ps body) vs=some s'):
  Calls Tryz.prog 14 #[.agg #[.string (bs nm),.int .i64 ax,.slice aP ps.length cP,.slice aB body.length cB],.slice av vs.length cv,.slice aU ab.length cU] w fun e w'=> ∃ q:PV,e= .returned (q.v (Lw.proc (Sx.tG nm ax ps body) s'))∧PCx w' (fun j=>(w.heap.size≤j∧j<w'.heap.size)∨ob av=some j) q (Lw.proc (Sx.tG nm ax ps body) s')∧Kx (fun j=>ob av ≠ some j) w w':=by
 obtain ⟨hnl,hvl,hpl,hs1⟩:=Lw.made_some hs
 have hvb: ∀ j,ob av=some j→j<w.heap.size:=fun j hj=>(hov.lt j (by rw [ob_own];exact hj)).2
 have HP:=hide hP
 have HPS:=hide hps
 have HBD:=hide hB
 have HOV:=hide hov
 have HPV:=hide hPv
 have HAA:=hide hA
 have HSS:=hide hs1
 have HVB:=hide hvb
 have HCl:=hide (fun w1=>clone_any (bs nm) w1 (by rw [bs_sz];omega))
 have hb0:Below w.heap.size w ((w.alloc (.cells #[.string (bs nm),.int .i64 ax,.slice aP ps.length cP,.slice aB body.length cB] 53)).alloc (.cells #[.string ⟨#[]⟩,.slice none 0 0,.int .i64 0,.slice none 0 0,.slice none 0 0] 39)):=((Below.refl _ _).alloc (Nat.le_refl _) _).alloc (by simp) _
 have HB0:=hide hb0
 clear hP hps hB hov hPv hA hs hs1 hvb hb0
 go_enter Tryz.func14,Tryz.ntmps14
 go_upto_region 1 with fail
 obtain ⟨W,hW⟩: ∃ W,((w.alloc (.cells #[.string (bs nm),.int .i64 ax,.slice aP ps.length cP,.slice aB body.length cB] 53)).alloc (.cells #[.string ⟨#[]⟩,.slice none 0 0,.int .i64 0,.slice none 0 0,.slice none 0 0] 39))=W:=⟨_,rfl⟩
 have j0:W.cell? ⟨w.heap.size,0,none⟩=some (.string (bs nm)):=by rw [←hW];simp [go_sem]
 have j1:W.cell? ⟨w.heap.size,1,none⟩=some (.int .i64 ax):=by rw [←hW];simp [go_sem]
 have j2:W.cell? ⟨w.heap.size,2,none⟩=some (.slice aP ps.length cP):=by rw [←hW];simp [go_sem]
 have j3:W.cell? ⟨w.heap.size,3,none⟩=some (.slice aB body.length cB):=by rw [←hW];simp [go_sem]
 have r0:W.cell? ⟨w.heap.size+1,0,none⟩=some (.string ⟨#[]⟩):=by rw [←hW];simp [go_sem]
 have r1:W.cell? ⟨w.heap.size+1,1,none⟩=some (.slice none 0 0):=by rw [←hW];simp [go_sem]
 have r2:W.cell? ⟨w.heap.size+1,2,none⟩=some (.int .i64 0):=by rw [←hW];simp [go_sem]
 have r3:W.cell? ⟨w.heap.size+1,3,none⟩=some (.slice none 0 0):=by rw [←hW];simp [go_sem]
 have r4:W.cell? ⟨w.heap.size+1,4,none⟩=some (.slice none 0 0):=by rw [←hW];simp [go_sem]
 have rf: ∀ k,W.frozen? ⟨w.heap.size+1,k,none⟩=false:=fun k=>by rw [←hW];simp [go_sem]
 have hWs:W.heap.size=w.heap.size+2:=by rw [←hW];simp
 rw [hW] at HB0 ⊢
 clear hW
 have HJ:Hid (∀ w',Below W.heap.size W w'→w'.cell? ⟨w.heap.size,0,none⟩=some (.string (bs nm))∧w'.cell? ⟨w.heap.size,1,none⟩=some (.int .i64 ax)∧w'.cell? ⟨w.heap.size,2,none⟩=some (.slice aP ps.length cP)∧w'.cell? ⟨w.heap.size,3,none⟩=some (.slice aB body.length cB)):=hide (fun w' hb=>⟨bsome hb j0,bsome hb j1,bsome hb j2,bsome hb j3⟩)
 have HR:Hid (∀ w',Below W.heap.size W w'→w'.cell? ⟨w.heap.size+1,0,none⟩=some (.string ⟨#[]⟩)∧w'.cell? ⟨w.heap.size+1,1,none⟩=some (.slice none 0 0)∧w'.cell? ⟨w.heap.size+1,2,none⟩=some (.int .i64 0)∧w'.cell? ⟨w.heap.size+1,3,none⟩=some (.slice none 0 0)∧w'.cell? ⟨w.heap.size+1,4,none⟩=some (.slice none 0 0)∧ ∀ k,w'.frozen? ⟨w.heap.size+1,k,none⟩=false):=hide (fun w' hb=>⟨bsome hb r0,bsome hb r1,bsome hb r2,bsome hb r3,bsome hb r4,fun k=>(World.frozen?_of_block (w:=W) (a:=⟨w.heap.size+1,k,none⟩) (hb.block (w.heap.size+1) (by omega))).trans (rf k)⟩)
 have HWs:=hide hWs
 clear r0 r1 r2 r3 r4 rf hWs
 have HPZ:Hid (∀ X:World,∀ w',Below (X.alloc (.cells #[.string ⟨#[]⟩,.slice none 0 0,.int .i64 0,.slice none 0 0,.slice none 0 0] 39)).drew.heap.size (X.alloc (.cells #[.string ⟨#[]⟩,.slice none 0 0,.int .i64 0,.slice none 0 0,.slice none 0 0] 39)).drew w'→w'.cell? ⟨X.heap.size,0,none⟩=some (.string ⟨#[]⟩)∧w'.cell? ⟨X.heap.size,1,none⟩=some (.slice none 0 0)∧w'.cell? ⟨X.heap.size,2,none⟩=some (.int .i64 0)∧w'.cell? ⟨X.heap.size,3,none⟩=some (.slice none 0 0)∧w'.cell? ⟨X.heap.size,4,none⟩=some (.slice none 0 0)∧ ∀ k,w'.frozen? ⟨X.heap.size,k,none⟩=false):=hide (fun X w' hb=>⟨bsome hb (by simp [go_sem]),bsome hb (by simp [go_sem]),bsome hb (by simp [go_sem]),bsome hb (by simp [go_sem]),bsome hb (by simp [go_sem]),fun k=>(World.frozen?_of_block (w:=(X.alloc (.cells #[.string ⟨#[]⟩,.slice none 0 0,.int .i64 0,.slice none 0 0,.slice none 0 0] 39)).drew) (a:=⟨X.heap.size,k,none⟩) (hb.block X.heap.size (by show X.heap.size<(X.alloc (.cells #[.string ⟨#[]⟩,.slice none 0 0,.int .i64 0,.slice none 0 0,.slice none 0 0] 39)).heap.size;simp))).trans (by simp [go_sem])⟩)
 have k0:W.drew.cell? ⟨w.heap.size,0,none⟩=some (.string (bs nm)):=j0
 have k2:W.drew.cell? ⟨w.heap.size,2,none⟩=some (.slice aP ps.length cP):=j2
 have b0:(W.alloc (.cells #[.string ⟨#[]⟩,.slice none 0 0,.int .i64 0,.slice none 0 0,.slice none 0 0] 39)).drew.cell? ⟨w.heap.size,0,none⟩=some (.string (bs nm)):=bsome ((Below.refl _ _).alloc (Nat.le_refl _) _) j0
 have b2:(W.alloc (.cells #[.string ⟨#[]⟩,.slice none 0 0,.int .i64 0,.slice none 0 0,.slice none 0 0] 39)).drew.cell? ⟨w.heap.size,2,none⟩=some (.slice aP ps.length cP):=bsome ((Below.refl _ _).alloc (Nat.le_refl _) _) j2
 go_cut [7] from 8 (fun v7 wx=> ∃ pb:Nat,v7= .pointer (some ⟨pb,0,none⟩)∧Hid (wx.cell? ⟨pb,0,none⟩=some (.string (bs nm))∧wx.cell? ⟨pb,1,none⟩=some (.slice av vs.length cv)∧wx.cell? ⟨pb,2,none⟩=some (.int .i64 ps.length)∧wx.cell? ⟨pb,3,none⟩=some (.slice none 0 0)∧wx.cell? ⟨pb,4,none⟩=some (.slice none 0 0))∧Hid (Below W.heap.size W wx))
 case first=>
  go_region_law ((first
   |(refine step_call_rv rfl 26 #[.string (bs nm)] ?_ (HCl.out W.drew) ?_;(focus (go_simp;done));intro wq hbq;have hbz:Below W.heap.size W wq:=btrans (below_drewN (Below.refl _ _) 1) hbq;obtain ⟨n0,n1,n2,n3⟩:=HJ.out wq hbz;have m2:(wq.alloc (.cells #[.string ⟨#[]⟩,.slice none 0 0,.int .i64 0,.slice none 0 0,.slice none 0 0] 39)).cell? ⟨w.heap.size,2,none⟩=some (.slice aP ps.length cP):=bsome ((Below.refl _ _).alloc (Nat.le_refl _) _) n2;have HBZ:=hide hbz;clear hbq hbz)
   |(refine step_call_rv rfl 26 #[.string (bs nm)] ?_ (HCl.out (W.alloc (.cells #[.string ⟨#[]⟩,.slice none 0 0,.int .i64 0,.slice none 0 0,.slice none 0 0] 39)).drew) ?_;(focus (go_simp;done));intro wq hbq;have hbz:Below W.heap.size W wq:=btrans (below_drewN ((Below.refl _ _).alloc (Nat.le_refl _) _) 1) hbq;obtain ⟨n0,n1,n2,n3⟩:=HJ.out wq hbz;obtain ⟨p0,p1,p2,p3,p4,pf⟩:=HPZ.out W wq hbq;have pf0:=pf 0;have pf1:=pf 1;have pf2:=pf 2;have pf3:=pf 3;have pf4:=pf 4;have HBZ:=hide hbz;clear hbq hbz pf)))
  all_goals
   go_wp2
   go_meet
   case rel=>
    first
     |(have hp0:=p0;clear hp0;have hfs:=five_set (v0:=(.string (bs nm))) (v1:=(.slice av vs.length cv)) (v2:=(.int .i64 ps.length)) (v3:=(.slice none 0 0)) (v4:=(.slice none 0 0)) p0 p1 p2 p3 p4;have hfb:=five_below (v0:=(.string (bs nm))) (v1:=(.slice av vs.length cv)) (v2:=(.int .i64 ps.length)) (v3:=(.slice none 0 0)) (v4:=(.slice none 0 0)) HBZ.out (Nat.le_refl W.heap.size);exact ⟨W.heap.size,rfl,hfs,hfb⟩)
     |(have hfs:=five_new wq (.string (bs nm)) (.slice av vs.length cv) (.int .i64 ps.length) (.slice none 0 0) (.slice none 0 0) 39;have hfb:=btrans HBZ.out ((Below.refl wq.heap.size wq).alloc (Nat.le_refl _) (.cells #[.string (bs nm),.slice av vs.length cv,.int .i64 ps.length,.slice none 0 0,.slice none 0 0] 39));exact ⟨wq.heap.size,rfl,hfs,hfb⟩)
 case rest=>
  obtain ⟨pb,rfl,HP5,HBX⟩:=hcut
  obtain ⟨x0,x1,x2,x3,x4⟩:=HP5.out
  obtain ⟨n0,n1,n2,n3⟩:=HJ.out wc HBX.out
  have hbwc:=btrans HB0.out HBX.out
  have HBC:=hide hbwc
  have hY: ∃ Y,wc.alloc (.cells #[.string (bs nm),.slice av vs.length cv,.int .i64 ps.length,.slice none 0 0,.slice none 0 0,.slice aU ab.length cU,.int .i64 0,.int .i64 ax] 89)=Y:=⟨_,rfl⟩
  obtain ⟨Y,hY⟩:=hY
  have hbY:Below wc.heap.size wc Y:=by rw [←hY];exact (Below.refl _ _).alloc (Nat.le_refl _) _
  have hovc:=own_keepT HOV.out (fun j hj=>hbwc.block j (HOV.out.lt j hj).2)
  have HMB:=hide (MK.begin (nm:=bs nm) (ps:=ps.length) (ax:=ax) (uA:= .slice aU ab.length cU) hovc hvl Y hY)
  have HBY:=hide (btrans hbwc hbY)
  have HNM:Hid (∀ j,(j<w.heap.size∧ob av ≠ some j)∨(w.heap.size≤j∧j<wc.heap.size)→j<Y.heap.size∧ ¬ MA.mut ⟨av,cv,none,0,none,0⟩ wc.heap.size j):=hide (fun j hj=>by
   have h1:=hbwc.size
   have h2:=hbY.size
   refine ⟨by omega,?_⟩
   rintro (h3|h3|h3|h3)
   ·omega
   ·rcases hj with hj|hj
    ·exact hj.2 h3
    ·have:=HVB.out j h3;omega
   ·simp [ob] at h3
   ·simp [ob] at h3)
  have HPY:Hid (∀ j,P j→j<Y.heap.size∧ ¬ MA.mut ⟨av,cv,none,0,none,0⟩ wc.heap.size j):=hide (fun j hj=>HNM.out j (.inl ⟨HP.out j hj,fun e=>HPV.out j e hj⟩))
  have q0:=bsome hbY n2
  have HQ0:=hide q0
  have hbxl:w.heap.size<wc.heap.size:=World.block_lt_of_cell? _ _ n2
  have CW:=hide (within_any ab n (stmt_any ab n) 28 #[.pointer (some ⟨w.heap.size,0,none⟩),.pointer (some ⟨wc.heap.size,0,none⟩)] (by intro w;rfl) (fun _=>False) (fun _=>True) HMB.out P HPY.out (HAA.out.keepX (Kx.of_below (X:=fun _=>True) HBY.out) (fun _ _=>trivial)) 1 0 0 0 body aB cB (HBD.out.keepX (Kx.of_below (X:=fun _=>True) HBY.out) (fun _ _=>trivial) (fun d c hr=>hr.keepX (Kx.of_below (X:=fun _=>True) HBY.out) (fun _ _=>trivial))) _ HSS.out (by
   intro m3 s3 w3 hm3 hs3 hlast
   have hn3: ¬ MA.mut ⟨av,cv,none,0,none,0⟩ wc.heap.size w.heap.size:=(HNM.out w.heap.size (.inr ⟨Nat.le_refl _,hbxl⟩)).2
   refine (madeC_any P hm3 w.heap.size (fun j hj=>hs3.stay HPY.out hj) ps aP cP (hs3.cell HQ0.out hn3) ?_ hpl hlast).mono ?_
   ·exact (HPS.out.keepX (Kx.of_below (X:=fun _=>True) HBY.out) (fun _ _=>trivial) (fun _ _ h=>h)).keepX hs3.kx (fun j hj=>(HPY.out j hj).2) (fun _ _ h=>h)
   ·rintro e w4 ⟨rfl,m4,hm4,hs4⟩
    exact ⟨rfl,trivial,m4,hm4,MSJ.of hs4⟩))
  have z3:=bsome hbY n3
  have HYS:=hide hbY.size
  clear hovc hbwc hbY HP5 q0 HPS HBD HOV HAA HSS
  go_wp2_with fail
  refine CW.out.mono ?_
  rintro e w6 ⟨rfl,w4,m6,-,-,hm6,hs6⟩
  have hms6:=hs6.ms (fun j hj=>hj.elim)
  have hwl:=HWs.out
  have hb1:=HBX.out.size
  have nR:=(HNM.out (w.heap.size+1) (.inr ⟨by omega,by omega⟩)).2
  obtain ⟨r0,r1,r2,r3,r4,rf⟩:=HR.out wc HBX.out
  have hbY2:Below wc.heap.size wc Y:=by rw [←hY];exact (Below.refl _ _).alloc (Nat.le_refl _) _
  have s0:=hms6.cell (bsome hbY2 r0) nR
  have s1:=hms6.cell (bsome hbY2 r1) nR
  have s2:=hms6.cell (bsome hbY2 r2) nR
  have s3:=hms6.cell (bsome hbY2 r3) nR
  have s4:=hms6.cell (bsome hbY2 r4) nR
  have sf: ∀ k,w6.frozen? ⟨w.heap.size+1,k,none⟩=false:=fun k=>(hms6.kx.frozen (p:=⟨w.heap.size+1,k,none⟩) (by have:=HYS.out;show w.heap.size+1<Y.heap.size;omega) nR).trans ((World.frozen?_of_block (w:=wc) (a:=⟨w.heap.size+1,k,none⟩) (hbY2.block (w.heap.size+1) (by omega))).trans (rf k))
  have sf0:=sf 0
  have sf1:=sf 1
  have sf2:=sf 2
  have sf3:=sf 3
  have sf4:=sf 4
  have t0:=hm6.c0
  have t1:=hm6.c1
  have t2:=hm6.c2
  have t3:=hm6.c3
  have t4:=hm6.c4
  dsimp only at t0 t1 t2 t3 t4
  have HM6:=hide hm6
  have HS6:=hide hms6
  have HNR:=hide nR
  have HRS:=hide (five_set (v0:= .string (bs nm)) (v1:= .slice m6.av s'.vs.length m6.cv) (v2:= .int .i64 ps.length) (v3:= .slice m6.ab s'.bs.length m6.cb) (v4:= .slice m6.ai s'.is.length m6.ci) s0 s1 s2 s3 s4)
  clear hm6 hs6 hms6 CW HR HJ r0 r1 r2 r3 r4 rf sf j0 j1 j2 j3 n0 n1 n2 n3 x0 x1 x2 x3 x4 nR k0 k2 b0 b2 z3 hY HPZ HCl
  go_wp2
  obtain ⟨u0,u1,u2,u3,u4⟩:=HRS.out
  generalize hZ:((((w6.setCell ⟨w.heap.size+1,0,none⟩ (.string (bs nm))).setCell ⟨w.heap.size+1,1,none⟩ (.slice m6.av s'.vs.length m6.cv)).setCell ⟨w.heap.size+1,2,none⟩ (.int .i64 ps.length)).setCell ⟨w.heap.size+1,3,none⟩ (.slice m6.ab s'.bs.length m6.cb)).setCell ⟨w.heap.size+1,4,none⟩ (.slice m6.ai s'.is.length m6.ci)=Z at *
  have hzs:Z.heap.size=w6.heap.size:=by rw [←hZ];simp [World.setCell]
  have hkz: ∀ X:Nat→Prop,¬ X (w.heap.size+1)→Kx X w6 Z:=fun X hX=>by
   rw [←hZ]
   exact (((((Kx.refl _ _).set (.inr hX) _).set (.inr hX) _).set (.inr hX) _).set (.inr hX) _).set (.inr hX) _
  refine bodyPost_ret (v:= .agg #[.string (bs nm),.slice m6.av s'.vs.length m6.cv,.int .i64 ps.length,.slice m6.ab s'.bs.length m6.cb,.slice m6.ai s'.is.length m6.ci]) (by simp [results,Tryz.results14,go_sem,u0,u1,u2,u3,u4]) rfl ⟨⟨m6.av,m6.cv,m6.ab,m6.cb,m6.ai,m6.ci⟩,rfl,?_,?_⟩
  ·have hlt6:=HM6.out.lt
   have hmu6:=HS6.out.mu
   refine (HM6.out.pcx (bs nm) (ps.length:Int)).up (hkz _ ?_) (fun j hj=> ?_)
   ·rintro (e|e)
    ·rcases hmu6 _ e with h3|h3
     ·exact HNR.out h3
     ·have:=HYS.out;omega
    ·exact e.1 (by show w.heap.size+1<wc.heap.size;omega)
   ·rw [hzs]
    rcases hj with e|e
    ·have hl:=hlt6 j e
     rcases hmu6 j e with (h3|h3|h3|h3)|h3
     ·exact .inl ⟨by have h9:j=wc.heap.size:=h3;omega,hl⟩
     ·exact .inr h3
     ·simp [ob] at h3
     ·simp [ob] at h3
     ·exact .inl ⟨by have:=HYS.out;omega,hl⟩
    ·exact .inl ⟨by have h9: ¬ j<wc.heap.size:=e.1;omega,e.2⟩
  ·have h1:Kx (fun j=>ob av ≠ some j) w w6:=⟨HS6.out.kx.os.trans HBY.out.os,HS6.out.kx.tape.trans HBY.out.tape,HS6.out.kx.output.trans HBY.out.output,Nat.le_trans HBY.out.size HS6.out.kx.size,fun j hj hn=>(HS6.out.kx.block j (Nat.lt_of_lt_of_le hj HBY.out.size) (HNM.out j (.inl ⟨hj,hn⟩)).2).trans (HBY.out.block j hj)⟩
   rw [←hZ]
   exact ((((h1.set (.inl (Nat.le_succ _)) _).set (.inl (Nat.le_succ _)) _).set (.inl (Nat.le_succ _)) _).set (.inl (Nat.le_succ _)) _).set (.inl (Nat.le_succ _)) _
end Go.Proofs.YtcdcoiobpbdmpaaGreatDoor
