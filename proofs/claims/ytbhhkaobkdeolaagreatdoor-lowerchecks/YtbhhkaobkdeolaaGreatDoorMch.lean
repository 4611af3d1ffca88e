import Derived.Test.YtbhhkaobkdeolaaGreatDoorMcg
import Derived.Test.YtbhhkaobkdeolaaGreatDoorMcd
import Derived.Deep.Cut
namespace Go.Proofs.YtbhhkaobkdeolaaGreatDoor
open Go.RowKit
theorem rIsTy_any (t:ByteArray) (ends:Int) (w:World) (hn:t.size≤1000):Calls Tryz.prog 24 #[.string t,.int .i64 ends] w fun e w'=>e= .returned (.bool (Rn.isT t.data.toList ends))∧w'=w:=by
 have h:=rIsType_any t.data.toList ends w (by
  have:t.data.toList.length=t.size:=by simp
  omega)
 have e:bs t.data.toList=t:=by simp [bs]
 rw [e] at h
 exact h
theorem b_three (w:World) (o1 o2 o3:Obj):Below w.heap.size w (((w.alloc o1).alloc o2).alloc o3):=(((Below.refl _ _).alloc (Nat.le_refl _) _).alloc (by simp) _).alloc (by simp;omega) _
structure RX (w:World) (l:List Cd.Pr) (m:Int) (g o uc:Nat) (q:PV) (p:Cd.Pr) (x:Cd.In) (ae:Option Addr) (ce:Nat) (aa:Option Addr) (ca:Nat) (b:Nat):Prop where
 k0:w.cell? ⟨b,0,none⟩=some (.slice (some ⟨g,o,none⟩) l.length uc)
 k1:w.cell? ⟨b,1,none⟩=some (.int .i64 m)
 ic:IC w (b+1) 0 x ae ce aa ca
 p0:w.cell? ⟨b+1+1,0,none⟩=some (.string p.name)
 p1:w.cell? ⟨b+1+1,1,none⟩=some (.slice q.av p.vars.length q.cv)
 p2:w.cell? ⟨b+1+1,2,none⟩=some (.int .i64 p.params)
 p3:w.cell? ⟨b+1+1,3,none⟩=some (.slice q.ab p.blocks.length q.cb)
 p4:w.cell? ⟨b+1+1,4,none⟩=some (.slice q.ai p.ins.length q.ci)
theorem RX.keep {w w':World} {l:List Cd.Pr} {m:Int} {g o uc:Nat} {q:PV} {p:Cd.Pr} {x:Cd.In} {ae:Option Addr} {ce:Nat} {aa:Option Addr} {ca b:Nat} (h:RX w l m g o uc q p x ae ce aa ca b) (hb:Below w.heap.size w w'):RX w' l m g o uc q p x ae ce aa ca b:=
 ⟨bsome hb h.k0,bsome hb h.k1,h.ic.keep hb,bsome hb h.p0,bsome hb h.p1,bsome hb h.p2,bsome hb h.p3,bsome hb h.p4⟩
theorem RX.new (w:World) (l:List Cd.Pr) (m:Int) (g o uc:Nat) (q:PV) (p:Cd.Pr) (x:Cd.In) (ae:Option Addr) (ce:Nat) (aa:Option Addr) (ca:Nat) (h1:ER w (.slice ae x.e.length ce) x.e) (h2:AgR w (.slice aa x.args.length ca) x.args):RX (((w.alloc (.cells #[.slice (some ⟨g,o,none⟩) l.length uc,.int .i64 m] 24)).alloc (.cells (icl x ae ce aa ca) 47)).alloc (.cells (q.cells p) 43)) l m g o uc q p x ae ce aa ca w.heap.size:=by
 have hb1:=(Below.refl w.heap.size w).alloc (Nat.le_refl _) (.cells #[.slice (some ⟨g,o,none⟩) l.length uc,.int .i64 m] 24)
 have hb2:=(Below.refl (w.alloc (.cells #[.slice (some ⟨g,o,none⟩) l.length uc,.int .i64 m] 24)).heap.size (w.alloc (.cells #[.slice (some ⟨g,o,none⟩) l.length uc,.int .i64 m] 24))).alloc (Nat.le_refl _) (.cells (icl x ae ce aa ca) 47)
 have hb3:=(Below.refl ((w.alloc (.cells #[.slice (some ⟨g,o,none⟩) l.length uc,.int .i64 m] 24)).alloc (.cells (icl x ae ce aa ca) 47)).heap.size ((w.alloc (.cells #[.slice (some ⟨g,o,none⟩) l.length uc,.int .i64 m] 24)).alloc (.cells (icl x ae ce aa ca) 47))).alloc (Nat.le_refl _) (.cells (q.cells p) 43)
 have e1:(w.alloc (.cells #[.slice (some ⟨g,o,none⟩) l.length uc,.int .i64 m] 24)).heap.size=w.heap.size+1:=by simp
 have e2:((w.alloc (.cells #[.slice (some ⟨g,o,none⟩) l.length uc,.int .i64 m] 24)).alloc (.cells (icl x ae ce aa ca) 47)).heap.size=w.heap.size+1+1:=by simp
 have hc:=agg_two w (.slice (some ⟨g,o,none⟩) l.length uc) (.int .i64 m) 24
 have hi:=IC.new 47 (h1.keep hb1) (h2.keep hb1)
 rw [e1] at hi
 have hp:=cells_at ((w.alloc (.cells #[.slice (some ⟨g,o,none⟩) l.length uc,.int .i64 m] 24)).alloc (.cells (icl x ae ce aa ca) 47)) q p 43
 rw [e2] at hp
 exact ⟨bsome (btrans hb2 hb3) hc.1,bsome (btrans hb2 hb3) hc.2,hi.keep hb3,hp 0 _ rfl,hp 1 _ rfl,hp 2 _ rfl,hp 3 _ rfl,hp 4 _ rfl⟩
end Go.Proofs.YtbhhkaobkdeolaaGreatDoor
