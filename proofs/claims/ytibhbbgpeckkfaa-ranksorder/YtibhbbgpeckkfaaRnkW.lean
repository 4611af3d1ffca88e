import Derived.Test.YtibhbbgpeckkfaaRnkT
import Derived.Test.YtibhbbgpeckkfaaRnkV
import Derived.Shelf.Slices.Cells
/- The way back to the node that a search began with. -/
namespace Go.Proofs.Ytibhbbgpeckkfaa
open Go.Shelf Go.RowKit

def revRen : Go.Shelf.Ren := ⟨fun | 112 => 47 | n => n, fun | 28 => 27 | n => n, fun | n => n⟩
theorem revLays : Go.Proofs.Lays.n112 Try.prog revRen := {
  mixed := by kernel_rfl
  f112 := Try.func47.trans (congrArg some (by kernel_rfl))
  t0 := Try.underlying0
  a0 := Try.isAgg0
  z0 := Try.sizeOf0
  v0 := Try.zeroValue0
  t3 := Try.underlying3
  a3 := Try.isAgg3
  z3 := Try.sizeOf3
  v3 := Try.zeroValue3
  t4 := Try.underlying4
  a4 := Try.isAgg4
  z4 := Try.sizeOf4
  v4 := Try.zeroValue4
  t28 := Try.underlying27
  a28 := Try.isAgg27
  z28 := Try.sizeOf27
  v28 := Try.zeroValue27 }
theorem bset {B : Nat} {a : World} (b : Nat) (hb : B ≤ b) : ∀ (vs : List Value) (o : Nat) (w : World), Below B a w → Below B a (w.setCells b o vs)
  | [], _, _, h => h
  | v :: vs, o, w, h => bset b hb vs (o + 1) _ (h.setCell (by simpa using hb) v)
theorem reverse_any (B g cap : Nat) (l : List Int) (w0 w : World) (hB : B ≤ g) (hb : Below B w0 w) (hc : ∀ (k : Nat) x, l[k]? = some x → w.cell? ⟨g, k, none⟩ = some (.int .i64 x)) (hf : ∀ k, w.frozen? ⟨g, k, none⟩ = false) (hn : l.length ≤ 1000000) :
    Calls Try.prog 47 #[.slice (some ⟨g, 0, none⟩) l.length cap] w fun e w' => e = .returned (.tuple #[]) ∧ (∀ (k : Nat) x, l.reverse[k]? = some x → w'.cell? ⟨g, k, none⟩ = some (.int .i64 x)) ∧ Below B w0 w' := by
  have hget : ∀ j, j < l.length → w.cell? ⟨g, 0 + j, none⟩ = some (.int .i64 (l.getD j 0)) := fun j hj => by
    rw [Nat.zero_add]
    exact hc j _ (by rw [List.getElem?_eq_getElem hj, List.getD_eq_getElem?_getD, List.getElem?_eq_getElem hj]; rfl)
  have h := Any.slices_Reverse_int_cells revLays g 0 l.length cap l w (Nat.le_refl _) (by omega) hget (fun j _ => by rw [Nat.zero_add]; exact hf j)
  rw [List.take_length] at h
  refine h.mono ?_
  rintro e w' ⟨rfl, q, rfl⟩
  refine ⟨rfl, fun k x hx => ?_, bset g hB _ _ _ (below_drewN hb q)⟩
  have hk : k < l.reverse.length := (List.getElem?_eq_some_iff.1 hx).1
  have := World.cell?_setCells_in g (l.reverse.map (Value.int .i64)) 0 (w.drewN q) (fun j hj => by
    have hj' : j < l.length := by simpa using hj
    have := hget j hj'
    have e : (w.drewN q).cell? ⟨g, 0 + j, none⟩ = w.cell? ⟨g, 0 + j, none⟩ := rfl
    rw [e, this]; rfl) k (by simpa using hk)
  rw [Nat.zero_add] at this
  rw [this]
  have hx' := (List.getElem?_eq_some_iff.1 hx).2
  simp only [List.getElem_map, hx']

/-- Each has the next one ahead of it, the last one none. -/
def Bk (ah : List Int) : List Nat → Prop
  | [] => True
  | [x] => ah[x]? = some (-1)
  | x :: y :: r => ah[x]? = some (y : Int) ∧ Bk ah (y :: r)
def hd (l : List Nat) : Int := match l with | [] => -1 | x :: _ => (x : Int)
theorem Bk.at {ah : List Int} {x : Nat} {r : List Nat} (h : Bk ah (x :: r)) : ah[x]? = some (hd r) := by
  cases r with
  | nil => exact h
  | cons y r => exact h.1
theorem Bk.rest {ah : List Int} {x : Nat} {r : List Nat} (h : Bk ah (x :: r)) : Bk ah r := by
  cases r with
  | nil => trivial
  | cons y r => exact h.2
def slLen (v : Value) : Nat := match v with | .slice _ n _ => n | _ => 0
theorem own_form {w : World} {B : Nat} {v : Value} {l : List Nat} (h : w.ownsRow B 3 1 v l.length (ints (up l))) (hp : 0 < l.length) : ∃ g cap, v = .slice (some ⟨g, 0, none⟩) l.length cap ∧ B ≤ g ∧ (∀ (k : Nat) x, (up l)[k]? = some x → w.cell? ⟨g, k, none⟩ = some (.int .i64 x)) ∧ ∀ k, w.frozen? ⟨g, k, none⟩ = false := by
  obtain ⟨g, cap, hv, hb, -⟩ := h.form hp
  refine ⟨g, cap, hv, hb, fun k x hx => ?_, fun k => ?_⟩
  · have := h.cells (g := g) (by rw [hv]; rfl) k (.int .i64 x) (by simp [ints, hx])
    rw [add_off] at this
    exact this
  · rcases h.2 with ⟨hv2, -⟩ | ⟨g2, cap2, cur2, hv2, -, hg2, -⟩
    · rw [hv] at hv2; cases hv2
    · rw [hv] at hv2
      simp at hv2
      obtain ⟨rfl, -⟩ := hv2
      simp [World.frozen?, hg2]
theorem own_first (w : World) (x : Value) : (w.alloc (.cells #[x] 3)).ownsRow w.heap.size 3 1 (.slice (some ⟨w.heap.size, 0, none⟩) 1 1) 1 [x] :=
  ⟨by simp, .inr ⟨w.heap.size, 1, #[x], rfl, Nat.le_refl _, heap_alloc_new w _, Nat.le_refl _, by simp [maxLen], by simp, by simp⟩⟩

set_option maxRecDepth 100000 in
set_option maxHeartbeats 400000 in
theorem wayTo_any (ga n u : Nat) (ah : List Int) (p t : List Nat) (w : World) (hp : p.reverse = u :: t) (hB : Bk ah (u :: t)) (ha : AR ga w ah) (hn : ah.length = n) (hl : p.length ≤ 1000) :
    Calls Try.prog 34 #[.slice (some ⟨ga, 0, none⟩) n n, .int .i64 u] w fun e w' => ∃ g cap, e = .returned (.slice (some ⟨g, 0, none⟩) p.length cap) ∧ w.heap.size ≤ g ∧ IR w' (.slice (some ⟨g, 0, none⟩) p.length cap) (up p) ∧ Below w.heap.size w w' := by
  obtain ⟨i0, hi, hz0, hz1, hz2⟩ := info_parts Try.info3
  have hlen : p.length = t.length + 1 := by
    have := congrArg List.length hp
    simpa using this
  have HA := hide ha
  have HP := hide hp
  have HBk := hide hB
  have HN := hide hn
  have HLn := hide hlen
  have hbase : w.heap.size ≤ w.heap.size := Nat.le_refl _
  clear hp hB ha hn hlen
  go_enter Try.func34, Try.ntmps34
  go_wp2
  go_loopw [5, 6] (fun v iv wr => ∃ (W rest : List Nat), iv = .int .i64 (hd rest) ∧ W.length + rest.length = p.length ∧ Hid (W ++ rest = u :: t) ∧ Hid (Bk ah rest) ∧ Hid (wr.ownsRow w.heap.size 3 1 v W.length (ints (up W))) ∧ Hid (Below w.heap.size w wr)) (fun v _ _ => p.length - slLen v)
  case atStart => exact ⟨[], u :: t, rfl, by simp; exact HLn.out.symm, hide rfl, HBk, hide (World.ownsRow_nil _ _ _ _), hide (Below.refl _ _)⟩
  case round =>
    obtain ⟨W, rest, rfl, hlw, HW, HR, HO, HB⟩ := hrel
    obtain ⟨av, cv, rfl⟩ := own_slice HO.out
    have hs := HB.out.size
    cases rest with
    | nil =>
      have hlw' : W.length = p.length := by simpa using hlw
      have HWp : Hid (W = p.reverse) := hide (by have := HW.out; rw [List.append_nil] at this; rw [this, HP.out])
      obtain ⟨g, cap, hv, hgB, hc, hf⟩ := own_form HO.out (by rw [hlw']; rw [HLn.out]; omega)
      simp at hv
      obtain ⟨rfl, rfl⟩ := hv
      have CR := hide (reverse_any w.heap.size g cv (up W) w wr hgB HB.out hc hf (by rw [up_len]; omega))
      rw [up_len] at CR
      have e0 : hd [] = -1 := rfl
      rw [e0]
      have HHB := hide hgB
      have HLW := hide hlw'
      clear hc hf HO hlw e0 hbase hgB HW HR HBk HP HLn hlw'
      go_wp2_with fail
      refine CR.out.mono ?_
      rintro e w3 ⟨rfl, hc3, hb3⟩
      have HC3 := hide hc3
      clear hc3 CR
      go_wp2
      go_ret
      refine ⟨g, cv, by rw [← HLW.out]; rfl, HHB.out, ⟨some ⟨g, 0, none⟩, cv, by rw [up_len], fun _ => ⟨g, 0, rfl, fun k x hx => ?_⟩⟩, hb3⟩
      rw [Nat.zero_add]
      refine HC3.out k x ?_
      have : (up W).reverse = up p := by rw [HWp.out]; simp [up]
      rw [this]
      exact hx
    | cons x r =>
      have hx := HR.out.at
      have hxn : x < n := by rw [← HN.out]; exact (List.getElem?_eq_some_iff.1 hx).1
      have HX := hide hx
      have HR2 := hide HR.out.rest
      have HW2 : Hid ((W ++ [x]) ++ r = u :: t) := hide (by rw [← HW.out]; simp)
      have e0 : hd (x :: r) = (x : Int) := rfl
      have d0 : ((x : Int) != -1) = true := by simp
      have hlr : W.length + r.length + 1 = p.length := by simp at hlw; omega
      rw [e0]
      generalize hhq : hd r = q at *
      have HHQ := hide hhq
      have hWl : W.length ≤ 1000 := by omega
      have HLR := hide hlr
      clear hx e0 HR HW HP HBk HLn hlw hlr hhq
      have p0 : (0 : Int) ≤ (x : Int) := by omega
      have p1 : (x : Int) < (n : Int) := by omega
      go_wp2_with (at_builtin; refine wpList_append_lies _ rfl _ _ 27 rfl w.heap.size 3 i0 (.int .i64 0) 1 8 Try.underlying27 hi hz0 hz1 hz2 rfl (by decide) _ _ _ rfl (HO.out.alloc _) ⟨wr.heap.size, 0, none⟩ 1 1 [.int .i64 (x : Int)] rfl rfl ?c1 ?c2 ?c3 ?c4 ?c5 ?c6 _ rfl ?_)
      case c1 => exact cell_one_new _ _ _
      case c2 => intro u hu; simp at hu; subst hu; rfl
      case c3 => decide
      case c4 => unfold maxLen; omega
      case c5 => omega
      case c6 => simp; omega
      intro gn cap w3 hown hgrow hat hlt2
      have HB3 : Hid (Below w.heap.size w w3) := hide ((HB.out.alloc hs _).grown hgrow (by simp; omega) (fun j hj => (HO.out.lt j hj).1))
      have HO3 : Hid (w3.ownsRow w.heap.size 3 1 (.slice (some ⟨gn, 0, none⟩) (W.length + 1) cap) (W ++ [x]).length (ints (up (W ++ [x])))) := by
        rw [up_app, ints_app, List.length_append]
        exact hown
      have c3 : w3.cell? ⟨ga, x, none⟩ = some (.int .i64 q) := bsome HB3.out (HA.out.cell x q (by rw [HX.out]))
      clear hown hgrow hat HO HB
      go_wp2
      go_roundw
      case rel => exact ⟨W ++ [x], r, by rw [HHQ.out], by simp; have := HLR.out; omega, HW2, HR2, HO3, HB3⟩
      case measure => have := HLR.out; simp [slLen]; omega
end Go.Proofs.Ytibhbbgpeckkfaa
