import Derived.Shelf.Slices.Cells
import Derived.Test.YtfngmdebmedkjaePthK
/- The library's Reverse as it lies in this program. -/
namespace Go.Proofs.Ytfngmdebmedkjae
open Go.Shelf Go.RowKit
def revRen : Go.Shelf.Ren := ⟨fun | 112 => 16 | n => n, fun | 28 => 30 | n => n, fun | n => n⟩
theorem revLays : Go.Proofs.Lays.n112 Try.prog revRen := {
  mixed := by kernel_rfl
  f112 := Try.func16.trans (congrArg some (by kernel_rfl))
  t0 := Try.underlying0
  a0 := Try.isAgg0
  z0 := Try.sizeOf0
  v0 := Try.zeroValue0
  t3 := Try.underlying3
  a3 := Try.isAgg3
  z3 := Try.sizeOf3
  v3 := Try.zeroValue3
  t4 := Try.underlying4
  a4 := Try.isAgg4
  z4 := Try.sizeOf4
  v4 := Try.zeroValue4
  t28 := Try.underlying30
  a28 := Try.isAgg30
  z28 := Try.sizeOf30
  v28 := Try.zeroValue30 }
theorem bset {B : Nat} {a : World} (b : Nat) (hb : B ≤ b) : ∀ (vs : List Value) (o : Nat) (w : World), Below B a w → Below B a (w.setCells b o vs)
  | [], _, _, h => h
  | v :: vs, o, w, h => bset b hb vs (o + 1) _ (h.setCell (by simpa using hb) v)
theorem reverse_any (B g cap : Nat) (l : List Int) (w0 w : World) (hB : B ≤ g) (hb : Below B w0 w) (hc : ∀ (k : Nat) x, l[k]? = some x → w.cell? ⟨g, k, none⟩ = some (.int .i64 x)) (hf : ∀ k, w.frozen? ⟨g, k, none⟩ = false) (hn : l.length ≤ 1000000) :
    Calls Try.prog 16 #[.slice (some ⟨g, 0, none⟩) l.length cap] w fun e w' => e = .returned (.tuple #[]) ∧ (∀ (k : Nat) x, l.reverse[k]? = some x → w'.cell? ⟨g, k, none⟩ = some (.int .i64 x)) ∧ Below B w0 w' := by
  have hget : ∀ j, j < l.length → w.cell? ⟨g, 0 + j, none⟩ = some (.int .i64 (l.getD j 0)) := fun j hj => by
    rw [Nat.zero_add]
    exact hc j _ (by rw [List.getElem?_eq_getElem hj, List.getD_eq_getElem?_getD, List.getElem?_eq_getElem hj]; rfl)
  have h := Any.slices_Reverse_int_cells revLays g 0 l.length cap l w (Nat.le_refl _) (by omega) hget (fun j _ => by rw [Nat.zero_add]; exact hf j)
  rw [List.take_length] at h
  refine h.mono ?_
  rintro e w' ⟨rfl, q, rfl⟩
  refine ⟨rfl, fun k x hx => ?_, bset g hB _ _ _ (below_drewN hb q)⟩
  have hk : k < l.reverse.length := (List.getElem?_eq_some_iff.1 hx).1
  have := World.cell?_setCells_in g (l.reverse.map (Value.int .i64)) 0 (w.drewN q) (fun j hj => by
    have hj' : j < l.length := by simpa using hj
    have := hget j hj'
    have e : (w.drewN q).cell? ⟨g, 0 + j, none⟩ = w.cell? ⟨g, 0 + j, none⟩ := rfl
    rw [e, this]; rfl) k (by simpa using hk)
  rw [Nat.zero_add] at this
  rw [this]
  have hx' := (List.getElem?_eq_some_iff.1 hx).2
  simp only [List.getElem_map, hx']
end Go.Proofs.Ytfngmdebmedkjae
