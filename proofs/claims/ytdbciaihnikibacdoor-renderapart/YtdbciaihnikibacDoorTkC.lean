import Derived.Test.YtdbciaihnikibacDoorTkB
import Derived.Deep.QuietTactic
import Derived.BigQuiet
import Derived.Deep.RegionWith
/- Contract: the tokens of a text. -/
namespace Go.Proofs.YtdbciaihnikibacDoor
open Go.RowKit
/-- The cells of a row of tokens. -/
def tcells : List Tk.Tok → List Value
  | [] => []
  | x :: r => .int .i64 x.kind :: .int .i64 (x.at' : Int) :: .string (bs x.text) :: .int .i64 x.n :: tcells r
theorem tcells_len (l : List Tk.Tok) : (tcells l).length = l.length * 4 := by
  induction l with
  | nil => rfl
  | cons x r ih => simp only [tcells, List.length_cons, ih]; omega
theorem tcells_app (a b : List Tk.Tok) : tcells (a ++ b) = tcells a ++ tcells b := by
  induction a with
  | nil => rfl
  | cons x r ih => simp [tcells, ih]

/-- What Scan tells. -/
def scanV (v : Value) (r : List Tk.Tok × Int × Int) : Value := .tuple #[v, .agg #[.int .i64 r.2.1, .int .i64 r.2.2]]

/-- The result's own variable of a fault, as it was laid. -/
structure FltAt (w : World) (b : Nat) : Prop where
  c0 : w.cell? ⟨b, 0, none⟩ = some (.int .i64 0)
  c1 : w.cell? ⟨b, 1, none⟩ = some (.int .i64 0)
  f0 : w.frozen? ⟨b, 0, none⟩ = false
  f1 : w.frozen? ⟨b, 1, none⟩ = false
theorem fltAt_of {w w4 : World} (hb : Below (w.heap.size + 1) (w.alloc (.cells #[.int .i64 0, .int .i64 0] 28)) w4) : FltAt w4 w.heap.size := by
  constructor
  · rw [hb.cell (p := ⟨w.heap.size, 0, none⟩) (by show w.heap.size < _; omega)]; simp [go_sem]
  · rw [hb.cell (p := ⟨w.heap.size, 1, none⟩) (by show w.heap.size < _; omega)]; simp [go_sem]
  · rw [hb.frozen (p := ⟨w.heap.size, 0, none⟩) (by show w.heap.size < _; omega)]; simp [go_sem]
  · rw [hb.frozen (p := ⟨w.heap.size, 1, none⟩) (by show w.heap.size < _; omega)]; simp [go_sem]
theorem own_below {w w' : World} {B t z n : Nat} {v : Value} {xs : List Value} (h : w.ownsRow B t z v n xs) (hb : Below w.heap.size w w') : w'.ownsRow B t z v n xs := by
  refine ⟨h.1, h.2.imp id (fun ⟨g, cap, cur, hv, hB, hg, r⟩ => ⟨g, cap, cur, hv, hB, ?_, r⟩)⟩
  rw [hb.block g (by
    rcases Nat.lt_or_ge g w.heap.size with h' | h'
    · exact h'
    · rw [Array.getElem?_eq_none h'] at hg; cases hg)]
  exact hg
theorem cells_four_new (w : World) (n : Nat) (hn : n = w.heap.size) (x y z u : Value) (t : TypeId) : ∀ (j : Nat) (v : Value), [x, y, z, u][j]? = some v → (w.alloc (.cells #[x, y, z, u] t)).cell? ((⟨n, 0, none⟩ : Addr).add j) = some v := by
  intro j v hj
  subst hn
  rw [Addr.add_mid]
  match j, hj with
  | 0, hj => simp at hj; subst hj; simp [go_sem]
  | 1, hj => simp at hj; subst hj; simp [go_sem]
  | 2, hj => simp at hj; subst hj; simp [go_sem]
  | 3, hj => simp at hj; subst hj; simp [go_sem]
theorem own_down {w : World} {B B' t z n : Nat} {v : Value} {xs : List Value} (h : w.ownsRow B t z v n xs) (hB : B' ≤ B) : w.ownsRow B' t z v n xs :=
  ⟨h.1, h.2.imp id (fun ⟨g, cap, cur, hv, hb, r⟩ => ⟨g, cap, cur, hv, Nat.le_trans hB hb, r⟩)⟩

end Go.Proofs.YtdbciaihnikibacDoor
/- Contracts: is it a name; that the package has begun. -/
namespace Go.Proofs.YtdbciaihnikibacDoor
open Go.RowKit

/-- Is it a name? -/
def Tk.isN (l : List UInt8) : Bool := decide (0 < l.length) && decide (l.length ≤ 12) && Tk.isL (l.headD 0) && decide (Tk.run l = l.length) && !Tk.isW l

theorem head_at (s : ByteArray) (h0 : 0 < s.size) : s[0] = s.data.toList.headD 0 := by
  have h1 := drop_at s 0 h0
  rw [List.drop_zero] at h1
  rw [h1]; rfl

set_option maxHeartbeats 1000000 in
theorem name_any (s : ByteArray) (w : World) (hw : WTab w) (hs : s.size ≤ 1099511627776) :
    Calls Tryd.prog 36 #[.string s] w fun e w' => e = .returned (.bool (Tk.isN s.data.toList)) ∧ w' = w := by
  have hz := Lib.size_eq s
  by_cases h0 : s.size = 0
  · have hE : Tk.isN s.data.toList = false := by unfold Tk.isN; rw [← hz, h0]; rfl
    have hse : s = ⟨#[]⟩ := by
      apply ByteArray.ext
      exact Array.eq_empty_of_size_eq_zero h0
    have HE := hide hE
    have HS := hide hse
    clear hE hz hw
    have q2 : s.toList = [] := by rw [Lib.toList_data, hse]
    have q1 : s.toList.isEmpty = true := by rw [q2]; rfl
    clear hse
    go_enter Tryd.func36, Tryd.ntmps36
    go_wp2
    all_goals
      go_ret
      rw [HE.out]
      exact ⟨rfl, rfl⟩
  · have hp : 0 < s.size := by omega
    have q2 : ¬ s.toList = [] := by
      rw [Lib.toList_data]
      intro h1
      rw [h1] at hz
      exact h0 hz
    have q1 : s.toList.isEmpty = false := by simpa using q2
    by_cases h12 : 12 < s.size
    · have hE : Tk.isN s.data.toList = false := by
        unfold Tk.isN
        rw [← hz, show decide (s.size ≤ 12) = false from by simp; omega]
        simp
      have HE := hide hE
      clear hE hz hw
      have d1 : decide ((12 : Int) < (s.size : Int)) = true := by simp; omega
      go_enter Tryd.func36, Tryd.ntmps36
      go_wp2
      all_goals
        go_ret
        rw [HE.out]
        exact ⟨rfl, rfl⟩
    · have d1 : decide ((12 : Int) < (s.size : Int)) = false := by simp; omega
      have hh := head_at s hp
      have HL := hide (fun w => isLetter_any s[0] w)
      have HR := hide (fun w => runEnd_any s 0 w hs (Nat.zero_le _))
      have HW := hide (fun w hw => word_any s w hw)
      have HT := hide hw
      have hE : Tk.isN s.data.toList = (Tk.isL s[0] && decide (Tk.run s.data.toList = s.size) && !Tk.isW s.data.toList) := by
        unfold Tk.isN
        rw [← hz, hh, show decide (0 < s.size) = true from by simp; omega, show decide (s.size ≤ 12) = true from by simp; omega]
        simp
      have HE := hide hE
      clear hE hz hw hh h0
      cases hL : Tk.isL s[0]
      · go_enter Tryd.func36, Tryd.ntmps36
        go_wp2_with (first | (go_at_call 48; refine (HL.out _).mono ?_; rintro e w' ⟨rfl, hw⟩; subst hw))
        go_ret
        rw [HE.out, hL]
        exact ⟨rfl, rfl⟩
      · cases hr : decide (Tk.run s.data.toList = s.size)
        · have q2 : ((Tk.run s.data.toList : Int) == (s.size : Int)) = false := by simp at hr ⊢; omega
          go_enter Tryd.func36, Tryd.ntmps36
          go_wp2_with (first | (go_at_call 48; refine (HL.out _).mono ?_; rintro e w' ⟨rfl, hw⟩; subst hw) | (go_at_call 49; refine (HR.out _).mono ?_; rintro e w' ⟨rfl, hw⟩; subst hw) | (go_at_call 50; refine (HW.out _ HT.out).mono ?_; rintro e w' ⟨rfl, hw⟩; subst hw))
          go_ret
          rw [HE.out, hL, hr]
          exact ⟨rfl, rfl⟩
        · have q2 : ((Tk.run s.data.toList : Int) == (s.size : Int)) = true := by simp at hr ⊢; omega
          cases hWd : Tk.isW s.data.toList
          · go_enter Tryd.func36, Tryd.ntmps36
            go_wp2_with (first | (go_at_call 48; refine (HL.out _).mono ?_; rintro e w' ⟨rfl, hw⟩; subst hw) | (go_at_call 49; refine (HR.out _).mono ?_; rintro e w' ⟨rfl, hw⟩; subst hw) | (go_at_call 50; refine (HW.out _ HT.out).mono ?_; rintro e w' ⟨rfl, hw⟩; subst hw))
            go_ret
            rw [HE.out, hL, hr, hWd]
            exact ⟨rfl, rfl⟩
          · go_enter Tryd.func36, Tryd.ntmps36
            go_wp2_with (first | (go_at_call 48; refine (HL.out _).mono ?_; rintro e w' ⟨rfl, hw⟩; subst hw) | (go_at_call 49; refine (HR.out _).mono ?_; rintro e w' ⟨rfl, hw⟩; subst hw) | (go_at_call 50; refine (HW.out _ HT.out).mono ?_; rintro e w' ⟨rfl, hw⟩; subst hw))
            go_ret
            rw [HE.out, hL, hr, hWd]
            exact ⟨rfl, rfl⟩

/-- The cells of a row of tokens. -/
theorem tcells_at (l : List Tk.Tok) (i : Nat) (x : Tk.Tok) (h : l[i]? = some x) : (tcells l)[i * 4]? = some (.int .i64 x.kind) ∧ (tcells l)[i * 4 + 1]? = some (.int .i64 (x.at' : Int)) ∧ (tcells l)[i * 4 + 2]? = some (.string (bs x.text)) ∧ (tcells l)[i * 4 + 3]? = some (.int .i64 x.n) := by
  induction l generalizing i with
  | nil => simp at h
  | cons y r ih =>
    match i with
    | 0 => simp at h; subst h; simp [tcells]
    | i + 1 =>
      have := ih i (by simpa using h)
      rw [show (i + 1) * 4 = i * 4 + 1 + 1 + 1 + 1 from by omega]
      simpa [tcells] using this
/-- A row of tokens lies at a place. -/
def TAt (w : World) (b : Nat) (l : List Tk.Tok) : Prop :=
  ∀ i x, l[i]? = some x → w.cell? ⟨b, i * 4, none⟩ = some (.int .i64 x.kind) ∧ w.cell? ⟨b, i * 4 + 1, none⟩ = some (.int .i64 (x.at' : Int)) ∧ w.cell? ⟨b, i * 4 + 2, none⟩ = some (.string (bs x.text)) ∧ w.cell? ⟨b, i * 4 + 3, none⟩ = some (.int .i64 x.n)
theorem TAt.below {w w' : World} {b : Nat} {l : List Tk.Tok} (h : TAt w b l) {B : Nat} (hb : Below B w w') (hlt : b < B) : TAt w' b l := fun i x hx => by
  obtain ⟨h0, h1, h2, h3⟩ := h i x hx
  exact ⟨(hb.cell (p := ⟨b, i * 4, none⟩) hlt).trans h0, (hb.cell (p := ⟨b, i * 4 + 1, none⟩) hlt).trans h1, (hb.cell (p := ⟨b, i * 4 + 2, none⟩) hlt).trans h2, (hb.cell (p := ⟨b, i * 4 + 3, none⟩) hlt).trans h3⟩
end Go.Proofs.YtdbciaihnikibacDoor
