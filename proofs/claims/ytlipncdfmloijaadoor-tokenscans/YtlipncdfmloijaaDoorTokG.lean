/- Contracts: is it a name; that the package has begun. -/
import Derived.Test.YtlipncdfmloijaaDoorTokF
import Derived.Deep.RegionWith
namespace Go.Proofs.YtlipncdfmloijaaDoor
open Go.RowKit

/-- Is it a name? -/
def Tk.isN (l : List UInt8) : Bool := decide (0 < l.length) && decide (l.length ≤ 12) && Tk.isL (l.headD 0) && decide (Tk.run l = l.length) && !Tk.isW l

theorem head_at (s : ByteArray) (h0 : 0 < s.size) : s[0] = s.data.toList.headD 0 := by
  have h1 := drop_at s 0 h0
  rw [List.drop_zero] at h1
  rw [h1]; rfl

set_option maxHeartbeats 1000000 in
theorem name_any (s : ByteArray) (w : World) (hw : WTab w) (hs : s.size ≤ 1099511627776) :
    Calls Tryd.prog 30 #[.string s] w fun e w' => e = .returned (.bool (Tk.isN s.data.toList)) ∧ w' = w := by
  have hz := Lib.size_eq s
  by_cases h0 : s.size = 0
  · have hE : Tk.isN s.data.toList = false := by unfold Tk.isN; rw [← hz, h0]; rfl
    have hse : s = ⟨#[]⟩ := by
      apply ByteArray.ext
      exact Array.eq_empty_of_size_eq_zero h0
    have HE := hide hE
    have HS := hide hse
    clear hE hz hw
    have q2 : s.toList = [] := by rw [Lib.toList_data, hse]
    have q1 : s.toList.isEmpty = true := by rw [q2]; rfl
    clear hse
    go_enter Tryd.func30, Tryd.ntmps30
    go_wp2
    all_goals
      go_ret
      rw [HE.out]
      exact ⟨rfl, rfl⟩
  · have hp : 0 < s.size := by omega
    have q2 : ¬ s.toList = [] := by
      rw [Lib.toList_data]
      intro h1
      rw [h1] at hz
      exact h0 hz
    have q1 : s.toList.isEmpty = false := by simpa using q2
    by_cases h12 : 12 < s.size
    · have hE : Tk.isN s.data.toList = false := by
        unfold Tk.isN
        rw [← hz, show decide (s.size ≤ 12) = false from by simp; omega]
        simp
      have HE := hide hE
      clear hE hz hw
      have d1 : decide ((12 : Int) < (s.size : Int)) = true := by simp; omega
      go_enter Tryd.func30, Tryd.ntmps30
      go_wp2
      all_goals
        go_ret
        rw [HE.out]
        exact ⟨rfl, rfl⟩
    · have d1 : decide ((12 : Int) < (s.size : Int)) = false := by simp; omega
      have hh := head_at s hp
      have HL := hide (fun w => isLetter_any s[0] w)
      have HR := hide (fun w => runEnd_any s 0 w hs (Nat.zero_le _))
      have HW := hide (fun w hw => word_any s w hw)
      have HT := hide hw
      have hE : Tk.isN s.data.toList = (Tk.isL s[0] && decide (Tk.run s.data.toList = s.size) && !Tk.isW s.data.toList) := by
        unfold Tk.isN
        rw [← hz, hh, show decide (0 < s.size) = true from by simp; omega, show decide (s.size ≤ 12) = true from by simp; omega]
        simp
      have HE := hide hE
      clear hE hz hw hh h0
      cases hL : Tk.isL s[0]
      · go_enter Tryd.func30, Tryd.ntmps30
        go_wp2_with (first | (go_at_call 49; refine (HL.out _).mono ?_; rintro e w' ⟨rfl, hw⟩; subst hw))
        go_ret
        rw [HE.out, hL]
        exact ⟨rfl, rfl⟩
      · cases hr : decide (Tk.run s.data.toList = s.size)
        · have q2 : ((Tk.run s.data.toList : Int) == (s.size : Int)) = false := by simp at hr ⊢; omega
          go_enter Tryd.func30, Tryd.ntmps30
          go_wp2_with (first | (go_at_call 49; refine (HL.out _).mono ?_; rintro e w' ⟨rfl, hw⟩; subst hw) | (go_at_call 50; refine (HR.out _).mono ?_; rintro e w' ⟨rfl, hw⟩; subst hw) | (go_at_call 28; refine (HW.out _ HT.out).mono ?_; rintro e w' ⟨rfl, hw⟩; subst hw))
          go_ret
          rw [HE.out, hL, hr]
          exact ⟨rfl, rfl⟩
        · have q2 : ((Tk.run s.data.toList : Int) == (s.size : Int)) = true := by simp at hr ⊢; omega
          cases hWd : Tk.isW s.data.toList
          · go_enter Tryd.func30, Tryd.ntmps30
            go_wp2_with (first | (go_at_call 49; refine (HL.out _).mono ?_; rintro e w' ⟨rfl, hw⟩; subst hw) | (go_at_call 50; refine (HR.out _).mono ?_; rintro e w' ⟨rfl, hw⟩; subst hw) | (go_at_call 28; refine (HW.out _ HT.out).mono ?_; rintro e w' ⟨rfl, hw⟩; subst hw))
            go_ret
            rw [HE.out, hL, hr, hWd]
            exact ⟨rfl, rfl⟩
          · go_enter Tryd.func30, Tryd.ntmps30
            go_wp2_with (first | (go_at_call 49; refine (HL.out _).mono ?_; rintro e w' ⟨rfl, hw⟩; subst hw) | (go_at_call 50; refine (HR.out _).mono ?_; rintro e w' ⟨rfl, hw⟩; subst hw) | (go_at_call 28; refine (HW.out _ HT.out).mono ?_; rintro e w' ⟨rfl, hw⟩; subst hw))
            go_ret
            rw [HE.out, hL, hr, hWd]
            exact ⟨rfl, rfl⟩

/-- The cells of a row of tokens. -/
theorem tcells_at (l : List Tk.Tok) (i : Nat) (x : Tk.Tok) (h : l[i]? = some x) : (tcells l)[i * 4]? = some (.int .i64 x.kind) ∧ (tcells l)[i * 4 + 1]? = some (.int .i64 (x.at' : Int)) ∧ (tcells l)[i * 4 + 2]? = some (.string (bs x.text)) ∧ (tcells l)[i * 4 + 3]? = some (.int .i64 x.n) := by
  induction l generalizing i with
  | nil => simp at h
  | cons y r ih =>
    match i with
    | 0 => simp at h; subst h; simp [tcells]
    | i + 1 =>
      have := ih i (by simpa using h)
      rw [show (i + 1) * 4 = i * 4 + 1 + 1 + 1 + 1 from by omega]
      simpa [tcells] using this
/-- A row of tokens lies at a place. -/
def TAt (w : World) (b : Nat) (l : List Tk.Tok) : Prop :=
  ∀ i x, l[i]? = some x → w.cell? ⟨b, i * 4, none⟩ = some (.int .i64 x.kind) ∧ w.cell? ⟨b, i * 4 + 1, none⟩ = some (.int .i64 (x.at' : Int)) ∧ w.cell? ⟨b, i * 4 + 2, none⟩ = some (.string (bs x.text)) ∧ w.cell? ⟨b, i * 4 + 3, none⟩ = some (.int .i64 x.n)
theorem TAt.below {w w' : World} {b : Nat} {l : List Tk.Tok} (h : TAt w b l) {B : Nat} (hb : Below B w w') (hlt : b < B) : TAt w' b l := fun i x hx => by
  obtain ⟨h0, h1, h2, h3⟩ := h i x hx
  exact ⟨(hb.cell (p := ⟨b, i * 4, none⟩) hlt).trans h0, (hb.cell (p := ⟨b, i * 4 + 1, none⟩) hlt).trans h1, (hb.cell (p := ⟨b, i * 4 + 2, none⟩) hlt).trans h2, (hb.cell (p := ⟨b, i * 4 + 3, none⟩) hlt).trans h3⟩
/-- What an owned row of tokens gives. -/
theorem own_tat {w : World} {B : Nat} {v : Value} {l : List Tk.Tok} (h : w.ownsRow B 47 4 v l.length (tcells l)) (hp : 0 < l.length) :
    ∃ g cap, v = .slice (some ⟨g, 0, none⟩) l.length cap ∧ B ≤ g ∧ g < w.heap.size ∧ l.length ≤ cap ∧ cap ≤ maxLen ∧ TAt w g l := by
  rcases h.2 with ⟨_, h0⟩ | ⟨g, cap, cur, hv, hb, hg, hnc, hcm, _, _⟩
  · omega
  · refine ⟨g, cap, hv, hb, (h.lt g (by rw [hv]; rfl)).2, hnc, hcm, fun i x hi => ?_⟩
    obtain ⟨k0, k1, k2, k3⟩ := tcells_at l i x hi
    have h0 := h.cells (g := g) (by rw [hv]; rfl) (i * 4) _ k0
    have h1 := h.cells (g := g) (by rw [hv]; rfl) (i * 4 + 1) _ k1
    have h2 := h.cells (g := g) (by rw [hv]; rfl) (i * 4 + 2) _ k2
    have h3 := h.cells (g := g) (by rw [hv]; rfl) (i * 4 + 3) _ k3
    rw [Addr.add_mid, Nat.zero_add] at h0 h1 h2 h3
    exact ⟨h0, h1, h2, h3⟩

def begunL : List UInt8 := [108, 101, 116, 32, 120, 49, 61, 49, 48, 35, 97, 10, 59]
theorem begun_scan : Tk.scan begunL = ([⟨1, 0, [108, 101, 116], 0⟩, ⟨2, 4, [120, 49], 0⟩, ⟨4, 6, [61], 0⟩, ⟨3, 7, [49, 48], 10⟩, ⟨4, 12, [59], 0⟩], 0, 0) := by kernel_rfl
theorem begun_word : Tk.isW [108, 101, 116] = true := by decide +kernel
theorem begun_name : Tk.isN [108, 101, 116] = false := by decide +kernel

theorem begun_call (w : World) (hw : WTab w) : Calls Tryd.prog 25 #[.string (bs begunL)] w fun e w' => ∃ g cap, e = .returned (.tuple #[.slice (some ⟨g, 0, none⟩) 5 cap, .agg #[.int .i64 0, .int .i64 0]]) ∧ w'.cell? ⟨g, 15, none⟩ = some (.int .i64 10) ∧ w'.cell? ⟨g, 17, none⟩ = some (.int .i64 12) ∧ g < w'.heap.size ∧ Below w.heap.size w w' := by
  have hS := scan_in (bs begunL) w hw (by decide)
  have e0 : (bs begunL).data.toList = begunL := rfl
  rw [e0, begun_scan] at hS
  refine hS.mono ?_
  rintro e w' ⟨v, rfl, hown, hb⟩
  obtain ⟨g, cap, rfl, _, hg, _, _, hT⟩ := own_tat hown (by decide)
  exact ⟨g, cap, rfl, (hT 3 _ rfl).2.2.2, (hT 4 _ rfl).2.1, hg, hb⟩

set_option maxHeartbeats 1000000 in
theorem begun_any (w : World) (hw : WTab w) : Calls Tryd.prog 24 #[] w fun e w' => e = .returned (.bool true) ∧ Below w.heap.size w w' := by
  have hWd := fun w hw => word_any (bs [108, 101, 116]) w hw
  have e1 : (bs [108, 101, 116]).data.toList = [108, 101, 116] := rfl
  rw [e1, begun_word] at hWd
  have hNm := fun w hw => name_any (bs [108, 101, 116]) w hw (by decide)
  rw [e1, begun_name] at hNm
  have HWd := hide hWd
  have HNm := hide hNm
  have HW := hide hw
  clear hWd hNm hw e1
  go_enter Tryd.func24, Tryd.ntmps24
  go_wp2_with fail
  refine (begun_call _ (by first | exact HW.out | exact HW.out.below ((Below.refl _ w).alloc (Nat.le_refl _) _))).mono ?_
  rintro e w1 ⟨g, cap, rfl, c3, c4, hg, hb⟩
  have hW1 := hide (HW.out.below hb)
  have HB := hide hb
  clear hb
  go_wp2_with (first | (go_at_call 28; refine (HWd.out _ (hW1.out.below (by first | exact Below.refl _ _ | exact (Below.refl _ _).alloc (Nat.le_refl _) _))).mono ?_; rintro e w' ⟨rfl, hw⟩; subst hw) | (go_at_call 30; refine (HNm.out _ (hW1.out.below (by first | exact Below.refl _ _ | exact (Below.refl _ _).alloc (Nat.le_refl _) _))).mono ?_; rintro e w' ⟨rfl, hw⟩; subst hw))
  go_ret
  exact ⟨rfl, HB.out.alloc HB.out.size _⟩
end Go.Proofs.YtlipncdfmloijaaDoor
