import Derived.Test.YtdnlnpdaplonfabDoorSynBe
import Derived.Test.YtdnlnpdaplonfabDoorSynSt
import Derived.Test.YtdnlnpdaplonfabDoorPlB
import Derived.Test.YtdnlnpdaplonfabDoorSnM
import Derived.Test.YtdnlnpdaplonfabDoorRkC
import Derived.Test.YtdnlnpdaplonfabDoorPlA
/- The law SyntaxStops: it answers true. -/
namespace Go.Proofs.YtdnlnpdaplonfabDoor
open Go.RowKit

theorem sbegun (w : World) (hw : WTab w) : Calls Tryd.prog 10 #[] w fun e w' => e = .returned (.bool true) ∧ Kp [] w w' := sbegun_any parse_text w hw
theorem cut_at (x : Int) (n : Nat) (hn : n ≤ 6000) : ∃ q : Nat, q ≤ n ∧ wrap64 ((IntKind.u64.wrap x).tmod ((n : Int) + 1)) = (q : Int) := by
  have h0 : 0 ≤ IntKind.u64.wrap x := by rw [IntKind.wrap_u64]; omega
  have h1 := Int.tmod_eq_emod_of_nonneg (b := (n : Int) + 1) h0
  have h2 := Int.emod_nonneg (IntKind.u64.wrap x) (b := (n : Int) + 1) (by omega)
  have h3 := Int.emod_lt_of_pos (IntKind.u64.wrap x) (b := (n : Int) + 1) (by omega)
  rw [h1]
  generalize IntKind.u64.wrap x % ((n : Int) + 1) = z at *
  refine ⟨z.toNat, by omega, ?_⟩
  unfold wrap64
  omega
/-- A row of tokens, where it has any. -/
def RowT (w : World) (a : Option Addr) (l : List Tk.Tok) : Prop := 0 < l.length → ∃ g, a = some ⟨g, 0, none⟩ ∧ g < w.heap.size ∧ TAt w g l
theorem rowT_of_own {w : World} {B : Nat} {v : Value} {l : List Tk.Tok} (h : w.ownsRow B 29 4 v l.length (tcells l)) : ∃ a c, v = .slice a l.length c ∧ RowT w a l := by
  rcases Nat.eq_zero_or_pos l.length with h0 | hp
  · rcases h.2 with ⟨hv, _⟩ | ⟨g, cap, cur, hv, _⟩
    · exact ⟨none, 0, by rw [h0]; exact hv, fun h => by omega⟩
    · exact ⟨_, _, hv, fun h => by omega⟩
  · obtain ⟨g, cap, hv, _, hg, _, _, hT⟩ := own_tat h hp
    exact ⟨_, _, hv, fun _ => ⟨g, rfl, hg, hT⟩⟩
/-- A fault of reading: its code and its place. -/
theorem parsed_where (l : List UInt8) (hl : l.length ≤ 12000) {c p : Int} {r : List Tk.Tok} (h : Sx.parsed l = .inr (c, p, r)) : c ≠ 0 ∧ 0 ≤ p ∧ p ≤ (l.length : Int) := by
  unfold Sx.parsed Sx.parse at h
  split at h
  · rename_i hc
    simp only [Sum.inr.injEq, Prod.mk.injEq] at h
    obtain ⟨rfl, rfl, -⟩ := h
    exact ⟨by simpa using hc, Tk.scan_where l hl⟩
  · have := Sx.inn_prog l.length 72001 12001 (Tk.scan l).1 (Tk.scan_places l hl)
    rw [h] at this
    exact this

theorem stops_short (s : ByteArray) (x : Int) (w : World) (hw : WTab w) (hs : s.size ≤ maxLen) (hb : s.size = 0 ∨ 6000 < s.size) :
    Calls Tryd.prog 7 #[.string s, .int .i64 x] w fun e w' => e = .returned (.bool true) ∧ Kp [] w w' := by
  unfold maxLen at hs
  have HW := hide hw
  clear hw
  by_cases h0 : s.size = 0
  · have d1 : ((s.size : Int) == 0) = true := by rw [h0]; rfl
    go_enter Tryd.func7, Tryd.ntmps7
    go_wp2_with fail
    refine (sbegun _ HW.out).mono ?_
    rintro e w1 ⟨rfl, hb1⟩
    go_wp2
    all_goals
      go_ret
      exact ⟨rfl, hb1⟩
  · have d1 : ((s.size : Int) == 0) = false := by rw [Bool.eq_false_iff]; intro e; have := beq_iff_eq.1 e; omega
    have d2 : decide ((6000 : Int) < (s.size : Int)) = true := by simp; omega
    clear hb
    go_enter Tryd.func7, Tryd.ntmps7
    go_wp2_with fail
    refine (sbegun _ HW.out).mono ?_
    rintro e w1 ⟨rfl, hb1⟩
    go_wp2
    all_goals
      go_ret
      exact ⟨rfl, hb1⟩

set_option maxRecDepth 100000 in
set_option maxHeartbeats 2000000 in
theorem stops_walk (s : ByteArray) (x : Int) (w : World) (hw : WTab w) (hs : s.size ≤ 6000) (h0 : 0 < s.size)
    (hF : ∀ (c p : Int) (r : List Tk.Tok), Sx.parsed s.data.toList = .inr (c, p, r) → c ≠ 0) :
    Calls Tryd.prog 7 #[.string s, .int .i64 x] w fun e w' => e = .returned (.bool true) ∧ Kp [] w w' := by
  have d1 : ((s.size : Int) == 0) = false := by rw [Bool.eq_false_iff]; intro e; have := beq_iff_eq.1 e; omega
  have d2 : decide ((6000 : Int) < (s.size : Int)) = false := by simp; omega
  have HW := hide hw
  have HF := hide hF
  clear hw hF
  go_enter Tryd.func7, Tryd.ntmps7
  go_wp2_with fail
  refine (sbegun _ HW.out).mono ?_
  rintro e w1 ⟨rfl, hb1⟩
  have K1 := hide hb1
  have HW1 := hide (HW.out.below hb1.below)
  clear hb1
  go_wp2_with fail
  refine (parse_text s _ HW1.out (by omega)).mono ?_
  intro e w2 hp
  have HZ := hide (Lib.size_eq s)
  rcases hm : Sx.parsed s.data.toList with ⟨l, st, r⟩ | ⟨code, p, r⟩
  rotate_left
  · rw [hm] at hp
    obtain ⟨rfl, hk⟩ := hp
    have hc := HF.out _ _ _ hm
    have q1 : (code != 0) = true := by simpa using hc
    have K2 := hide (K1.out.trans hk)
    clear hk hc hm
    go_wp2
    go_ret
    exact ⟨rfl, (K2.out.alloc _).alloc _⟩
  rw [hm] at hp
  obtain ⟨m, a, cap, rfl, -, hk⟩ := hp
  have HM := hide hm
  have K2 := hide (K1.out.trans hk)
  have HW2 := hide (HW1.out.below hk.below)
  clear hk hm HF
  obtain ⟨hc0, hpr⟩ := parsed_ok HM.out
  obtain ⟨pre, t, hT, -⟩ := Sx.prog_end _ _ _ _ _ _ _ hpr
  have hN : (Tk.scan s.data.toList).1.length = pre.length + 1 := by rw [hT]; simp
  have hat := Tk.scan_places s.data.toList (by have := HZ.out; omega) t (by rw [hT]; simp)
  have hte : (Tk.scan s.data.toList).1[pre.length]? = some t := by rw [hT]; simp
  have HTM := hide (show t ∈ (Tk.scan s.data.toList).1 by rw [hT]; simp)
  have hpl : pre.length ≤ 6000 := by have := Tk.scan_count s.data.toList; have := HZ.out; omega
  rw [← HZ.out] at hat
  clear hpr hT
  go_wp2_with fail
  refine (rscan_in s _ (by omega)).mono ?_
  rintro e w3 ⟨v, rfl, hown, hb3⟩
  obtain ⟨a3, c3, rfl, hr⟩ := rowT_of_own hown
  obtain ⟨g, rfl, hg, hTA⟩ := hr (by omega)
  obtain ⟨-, n1, -, -⟩ := hTA _ _ hte
  have HW3 := hide (HW2.out.below (((Below.refl _ _).alloc (Nat.le_refl _) _).alloc (by simp) _ |>.trans (hb3.mono (by simp; omega))))
  have K3 : Hid (Kp [] w w3) := ((K2.out.alloc _).alloc _).trans (Kp.of_below hb3)
  have p0 : w3.cell? ⟨w2.heap.size, 0, none⟩ = some (.slice a l.length cap) := (hb3.cell (p := ⟨w2.heap.size, 0, none⟩) (by simp; omega)).trans (by simp [go_sem])
  have hz3 := hb3.size
  simp only [World.size_alloc] at hz3
  unfold scanV
  rw [hc0, hN]
  generalize (Tk.scan s.data.toList).2.2 = pp
  clear hown hr hTA hte hN hc0 hb3
  obtain ⟨q, hq, hqe⟩ := cut_at x t.at' (by omega)
  have HQE := hide hqe
  have hxl : (s.extract 0 q).data.toList = s.data.toList.take q := by rw [ext_list, List.drop_zero, Nat.sub_zero]
  have hxs : (s.extract 0 q).size ≤ 12000 := by rw [ByteArray.size_extract]; omega
  have hPT := fun w hw => parse_text (s.extract 0 q) w hw hxs
  rw [hxl] at hPT
  have HPT := hide hPT
  clear hPT hxl hxs
  go_wp2_with fail
  refine (HPT.out _ (HW3.out.below ((Below.refl _ _).alloc (Nat.le_refl _) _))).mono ?_
  intro e w4 hp
  rcases hm2 : Sx.parsed (s.data.toList.take q) with ⟨l2, st2, r2⟩ | ⟨code, p, r2⟩
  rotate_left
  · rw [hm2] at hp
    obtain ⟨rfl, hk⟩ := hp
    obtain ⟨hc, hp0, hp1⟩ := parsed_where _ (by rw [List.length_take]; have := HZ.out; omega) hm2
    have q1 : (code != 0) = true := by simpa using hc
    have hp2 : p ≤ (q : Int) := by rw [List.length_take] at hp1; omega
    have q2 : decide (0 ≤ p) = true := by simpa using hp0
    have q3 : decide (p ≤ (q : Int)) = true := by simpa using hp2
    have K4 := hide ((K3.out.alloc _).trans hk)
    clear hk hc hm2 hp1
    go_wp2
    go_ret
    exact ⟨rfl, (K4.out.alloc _).alloc _⟩
  · rw [hm2] at hp
    obtain ⟨m2, a2, cap2, rfl, -, hk⟩ := hp
    have hless := cut_less s.data.toList q (by have := HZ.out; omega) HM.out hm2 t HTM.out hq
    have q1 : decide ((l2.length : Int) < (l.length : Int)) = true := by simpa using hless
    have p1 : w4.cell? ⟨w2.heap.size, 0, none⟩ = some (.slice a l.length cap) := hk.some (((Kp.refl [] _).alloc _).some p0 (by simp)) (by simp)
    have K4 := hide ((K3.out.alloc _).trans hk)
    have hz4 : w2.heap.size < w4.heap.size := World.block_lt_of_cell? _ _ p1
    clear hk hm2
    go_wp2
    go_ret
    exact ⟨rfl, (K4.out.alloc _).alloc _⟩

theorem stops_any (s : ByteArray) (x : Int) (w : World) (hw : WTab w) (hs : s.size ≤ maxLen) :
    Calls Tryd.prog 7 #[.string s, .int .i64 x] w fun e w' => e = .returned (.bool true) ∧ Kp [] w w' := by
  by_cases h : s.size = 0 ∨ 6000 < s.size
  · exact stops_short s x w hw hs h
  · have hz := Lib.size_eq s
    exact stops_walk s x w hw (by omega) (by omega) (fun c p r h => (parsed_where _ (by omega) h).1)
end Go.Proofs.YtdnlnpdaplonfabDoor
