import Derived.Test.YtbepaimbbclejaaStC
/- Package chans: New, Waits. -/
namespace Go.Proofs.Ytbepaimbbclejaa
open Go.RowKit

set_option maxRecDepth 100000
set_option maxHeartbeats 1000000
/-- Senders are as the ends tell. -/
def SN (E : List En) (N : List Int) : Prop := ∀ k : Nat, k < N.length → N[k]? = some (Bk.send E (k : Int) : Int)
theorem full_wait {s : Int} (hs : 0 ≤ s) (M : List (Int × Int)) : fullJ s.toNat M = (decide (0 < s) && decide (s ≤ (M.length : Int))) := by
  unfold fullJ
  congr 1
  · exact decide_eq_decide.2 (by omega)
  · exact decide_eq_decide.2 (by omega)
theorem csNew_any (w : World) : Calls Try.prog 6 #[] w fun e w' => ∃ q pl, e = .returned (.pointer (some ⟨q, 0, none⟩)) ∧ ST w.heap.size w' q pl (.slice none 0 0) (.slice none 0 0) [] [] [] [] [] [] ∧ Below w.heap.size w w' := by
  have HL := hide (ldNew_any w)
  go_enter Try.func6, Try.ntmps6
  go_wp2_with fail
  refine HL.out.mono ?_
  rintro e w1 ⟨rfl, hl, hb⟩
  have hs := hl.plt
  have HR : Hid (ST w.heap.size (w1.alloc (.cells #[.pointer (some ⟨w.heap.size, 0, none⟩), .slice none 0 0] 45)) w1.heap.size w.heap.size (.slice none 0 0) (.slice none 0 0) [] [] [] [] [] [] ∧ Below w.heap.size w (w1.alloc (.cells #[.pointer (some ⟨w.heap.size, 0, none⟩), .slice none 0 0] 45))) := hide (by
    refine ⟨⟨by simp [go_sem], by simp [go_sem], fun k => by simp [go_sem], hb.size, hl.keep ((Below.refl _ _).alloc (Nat.le_refl _) _), World.ownsRow_nil _ _ _ _, ⟨rfl, rfl, rfl, rfl⟩, fun k p s n M g hp => by simp at hp, ?_⟩, hb.alloc hb.size _⟩
    intro i j b hi hj
    have key : ∀ i, (sob w1.heap.size w.heap.size (.slice none 0 0) (.slice none 0 0) [])[i]? = some (some b) → (i = 0 ∧ b = w1.heap.size) ∨ (i = 1 ∧ b = w.heap.size) := fun i hi => by
      match i, hi with
      | 0, hi => exact .inl ⟨rfl, by simpa [sob] using hi.symm⟩
      | 1, hi => exact .inr ⟨rfl, by simpa [sob] using hi.symm⟩
      | 2, hi => simp [sob, Value.ownBlock] at hi
      | 3, hi => simp [sob, Value.ownBlock] at hi
      | i + 4, hi => simp [sob, cob] at hi
    rcases key i hi with ⟨e1, e2⟩ | ⟨e1, e2⟩ <;> rcases key j hj with ⟨e3, e4⟩ | ⟨e3, e4⟩ <;> omega)
  clear hl hb
  go_wp2
  go_ret
  first
    | exact ⟨_, _, rfl, HR.out⟩
    | exact ⟨_, rfl, _, HR.out⟩
section
variable {B : Nat} {w : World} {q pl : Nat} {ve vc : Value} {P : List Pl} {E : List En} {S N : List Int} {I : List (List (Int × Int))} {G : List Bool}
/-- The channel of an end. -/
theorem ST.of (h : ST B w q pl ve vc P E S N I G) (o : BOk E S I G) (hN : SN E N) {e : Int} {s : Bool} (ht : Bk.there E e s = true) : ∃ (c : Nat) (p : Pl) (sl : Int) (M : List (Int × Int)) (g : Bool), (Ld.at E e).c = (c : Int) ∧ P[c]? = some p ∧ S[c]? = some sl ∧ N[c]? = some (Bk.send E (c : Int) : Int) ∧ I[c]? = some M ∧ G[c]? = some g ∧ CH B w p sl (Bk.send E (c : Int) : Int) M g ∧ M.length ≤ 100000 := by
  obtain ⟨k, x, -, hx, ha, -, -, -⟩ := Bk.there_some ht
  obtain ⟨c, sl, M, g, hc, hS, hI, hG, hcl, hMl⟩ := o.chan hx
  obtain ⟨l1, l2, l3, l4⟩ := h.ln
  have hp := List.getElem?_eq_getElem (l := P) (i := c) (by omega)
  have hn := hN c (by omega)
  exact ⟨c, _, sl, M, g, by rw [ha]; exact hc, hp, hS, hn, hI, hG, h.ch c _ _ _ _ _ hp hS hn hI hG, hMl⟩
theorem csWaits_any (h : ST B w q pl ve vc P E S N I G) (o : BOk E S I G) (hN : SN E N) (e : Int) : Calls Try.prog 7 #[.pointer (some ⟨q, 0, none⟩), .int .i64 e] w fun r w' => r = .returned (.bool (Bk.waits E S I G e)) ∧ Below w.heap.size w w' := by
  unfold Bk.waits
  cases h1 : Bk.there E e true with
  | true =>
    rw [if_pos rfl]
    obtain ⟨c, p, sl, M, g, hc, hp, hS, -, hI, hG, hch, hM⟩ := h.of o hN h1
    have HS := hide (sendTo_yes h e h1 hc hp)
    have HC : Hid (∀ X, Below w.heap.size w X → Calls Try.prog 22 #[.pointer (some ⟨p.1, 0, none⟩)] X fun e w' => e = .returned (.bool (!g && fullJ sl.toNat M)) ∧ ∃ m, w' = X.drewN m) := hide (fun X hX => stopS_any (hch.keep (X := fun _ => True) (Kx.of_below hX) trivial trivial (fun _ _ => trivial)))
    rw [hc, Int.toNat_natCast]
    simp only [List.getD_eq_getElem?_getD, hS, hI, hG, Option.getD_some]
    rw [← full_wait hch.s0]
    generalize (!g && fullJ sl.toNat M) = b at *
    clear h o hN hc hp hS hI hG hch hM h1
    go_enter Try.func7, Try.ntmps7
    go_wp2_with fail
    refine HS.out.mono ?_
    rintro e w1 ⟨rfl, hb⟩
    have HB := hide hb
    clear hb
    go_wp2_with fail
    refine (HC.out _ HB.out).mono ?_
    rintro e w2 ⟨rfl, m, rfl⟩
    go_wp2
    go_ret
    exact ⟨rfl, below_drewN HB.out m⟩
  | false =>
    rw [if_neg (by decide)]
    have HS := hide (sendTo_no h e h1)
    cases h2 : Bk.there E e false with
    | false =>
      rw [if_neg (by decide)]
      have HR : Hid (∀ X, Below w.heap.size w X → Calls Try.prog 23 #[.pointer (some ⟨q, 0, none⟩), .int .i64 e] X fun r w' => r = .returned (.pointer none) ∧ Below X.heap.size X w') := hide (fun X hX => recvFr_no (h.keep hX) e h2)
      clear h o hN h1 h2
      go_enter Try.func7, Try.ntmps7
      go_wp2_with fail
      refine HS.out.mono ?_
      rintro e w1 ⟨rfl, hb⟩
      have HB := hide hb
      clear hb
      go_wp2_with fail
      refine (HR.out _ HB.out).mono ?_
      rintro e w2 ⟨rfl, hb⟩
      have HB2 := hide (btrans HB.out hb)
      clear hb
      go_wp2
      go_ret
      exact ⟨rfl, HB2.out⟩
    | true =>
      rw [if_pos rfl]
      obtain ⟨c, p, sl, M, g, hc, hp, hS, hn, hI, hG, hch, hM⟩ := h.of o hN h2
      have HR : Hid (∀ X, Below w.heap.size w X → Calls Try.prog 23 #[.pointer (some ⟨q, 0, none⟩), .int .i64 e] X fun r w' => r = .returned (.pointer (some ⟨p.1, 0, none⟩)) ∧ Below X.heap.size X w') := hide (fun X hX => recvFr_yes (h.keep hX) e h2 hc hp)
      have HC : Hid (∀ X, Below w.heap.size w X → Calls Try.prog 24 #[.pointer (some ⟨p.1, 0, none⟩)] X fun e w' => e = .returned (.bool (decide (M.length = 0) && decide ((0 : Int) < (Bk.send E (c : Int) : Int)))) ∧ w' = X) := hide (fun X hX => stopR_any (hch.keep (X := fun _ => True) (Kx.of_below hX) trivial trivial (fun _ _ => trivial)))
      rw [hc, Int.toNat_natCast]
      simp only [List.getD_eq_getElem?_getD, hI, Option.getD_some]
      have hd : decide ((0 : Int) < (Bk.send E (c : Int) : Int)) = decide (0 < Bk.send E (c : Int)) := decide_eq_decide.2 (by omega)
      rw [hd] at HC
      generalize (decide (M.length = 0) && decide (0 < Bk.send E (c : Int))) = b at *
      clear h o hN h1 h2 hc hp hS hn hI hG hch hM hd
      go_enter Try.func7, Try.ntmps7
      go_wp2_with fail
      refine HS.out.mono ?_
      rintro e w1 ⟨rfl, hb⟩
      have HB := hide hb
      clear hb
      go_wp2_with fail
      refine (HR.out _ HB.out).mono ?_
      rintro e w2 ⟨rfl, hb⟩
      have HB2 := hide (btrans HB.out hb)
      clear hb
      go_wp2_with fail
      refine (HC.out _ HB2.out).mono ?_
      rintro e w3 ⟨rfl, rfl⟩
      go_wp2
      go_ret
      exact ⟨rfl, HB2.out⟩
end
end Go.Proofs.Ytbepaimbbclejaa
