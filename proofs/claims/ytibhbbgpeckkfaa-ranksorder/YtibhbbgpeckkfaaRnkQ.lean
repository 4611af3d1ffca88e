import Derived.Test.YtibhbbgpeckkfaaRnkF
import Derived.Test.YtibhbbgpeckkfaaRkQ
/- Package ranks: the edges that come to each node. -/
namespace Go.Proofs.Ytibhbbgpeckkfaa
open Go.RowKit

/-- A graph that can be read: a row of rows of numbers. -/
def GR (w : World) (v : Value) (A : List (List Nat)) : Prop :=
  ∃ gb cc, v = .slice (some ⟨gb, 0, none⟩) A.length cc ∧ ∀ (i : Nat) r, A[i]? = some r → ∃ a c, w.cell? ⟨gb, i, none⟩ = some (.slice a r.length c) ∧ (r ≠ [] → ∃ g, a = some ⟨g, 0, none⟩ ∧ ∀ (k : Nat) x, r[k]? = some x → w.cell? ⟨g, k, none⟩ = some (.int .i64 (x : Int)))
theorem GR.keep {w w' : World} {v : Value} {A : List (List Nat)} (h : GR w v A) (hb : Below w.heap.size w w') : GR w' v A := by
  obtain ⟨gb, cc, h1, h2⟩ := h
  refine ⟨gb, cc, h1, fun i r hr => ?_⟩
  obtain ⟨a, c, h3, h4⟩ := h2 i r hr
  refine ⟨a, c, bsome hb h3, fun hn => ?_⟩
  obtain ⟨g, h5, h6⟩ := h4 hn
  exact ⟨g, h5, fun k x hx => bsome hb (h6 k x hx)⟩
theorem ne_of_get {r : List Nat} {j t : Nat} (h : r[j]? = some t) : r ≠ [] := fun e => by rw [e] at h; simp at h
theorem up_mem {r : List Nat} {j t : Nat} (h : r[j]? = some t) : t ∈ r := List.mem_of_getElem? h

set_option maxRecDepth 100000 in
set_option maxHeartbeats 2000000 in
theorem comers_any (n : Nat) (E : Rk.Eg) (A : List (List Nat)) (v : Value) (w : World) (h : GR w v A) (hA : Rk.Adj n E A) (hn : n ≤ 300) :
    Calls Try.prog 27 #[v] w fun e w' => ∃ c : List Nat, e = .returned (.slice (some ⟨w.heap.size, 0, none⟩) n n) ∧ AR w.heap.size w' (up c) ∧ Rk.CM n (fun a v => decide (v ∈ Rk.row A a)) c ∧ Below w.heap.size w w' := by
  obtain ⟨Z, hZ, mk⟩ := make_ints n hn
  obtain ⟨gb, cc, rfl, h⟩ := h
  have hlen := hA.len
  rw [hlen]
  have HG := hide h
  have HA := hide hA
  have HL := hide hlen
  have HA0 := hide (ar_new w Z n hZ)
  clear h hA hZ hlen
  go_enter Try.func27, Try.ntmps27
  go_wp2
  obtain ⟨W, hW⟩ : ∃ W, w.alloc (.cells Z 3) = W := ⟨_, rfl⟩
  have HB0 : Hid (Below w.heap.size w W) := hide (by rw [← hW]; exact (Below.refl _ _).alloc (Nat.le_refl _) _)
  rw [hW] at HA0 ⊢
  clear hW mk
  go_loopw [13] (fun iv wr => ∃ (i : Nat) (c : List Nat), i ≤ n ∧ iv = .int .i64 i ∧ Hid (AR w.heap.size wr (up c)) ∧ Hid (Below w.heap.size w wr) ∧ Hid (Rk.CM n (Rk.pr A i 0) c)) (fun iv _ => n - (intOf iv).toNat)
  case atStart => exact ⟨0, List.replicate n 0, Nat.zero_le _, rfl, hide (by rw [up_rep]; exact HA0.out), HB0, hide (Rk.CM.zero n (fun x y => by simp [Rk.pr]))⟩
  case round =>
    obtain ⟨i, c, hi, rfl, HR, HB, HC⟩ := hrel
    by_cases hlt : i < n
    · have d1 : decide ((i : Int) < (n : Int)) = true := by simp; omega
      obtain ⟨a, ca, c0, q⟩ := HG.out i (Rk.row A i) (Rk.row_get (by rw [HL.out]; exact hlt))
      have c1 := bsome HB.out c0
      have HQ := hide q
      have hrl : (Rk.row A i).length ≤ n := HA.out.few i
      obtain ⟨r, hr⟩ : ∃ r, r = Rk.row A i := ⟨_, rfl⟩
      have HRow := hide hr
      rw [← hr] at c1 HQ hrl
      clear c0 q hr
      go_wp2
      obtain ⟨wo, hwo⟩ : ∃ wo, wr = wo := ⟨_, rfl⟩
      subst wr
      go_loopw [19] (fun jv wr => ∃ (j : Nat) (c : List Nat), j ≤ r.length ∧ jv = .int .i64 j ∧ Hid (AR w.heap.size wr (up c)) ∧ Hid (Below w.heap.size w wr) ∧ Hid (Rk.CM n (Rk.pr A i j) c)) (fun jv _ => r.length - (intOf jv).toNat)
      case atStart => exact ⟨0, c, Nat.zero_le _, rfl, HR, HB, HC⟩
      case round =>
        obtain ⟨j, c, hj, rfl, HR, HB, HC⟩ := hrel
        by_cases hjl : j < r.length
        · have d2 : decide ((j : Int) < (r.length : Int)) = true := by simp; omega
          obtain ⟨t, ht⟩ : ∃ t, r[j]? = some t := ⟨_, List.getElem?_eq_getElem hjl⟩
          obtain ⟨g, rfl, q⟩ := HQ.out (ne_of_get ht)
          have t0 := bsome HB.out (q j t ht)
          have HT : Hid ((Rk.row A i)[j]? = some t) := hide (by rw [← HRow.out]; exact ht)
          have htn : t < n := (HA.out.lt (up_mem HT.out)).2
          have hcl : c.length = n := HC.out.len
          have a0 := HR.out.cell _ _ (up_g (o := c) (v := t) (by omega))
          have f0 := HR.out.thaw t
          have hbd : Rk.g c t ≤ n := by rw [HC.out.cnt t htn]; exact Rk.cnt_le _ _
          have hsum : IntKind.i64.wrap ((Rk.g c t : Nat) + 1 : Int) = (Rk.g c t : Nat) + 1 := by rw [IntKind.wrap_i64]; omega
          have HR2 : Hid (AR w.heap.size (wr.setCell ⟨w.heap.size, t, none⟩ (.int .i64 ((Rk.g c t : Nat) + 1))) (up (c.set t (Rk.g c t + 1)))) := hide (by
            have := HR.out.set (up_g (o := c) (v := t) (by omega)) (((Rk.g c t + 1 : Nat)) : Int)
            rw [up_set] at this
            exact this)
          have HB2 : Hid (Below w.heap.size w (wr.setCell ⟨w.heap.size, t, none⟩ (.int .i64 ((Rk.g c t : Nat) + 1)))) := hide (HB.out.setCell (p := ⟨w.heap.size, t, none⟩) (Nat.le_refl _) _)
          have HC2 : Hid (Rk.CM n (Rk.pr A i (j + 1)) (c.set t (Rk.g c t + 1))) := hide (HC.out.step hlt htn (Rk.pr_new HA.out HT.out) (Rk.pr_step HT.out))
          clear q ht HR HB HC
          have p0 : (0 : Int) ≤ (t : Int) := by omega
          have p1 : (t : Int) < (n : Int) := by omega
          go_wp2
          go_roundw
          case rel => exact ⟨j + 1, _, by omega, by go_num, HR2, HB2, HC2⟩
          case measure => simp [intOf]; omega
        · obtain rfl : j = r.length := by omega
          have d2 : decide ((r.length : Int) < (r.length : Int)) = false := by simp
          have HC2 : Hid (Rk.CM n (Rk.pr A (i + 1) 0) c) := hide (HC.out.cong (fun x y _ => by rw [HRow.out]; exact (Rk.pr_next i x y).symm))
          clear HC
          go_wp2
          go_roundw
          case rel => exact ⟨i + 1, c, by omega, by go_num, HR, HB, HC2⟩
          case measure => simp [intOf]; omega
    · obtain rfl : i = n := by omega
      have d1 : decide ((i : Int) < (i : Int)) = false := by simp
      have HC2 : Hid (Rk.CM i (fun a v => decide (v ∈ Rk.row A a)) c) := hide (HC.out.cong (fun x y hx => Rk.pr_all i x y hx))
      clear HC
      go_wp2
      go_ret
      exact ⟨c, rfl, HR.out, HC2.out, HB.out⟩
end Go.Proofs.Ytibhbbgpeckkfaa
