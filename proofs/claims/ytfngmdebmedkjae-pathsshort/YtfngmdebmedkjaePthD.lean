import Derived.Test.YtfngmdebmedkjaePthC
import Derived.Test.YtfngmdebmedkjaePthBn
import Derived.Test.YtfngmdebmedkjaePthBl
/- What comes of an instruction, as a row; whether one comes of another. -/
namespace Go.Proofs.Ytfngmdebmedkjae
open Go.RowKit

theorem clo_next (N : List Nat) (hN : N.length ≤ 1000) (B b : Nat) : Clo N (fun X w d => ∃ v, VR B b X w (up d) v) 20 [.pointer (some ⟨b, 0, none⟩)] := by
  refine ⟨fun X w1 w2 d h hb => ?_, fun X Y w1 d hy h => ?_, fun X w1 d v rest hd h => ?_⟩
  · obtain ⟨v, h⟩ := h
    exact ⟨v, h.grow hb⟩
  · obtain ⟨v, h⟩ := h
    exact ⟨v, h.less hy⟩
  · obtain ⟨u, h⟩ := h
    have hl : (up d).length ≤ 1000000 := by
      rw [up_len]
      have := congrArg List.length hd
      simp at this
      omega
    refine (nextC_any B b X w1 (up d) u v h hl).mono fun e w2 ⟨h1, ⟨v', h2⟩, h3⟩ => ⟨h1, ⟨v', ?_⟩, h3⟩
    rw [up_app]
    exact h2

set_option maxHeartbeats 1000000 in
theorem next_any (c : Cp) (i : Int) (w : World) (h : PM c w) :
    Calls Try.prog 10 #[c.v, .int .i64 i] w fun e w' => ∃ v, e = .returned v ∧ w'.ownsRow w.heap.size 3 1 v (Pa.on c.p i).length (ints (up (Pa.on c.p i))) ∧ Below w.heap.size w w' := by
  have hb0 : Below w.heap.size w ((w.alloc (.cells #[c.nm, c.vs, c.pr, c.bl, .slice c.a c.p.length c.c] 26)).alloc (.cells #[.slice none 0 0] 30)) := ((Below.refl _ _).alloc (Nat.le_refl _) _).alloc (by simp) _
  have HO := hide (onwardN c i (.pointer (some ⟨w.heap.size + 1, 0, none⟩)) (fun X w' d => ∃ v, VR w.heap.size (w.heap.size + 1) X w' (up d) v) (hide (clo_next _ (Nat.le_trans (Pa.on_len _ _) (by omega)) _ _)) (fun k => k < w.heap.size + 1) _ (h.keep hb0)
    ⟨.slice none 0 0, by simp [go_sem], by simp [go_sem], World.ownsRow_nil _ _ _ _, by simp; omega, by omega, (fun g hg => by cases hg), (fun k hk => by simp; omega)⟩)
  have HE : Hid (∀ w' : World, w'.ownsRow w.heap.size 3 1 (.slice none 0 0) 0 []) := hide (fun w' => World.ownsRow_nil _ _ _ _)
  clear h
  have HB0 := hide hb0
  clear hb0
  unfold Cp.v at *
  generalize Pa.on c.p i = N at *
  obtain ⟨g, o, cc, a, nm, vs, pr, bl, p⟩ := c
  dsimp only at *
  have mf := fun (fn : Fn) (first cap : Array Value) (w : World) => (rfl : (Instr.makeFunc fn first cap).run Try.prog w = .ok (.func fn first cap) w)
  go_enter Try.func10, Try.ntmps10
  go_wp2_with fail
  refine HO.out.mono ?_
  rintro e w1 ⟨rfl, ⟨v, hv⟩, hk⟩
  have c1 := hv.cell
  have hbl := hv.blt
  have HO1 := hide hv.own
  rw [up_len] at HO1
  have HB1 : Hid (Below w.heap.size w w1) := by
    have h1 := hk.mono (Y := fun k => k < w.heap.size) (fun k _ hk => by omega)
    have h2 := (Kx.of_below (X := fun k => k < w.heap.size) HB0.out).trans h1
    exact h2.below_of (fun k hk => hk)
  clear hv hk HO
  go_wp2
  go_ret
  exact ⟨_, rfl, HO1.out, HB1.out⟩

/-- A mark that is set where one is found. -/
structure MK (b t : Nat) (to : Int) (X : Nat → Prop) (w : World) (d : List Nat) : Prop where
  cell : w.cell? ⟨b, 0, none⟩ = some (.bool (d.any fun (v : Nat) => (v : Int) == to))
  thaw : w.frozen? ⟨b, 0, none⟩ = false
  at' : w.cell? ⟨t, 0, none⟩ = some (.int .i64 to)
  nb : ¬ X b
  ne : t ≠ b
set_option maxHeartbeats 1000000 in
theorem leadsC_any (b t : Nat) (to : Int) (X : Nat → Prop) (w : World) (d : List Nat) (v : Nat) (h : MK b t to X w d) :
    Calls Try.prog 24 #[.int .i64 v, .pointer (some ⟨b, 0, none⟩), .pointer (some ⟨t, 0, none⟩)] w fun e w' => e = .returned (.tuple #[]) ∧ MK b t to X w' (d ++ [v]) ∧ Kx X w w' := by
  obtain ⟨h1, h2, h3, h4, h5⟩ := h
  have hb := World.block_lt_of_cell? _ _ h1
  have ht := World.block_lt_of_cell? _ _ h3
  have HE : Hid ((d ++ [v]).any (fun (v : Nat) => (v : Int) == to) = ((d.any fun (v : Nat) => (v : Int) == to) || ((v : Int) == to))) := hide (by simp)
  have R : Hid (∀ x : Bool, x = ((d.any fun (v : Nat) => (v : Int) == to) || ((v : Int) == to)) → MK b t to X (w.setCell ⟨b, 0, none⟩ (.bool x)) (d ++ [v]) ∧ Kx X w (w.setCell ⟨b, 0, none⟩ (.bool x))) := by
    refine hide (fun x hx => ⟨⟨?_, ?_, ?_, h4, h5⟩, (Kx.refl X w).set (.inr h4) _⟩)
    · rw [HE.out, ← hx]; simp [go_sem, h1]
    · simp [go_sem, h2]
    · simp [go_sem, h3]
  clear HE
  generalize (d.any fun (v : Nat) => (v : Int) == to) = q at *
  cases q with
  | true =>
    go_enter Try.func24, Try.ntmps24
    go_wp2
    go_end0
    exact ⟨rfl, R.out true rfl⟩
  | false =>
    go_enter Try.func24, Try.ntmps24
    go_wp2
    go_end0
    exact ⟨rfl, R.out _ rfl⟩
theorem clo_leads (N : List Nat) (b t : Nat) (to : Int) : Clo N (MK b t to) 24 [.pointer (some ⟨b, 0, none⟩), .pointer (some ⟨t, 0, none⟩)] := by
  refine ⟨fun X w1 w2 d h hb => ?_, fun X Y w1 d hy h => ?_, fun X w1 d v rest hd h => leadsC_any b t to X w1 d v h⟩
  · have hbl := World.block_lt_of_cell? _ _ h.cell
    refine ⟨bsome hb h.cell, (hb.frozen (p := ⟨b, 0, none⟩) hbl).trans h.thaw, bsome hb h.at', ?_, h.ne⟩
    rintro (hx | hx)
    · exact h.nb hx
    · have : b < w1.heap.size := hbl
      omega
  · exact ⟨h.cell, h.thaw, h.at', fun hx => h.nb (hy _ hx), h.ne⟩
theorem any_on (p : Pa.Pr) (i to : Int) : (Pa.on p i).any (fun (v : Nat) => (v : Int) == to) = Pa.comes p i to := by
  rw [Bool.eq_iff_iff, List.any_eq_true]
  constructor
  · rintro ⟨v, hv, he⟩
    have : (v : Int) = to := by simpa using he
    rw [← this]
    exact Pa.mem_on.1 hv
  · intro h
    have h' := h
    unfold Pa.comes at h'
    simp only [Bool.and_eq_true] at h'
    have := Pa.isI_iff.1 h'.1.2
    refine ⟨to.toNat, Pa.mem_on.2 ?_, ?_⟩
    · rw [Int.toNat_of_nonneg this.1]; exact h
    · simp [Int.toNat_of_nonneg this.1]

set_option maxHeartbeats 1000000 in
theorem leads_any (c : Cp) (i to : Int) (w : World) (h : PM c w) :
    Calls Try.prog 21 #[c.v, .int .i64 i, .int .i64 to] w fun e w' => e = .returned (.bool (Pa.comes c.p i to)) ∧ Below w.heap.size w w' := by
  have hb0 : Below w.heap.size w (((w.alloc (.cells #[c.nm, c.vs, c.pr, c.bl, .slice c.a c.p.length c.c] 26)).alloc (.cells #[.int .i64 to] 3)).alloc (.cells #[.bool false] 4)) := (((Below.refl _ _).alloc (Nat.le_refl _) _).alloc (by simp) _).alloc (by simp; omega) _
  have HO := hide (onwardL c i (.pointer (some ⟨w.heap.size + 1 + 1, 0, none⟩)) (.pointer (some ⟨w.heap.size + 1, 0, none⟩)) (MK (w.heap.size + 1 + 1) (w.heap.size + 1) to) (hide (clo_leads _ _ _ _)) (fun k => k < w.heap.size + 1 + 1) _ (h.keep hb0)
    ⟨by simp [go_sem], by simp [go_sem], by simp [go_sem], by omega, by omega⟩)
  clear h
  have HB0 := hide hb0
  clear hb0
  rw [← any_on]
  unfold Cp.v at *
  generalize Pa.on c.p i = N at *
  obtain ⟨q, hq⟩ : ∃ q, q = (N.any fun (v : Nat) => (v : Int) == to) := ⟨_, rfl⟩
  rw [← hq]
  have HQ := hide hq
  clear hq
  obtain ⟨g, o, cc, a, nm, vs, pr, bl, p⟩ := c
  dsimp only at *
  have mf := fun (fn : Fn) (first cap : Array Value) (w : World) => (rfl : (Instr.makeFunc fn first cap).run Try.prog w = .ok (.func fn first cap) w)
  go_enter Try.func21, Try.ntmps21
  go_wp2_with fail
  refine HO.out.mono ?_
  rintro e w1 ⟨rfl, hv, hk⟩
  have c1 := hv.cell
  rw [← HQ.out] at c1
  have hbl := World.block_lt_of_cell? _ _ c1
  have HB1 : Hid (Below w.heap.size w w1) := by
    have h1 := hk.mono (Y := fun k => k < w.heap.size) (fun k _ hk => by omega)
    have h2 := (Kx.of_below (X := fun k => k < w.heap.size) HB0.out).trans h1
    exact h2.below_of (fun k hk => hk)
  clear hv hk HO
  go_wp2
  go_ret
  exact ⟨rfl, HB1.out⟩
end Go.Proofs.Ytfngmdebmedkjae
