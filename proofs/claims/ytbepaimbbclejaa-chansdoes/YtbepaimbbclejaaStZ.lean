import Derived.Test.YtbepaimbbclejaaStY
import Derived.Deep.RegionHeld3
import Derived.Deep.LoopGhost
/- The law ChansDoes. -/
namespace Go.Proofs.Ytbepaimbbclejaa
open Go.RowKit

/-- A step. -/
structure Cp where
  d : Int
  e : Int
  t : Int
  n : Int
  g : Bool
def CpR (w : World) (v : Value) (L : List Cp) : Prop :=
  ∃ a c, v = .slice a L.length c ∧ (L ≠ [] → ∃ g o, a = some ⟨g, o, none⟩ ∧ ∀ (k : Nat) x, L[k]? = some x → w.cell? ⟨g, o + k * 5, none⟩ = some (.int .i64 x.d) ∧ w.cell? ⟨g, o + k * 5 + 1, none⟩ = some (.int .i64 x.e) ∧ w.cell? ⟨g, o + k * 5 + 2, none⟩ = some (.int .i64 x.t) ∧ w.cell? ⟨g, o + k * 5 + 3, none⟩ = some (.int .i64 x.n) ∧ w.cell? ⟨g, o + k * 5 + 4, none⟩ = some (.bool x.g))
theorem CpR.keep {w w' : World} {v : Value} {L : List Cp} (h : CpR w v L) (hb : Below w.heap.size w w') : CpR w' v L := by
  obtain ⟨a, c, h1, h2⟩ := h
  refine ⟨a, c, h1, fun hn => ?_⟩
  obtain ⟨g, o, h3, h4⟩ := h2 hn
  exact ⟨g, o, h3, fun k x hx => ⟨bsome hb (h4 k x hx).1, bsome hb (h4 k x hx).2.1, bsome hb (h4 k x hx).2.2.1, bsome hb (h4 k x hx).2.2.2.1, bsome hb (h4 k x hx).2.2.2.2⟩⟩
/-- Store and book after so many steps. -/
def LS (w1 wr : World) (q b i : Nat) : Prop := ∃ F1 F2 s, SX F1 w1.heap.size wr q s ∧ BX F2 w1.heap.size wr b s ∧ (∀ x, F1 x → ¬ F2 x) ∧ Wf i s ∧ Below w1.heap.size w1 wr
theorem BX.new (w : World) {B : Nat} (hB : B ≤ w.heap.size) : BX (fun b => b = w.heap.size) B (w.alloc (.cells #[.slice none 0 0, .slice none 0 0, .slice none 0 0, .slice none 0 0] 32)) w.heap.size Bk.c0 := by
  refine ⟨.slice none 0 0, .slice none 0 0, .slice none 0 0, .slice none 0 0, [], ⟨by simp [go_sem], by simp [go_sem], by simp [go_sem], by simp [go_sem], fun k => by simp [go_sem], hB, World.ownsRow_nil _ _ _ _, World.ownsRow_nil _ _ _ _, World.ownsRow_nil _ _ _ _, World.ownsRow_nil _ _ _ _, fun k M v hM => by simp [Bk.c0] at hM, ?_⟩, fun b => ⟨fun h => ⟨0, by rw [h]; rfl⟩, fun ⟨j, hj⟩ => ?_⟩⟩
  · intro i j x hi hj
    have key : ∀ i, (obs w.heap.size (.slice none 0 0) (.slice none 0 0) (.slice none 0 0) (.slice none 0 0) [])[i]? = some (some x) → i = 0 := fun i hi => by
      match i, hi with
      | 0, _ => rfl
      | 1, hi => simp [obs, Value.ownBlock] at hi
      | 2, hi => simp [obs, Value.ownBlock] at hi
      | 3, hi => simp [obs, Value.ownBlock] at hi
      | 4, hi => simp [obs, Value.ownBlock] at hi
      | i + 5, hi => simp [obs] at hi
    rw [key i hi, key j hj]
  · match j, hj with
    | 0, hj => simpa [obs] using hj.symm
    | 1, hj => simp [obs, Value.ownBlock] at hj
    | 2, hj => simp [obs, Value.ownBlock] at hj
    | 3, hj => simp [obs, Value.ownBlock] at hj
    | 4, hj => simp [obs, Value.ownBlock] at hj
    | j + 5, hj => simp [obs] at hj
set_option maxRecDepth 100000
set_option maxHeartbeats 8000000
theorem cdoes_any (l : List Cp) (v : Value) (w : World) (h : CpR w v l) (hll : l.length ≤ 9223372036854775807) :
    Calls Try.prog 3 #[v] w fun e w' => e = .returned (.bool true) ∧ Below w.heap.size w w' := by
  have HS0 := hide h
  obtain ⟨av, cv, rfl, -⟩ := h
  by_cases hl : 200 < l.length
  · have d0 : (200 : Int) < (l.length : Int) := by omega
    go_enter Try.func3, Try.ntmps3
    go_wp2_with fail
    refine (chBegun_any _).mono ?_
    rintro e w1 ⟨rfl, hb1⟩
    go_wp2
    go_ret
    exact ⟨rfl, hb1⟩
  · have d0 : decide ((200 : Int) < (l.length : Int)) = false := by simp; omega
    go_enter Try.func3, Try.ntmps3
    go_wp2_with fail
    refine (chBegun_any _).mono ?_
    rintro e w1 ⟨rfl, hb1⟩
    have HB1 := hide hb1
    clear hb1
    go_wp2_with fail
    refine (SX.new _).mono ?_
    rintro e w2 ⟨q, rfl, ⟨F0, hx2⟩, hb2⟩
    obtain ⟨b, hbb⟩ : ∃ b, w2.heap.size = b := ⟨_, rfl⟩
    have HL2 : Hid (LS w1 (w2.alloc (.cells #[.slice none 0 0, .slice none 0 0, .slice none 0 0, .slice none 0 0] 32)) q b 0) := hide (by
      have hb3 : Below w2.heap.size w2 (w2.alloc (.cells #[.slice none 0 0, .slice none 0 0, .slice none 0 0, .slice none 0 0] 32)) := (Below.refl _ _).alloc (Nat.le_refl _) _
      refine ⟨F0, fun x => x = w2.heap.size, Bk.c0, hx2.keep (Kx.of_below hb3), ?_, fun x hx e => ?_, Wf.c0, btrans hb2 hb3⟩
      · have := BX.new w2 hb2.size
        rwa [hbb] at this ⊢
      · have := (hx2.lt x hx).2; omega)
    have HS1 := hide (HS0.out.keep HB1.out)
    clear hx2 hb2 HS0
    go_wp2
    try rw [hbb]
    generalize w2.alloc (.cells #[.slice none 0 0, .slice none 0 0, .slice none 0 0, .slice none 0 0] 32) = W2 at *
    clear hbb
    go_loopg [5] l.length (fun gh iv wr => ∃ (i : Nat), gh = l.length - i ∧ i ≤ l.length ∧ iv = .int .i64 i ∧ Hid (LS w1 wr q b i))
    case atStart => exact ⟨0, rfl, Nat.zero_le _, rfl, HL2⟩
    case round =>
      obtain ⟨i, rfl, hik, rfl, HL⟩ := hrel
      by_cases hlt : i < l.length
      · have d1 : decide ((i : Int) < (l.length : Int)) = true := by simp; omega
        obtain ⟨x, hx⟩ : ∃ x, l[i]? = some x := ⟨_, List.getElem?_eq_getElem hlt⟩
        obtain ⟨aP, cP, eP, hP⟩ := HS1.out
        obtain ⟨rfl, rfl⟩ : av = aP ∧ cv = cP := by simpa using eP
        obtain ⟨gP, oP, rfl, qP⟩ := hP (fun e => by rw [e] at hlt; simp at hlt)
        have hc := qP i _ hx
        obtain ⟨d, e, t, n, g⟩ := x
        simp only at hc
        have HSx : Hid (∀ X, Below w1.heap.size w1 X → X.cell? ⟨gP, oP + i * 5, none⟩ = some (.int .i64 d) ∧ X.cell? ⟨gP, oP + i * 5 + 1, none⟩ = some (.int .i64 e) ∧ X.cell? ⟨gP, oP + i * 5 + 2, none⟩ = some (.int .i64 t) ∧ X.cell? ⟨gP, oP + i * 5 + 3, none⟩ = some (.int .i64 n) ∧ X.cell? ⟨gP, oP + i * 5 + 4, none⟩ = some (.bool g)) := hide (fun X hX => ⟨bsome hX hc.1, bsome hX hc.2.1, bsome hX hc.2.2.1, bsome hX hc.2.2.2.1, bsome hX hc.2.2.2.2⟩)
        have i0 : (0 : Int) ≤ (i : Int) := by omega
        have i1 : (i : Int) < (l.length : Int) := by omega
        obtain ⟨F1, F2, s, hsx, hbx, hdj, hwf, hbw⟩ := HL.out
        have KA : Hid (SX F1 w1.heap.size wr.drew q s ∧ BX F2 w1.heap.size wr.drew b s ∧ Below w1.heap.size w1 wr.drew) := hide ⟨hsx.keep ((Kx.refl _ _).drewN 1), hbx.keep ((Kx.refl _ _).drewN 1), below_drewN hbw 1⟩
        have CW1 : Hid (∀ X, SX F1 w1.heap.size X q s → Calls Try.prog 7 #[.pointer (some ⟨q, 0, none⟩), .int .i64 e] X fun r w' => ∃ u, r = .returned u ∧ (u = .bool (Bk.wt s e) ∧ Below X.heap.size X w')) := hide (fun X hX => (hX.wt hwf e).mono (fun r w' h => ⟨_, h.1, rfl, h.2⟩))
        have CW2 : Hid (∀ X, BX F2 w1.heap.size X b s → Calls Try.prog 8 #[.pointer (some ⟨b, 0, none⟩), .int .i64 e] X fun r w' => ∃ u, r = .returned u ∧ (u = .bool (Bk.wt s e) ∧ Below X.heap.size X w')) := hide (fun X hX => (hX.wt hwf e).mono (fun r w' h => ⟨_, h.1, rfl, h.2⟩))
        obtain ⟨s', hs'⟩ : ∃ s', Bk.op (Bk.dig d) e t n g s = s' := ⟨_, rfl⟩
        have hwf' : Wf (i + 1) s' := by rw [← hs']; exact hwf.op (by omega) _ e t n g
        have CD : Hid (∀ X, (SX F1 w1.heap.size X q s ∧ BX F2 w1.heap.size X b s ∧ Below w1.heap.size w1 X) → Calls Try.prog 9 #[.pointer (some ⟨q, 0, none⟩), .pointer (some ⟨b, 0, none⟩), .agg #[.int .i64 d, .int .i64 e, .int .i64 t, .int .i64 n, .bool g]] X fun r w' => ∃ u, r = .returned u ∧ (u = .bool true ∧ ∃ G1 G2, SX G1 w1.heap.size w' q s' ∧ BX G2 w1.heap.size w' b s' ∧ Below w1.heap.size w1 w' ∧ ((∀ x, G1 x → ¬ G2 x) ∧ Wf (i + 1) s'))) := hide (fun X hX => by
          refine (done_any hX.1 hX.2.1 hdj hwf hwf (by omega) hX.2.2.size d e t n g).mono ?_
          rintro r w' ⟨u, rfl, hu, G1, G2, g1, g2, g3, g4, -, -⟩
          rw [hs'] at g1 g2
          refine ⟨_, rfl, by rw [hu rfl], G1, G2, g1, g2, ⟨g4.os.trans hX.2.2.os, g4.tape.trans hX.2.2.tape, g4.output.trans hX.2.2.output, Nat.le_trans hX.2.2.size g4.size, fun k hk => (g4.block k (by have := hX.2.2.size; omega) ⟨fun e => by have := (hX.1.lt k e).1; omega, fun e => by have := (hX.2.1.lt k e).1; omega⟩).trans (hX.2.2.block k hk)⟩, g3, hwf'⟩)
        have CC1 : Hid (∀ X G1, SX G1 w1.heap.size X q s' → Calls Try.prog 11 #[.pointer (some ⟨q, 0, none⟩)] X fun r w' => ∃ u, r = .returned u ∧ (CvR w' u (Bk.cvs s'.e s'.s s'.i s'.g) ∧ Below X.heap.size X w')) := hide (fun X G1 hX => hX.chans hwf')
        have CC2 : Hid (∀ X G2, BX G2 w1.heap.size X b s' → Calls Try.prog 12 #[.pointer (some ⟨b, 0, none⟩)] X fun r w' => ∃ u, r = .returned u ∧ (CvR w' u (Bk.cvs s'.e s'.s s'.i s'.g) ∧ Below X.heap.size X w')) := hide (fun X G2 hX => hX.chans hwf')
        have CP : Hid (∀ X G1, SX G1 w1.heap.size X q s' → ∃ pl ve, X.cell? ⟨q, 0, none⟩ = some (.pointer (some ⟨pl, 0, none⟩)) ∧ LG w1.heap.size X pl ve s'.e) := hide (fun X G1 hX => by
          obtain ⟨pl, ve, vc, P, N, h1, h2, h3⟩ := hX
          exact ⟨pl, ve, h1.c0, h1.lg⟩)
        have CBk : Hid (∀ X G2, BX G2 w1.heap.size X b s' → ∃ vb, X.cell? ⟨b, 0, none⟩ = some vb ∧ EnR X vb s'.e) := hide (fun X G2 hX => by
          obtain ⟨vb, vs, vi, vg, iv, h1, h3⟩ := hX
          exact ⟨vb, h1.c0, own_enr h1.oe⟩)
        have CSC : Hid (∀ X u1 u2 G1 G2, (SX G1 w1.heap.size X q s' ∧ BX G2 w1.heap.size X b s' ∧ Below w1.heap.size w1 X) → CvR X u1 (Bk.cvs s'.e s'.s s'.i s'.g) → CvR X u2 (Bk.cvs s'.e s'.s s'.i s'.g) → Calls Try.prog 10 #[u1, u2] X fun r w' => ∃ u, r = .returned u ∧ (u = .bool true ∧ Below X.heap.size X w' ∧ ∃ pl ve vb, w'.cell? ⟨q, 0, none⟩ = some (.pointer (some ⟨pl, 0, none⟩)) ∧ LG w1.heap.size w' pl ve s'.e ∧ w'.cell? ⟨b, 0, none⟩ = some vb ∧ EnR w' vb s'.e)) := hide (fun X u1 u2 G1 G2 hX h1 h2 => (sameChans_any _ u1 u2 X (by unfold Bk.cvs; rw [List.length_map, List.length_range]; have := hwf'.o.ls; omega) (fun x hx => by
          unfold Bk.cvs at hx
          obtain ⟨k, -, rfl⟩ := List.mem_map.1 hx
          unfold Bk.cv
          simp only [List.getD_eq_getElem?_getD]
          cases hk : s'.i[k]? with
          | none => simp
          | some M => have := hwf'.o.li M (List.mem_of_getElem? hk); simp; omega) h1 h2).mono (fun r w' h => by
          obtain ⟨pl, ve, a1, a2⟩ := CP.out w' G1 (hX.1.keep (Kx.of_below h.2))
          obtain ⟨vb, a3, a4⟩ := CBk.out w' G2 (hX.2.1.keep (Kx.of_below h.2))
          exact ⟨_, h.1, rfl, h.2, pl, ve, vb, a1, a2, a3, a4⟩))
        have CA : Hid (∀ X pl ve, LG w1.heap.size X pl ve s'.e → Calls Try.prog 14 #[.pointer (some ⟨pl, 0, none⟩)] X fun r w' => ∃ u, r = .returned u ∧ (EnR w' u s'.e ∧ Below X.heap.size X w')) := hide (fun X pl ve hX => (all_any hX (by have := hwf'.o.le; omega)).mono (fun r w' h => by
          obtain ⟨u, h1, h2, h3⟩ := h
          exact ⟨u, h1, own_enr h2, h3⟩))
        have CSE : Hid (∀ X u1 u2, EnR X u1 s'.e → EnR X u2 s'.e → Calls Try.prog 13 #[u1, u2] X fun r w' => ∃ u, r = .returned u ∧ (u = .bool true ∧ Below X.heap.size X w')) := hide (fun X u1 u2 h1 h2 => (sameEnds_any _ u1 u2 X (by have := hwf'.o.le; omega) h1 h2).mono (fun r w' h => ⟨_, h.1, rfl, h.2⟩))
        obtain ⟨wb, hwb⟩ : ∃ wb, Bk.wt s e = wb := ⟨_, rfl⟩
        rw [hwb] at CW1 CW2
        clear hc qP hP eP hx hsx hbx hdj hwf hwf' hbw HL hs' hwb HL2
        go_wp2
        refine wp_region_noPanic ?_
        refine wp_region_held_drew (S := fun w' => w'.cell? ⟨gP, oP + i * 5, none⟩ = some (.int .i64 d) ∧ w'.cell? ⟨gP, oP + i * 5 + 1, none⟩ = some (.int .i64 e) ∧ w'.cell? ⟨gP, oP + i * 5 + 2, none⟩ = some (.int .i64 t) ∧ w'.cell? ⟨gP, oP + i * 5 + 3, none⟩ = some (.int .i64 n) ∧ w'.cell? ⟨gP, oP + i * 5 + 4, none⟩ = some (.bool g)) (by kernel_rfl) (HSx.out _ KA.out.2.2) (fun hH => ?_)
        generalize hX : wr.drew = X at *
        clear hX
        refine wpAnyH_take (i := 0) (oi := _) (v := ?_) rfl (by kernel_rfl) (by kernel_rfl) (by kernel_rfl) (fun _ _ _ h => h) (Or.inl ⟨by kernel_rfl, ?_⟩) (by assumption) ?_
        rotate_left
        focus (intro w' hSw; (try dsimp only at hSw); go_simp; (first | done | with_reducible rfl))
        try simp only [Act.put]
        refine wpAnyH_take (i := 1) (oi := _) (v := ?_) rfl (by kernel_rfl) (by kernel_rfl) (by kernel_rfl) (fun _ _ _ h => h) (Or.inl ⟨by kernel_rfl, ?_⟩) (by assumption) ?_
        rotate_left
        focus (intro w' hSw; (try dsimp only at hSw); go_simp; (first | done | with_reducible rfl))
        try simp only [Act.put]
        refine wpAnyH_take (i := 2) (oi := _) (v := ?_) rfl (by kernel_rfl) (by kernel_rfl) (by kernel_rfl) (fun _ _ _ h => h) (Or.inl ⟨by kernel_rfl, ?_⟩) (by assumption) ?_
        rotate_left
        focus (intro w' hSw; (try dsimp only at hSw); go_simp; (first | done | with_reducible rfl))
        try simp only [Act.put]
        refine wpAnyH_take (i := 3) (oi := _) (v := ?_) rfl (by kernel_rfl) (by kernel_rfl) (by kernel_rfl) (fun _ _ _ h => h) (Or.inl ⟨by kernel_rfl, ?_⟩) (by assumption) ?_
        rotate_left
        focus (intro w' hSw; (try dsimp only at hSw); go_simp; (first | done | with_reducible rfl))
        try simp only [Act.put]
        refine wpAnyH_take (i := 4) (oi := _) (v := ?_) rfl (by kernel_rfl) (by kernel_rfl) (by kernel_rfl) (fun _ _ _ h => h) (Or.inl ⟨by kernel_rfl, ?_⟩) (by assumption) ?_
        rotate_left
        focus (intro w' hSw; (try dsimp only at hSw); go_simp; (first | done | with_reducible rfl))
        try simp only [Act.put]
        refine wpAnyH_take (i := 5) (oi := _) (v := ?_) rfl (by kernel_rfl) (by kernel_rfl) (by kernel_rfl) (fun _ _ _ h => h) (Or.inl ⟨by kernel_rfl, ?_⟩) (by assumption) ?_
        rotate_left
        focus (intro w' hSw; (try dsimp only at hSw); go_simp; (first | done | with_reducible rfl))
        try simp only [Act.put]
        refine wpAnyH_take (i := 7) (oi := _) (v := ?_) rfl (by kernel_rfl) (by kernel_rfl) (by kernel_rfl) (fun _ _ _ h => h) (Or.inl ⟨by kernel_rfl, ?_⟩) (by assumption) ?_
        rotate_left
        focus (intro w' hSw; (try dsimp only at hSw); go_simp; (first | done | with_reducible rfl))
        try simp only [Act.put]
        refine wpAnyH_take (i := 8) (oi := _) (v := ?_) rfl (by kernel_rfl) (by kernel_rfl) (by kernel_rfl) (fun _ _ _ h => h) (Or.inl ⟨by kernel_rfl, ?_⟩) (by assumption) ?_
        rotate_left
        focus (intro w' hSw; (try dsimp only at hSw); go_simp; (first | done | with_reducible rfl))
        try simp only [Act.put]
        refine wpAnyH_take (i := 9) (oi := _) (v := ?_) rfl (by kernel_rfl) (by kernel_rfl) (by kernel_rfl) (fun _ _ _ h => h) (Or.inl ⟨by kernel_rfl, ?_⟩) (by assumption) ?_
        rotate_left
        focus (intro w' hSw; (try dsimp only at hSw); go_simp; (first | done | with_reducible rfl))
        try simp only [Act.put]
        refine wpAnyH_take (i := 10) (oi := _) (v := ?_) rfl (by kernel_rfl) (by kernel_rfl) (by kernel_rfl) (fun _ _ _ h => h) (Or.inl ⟨by kernel_rfl, ?_⟩) (by assumption) ?_
        rotate_left
        focus (intro w' hSw; (try dsimp only at hSw); go_simp; (first | done | with_reducible rfl))
        try simp only [Act.put]
        refine wpAnyH_take (i := 11) (oi := _) (v := ?_) rfl (by kernel_rfl) (by kernel_rfl) (by kernel_rfl) (fun _ _ _ h => h) (Or.inl ⟨by kernel_rfl, ?_⟩) (by assumption) ?_
        rotate_left
        focus (intro w' hSw; (try dsimp only at hSw); go_simp; (first | done | with_reducible rfl))
        try simp only [Act.put]
        refine wpAnyH_take (i := 12) (oi := _) (v := ?_) rfl (by kernel_rfl) (by kernel_rfl) (by kernel_rfl) (fun _ _ _ h => h) (Or.inl ⟨by kernel_rfl, ?_⟩) (by assumption) ?_
        rotate_left
        focus (intro w' hSw; (try dsimp only at hSw); go_simp; (first | done | with_reducible rfl))
        try simp only [Act.put]
        refine wpAnyH_ready (rs := [6]) (by kernel_rfl) (by simp) ?_
        refine AllReadyH.cons rfl (fun K hK => ?_) AllReadyH.nil
        with_reducible refine step_call_w (by kernel_rfl) 7 #[.pointer (some ⟨q, 0, none⟩), .int .i64 e] ?_ (CW1.out _ KA.out.1) ?_
        focus (go_simp; done)
        rintro v6 X6 ⟨rfl, hb6⟩
        have K6 := hide (And.intro (KA.out.1.keep (Kx.of_below hb6)) (And.intro (KA.out.2.1.keep (Kx.of_below hb6)) (KA.out.2.2.trans (hb6.mono KA.out.2.2.size))))
        clear hb6
        refine hK.out _ _ (HSx.out _ K6.out.2.2) (fun hH2 => ?_)
        clear hK K
        try simp only [Act.put]
        refine wpAnyH_ready (rs := [13]) (by kernel_rfl) (by simp) ?_
        refine AllReadyH.cons rfl (fun K hK => ?_) AllReadyH.nil
        with_reducible refine step_call_w (by kernel_rfl) 8 #[.pointer (some ⟨b, 0, none⟩), .int .i64 e] ?_ (CW2.out _ K6.out.2.1) ?_
        focus (go_simp; done)
        rintro v13 X13 ⟨rfl, hb13⟩
        have K13 := hide (And.intro (K6.out.1.keep (Kx.of_below hb13)) (And.intro (K6.out.2.1.keep (Kx.of_below hb13)) (K6.out.2.2.trans (hb13.mono K6.out.2.2.size))))
        clear hb13
        refine hK.out _ _ (HSx.out _ K13.out.2.2) (fun hH2 => ?_)
        clear hK K
        try simp only [Act.put]
        refine wpAnyH_take (i := 14) (oi := _) (v := ?_) rfl (by kernel_rfl) (by kernel_rfl) (by kernel_rfl) (fun _ _ _ h => h) (Or.inl ⟨by kernel_rfl, ?_⟩) (by assumption) ?_
        rotate_left
        focus (intro w' hSw; (try dsimp only at hSw); go_simp; (first | done | with_reducible rfl))
        try simp only [Act.put]
        refine wpAnyH_take (i := 15) (oi := _) (v := ?_) rfl (by kernel_rfl) (by kernel_rfl) (by kernel_rfl) (fun _ _ _ h => h) (Or.inl ⟨by kernel_rfl, ?_⟩) (by assumption) ?_
        rotate_left
        focus (intro w' hSw; (try dsimp only at hSw); go_simp; (first | done | with_reducible rfl))
        try simp only [Act.put]
        refine wpAnyH_take (i := 16) (oi := _) (v := ?_) rfl (by kernel_rfl) (by kernel_rfl) (by kernel_rfl) (fun _ _ _ h => h) (Or.inl ⟨by kernel_rfl, ?_⟩) (by assumption) ?_
        rotate_left
        focus (intro w' hSw; (try dsimp only at hSw); go_simp; (first | done | with_reducible rfl))
        try simp only [Act.put]
        refine wpAnyH_take (i := 17) (oi := _) (v := ?_) rfl (by kernel_rfl) (by kernel_rfl) (by kernel_rfl) (fun _ _ _ h => h) (Or.inl ⟨by kernel_rfl, ?_⟩) (by assumption) ?_
        rotate_left
        focus (intro w' hSw; (try dsimp only at hSw); go_simp; (first | done | with_reducible rfl))
        try simp only [Act.put]
        refine wpAnyH_take (i := 18) (oi := _) (v := ?_) rfl (by kernel_rfl) (by kernel_rfl) (by kernel_rfl) (fun _ _ _ h => h) (Or.inl ⟨by kernel_rfl, ?_⟩) (by assumption) ?_
        rotate_left
        focus (intro w' hSw; (try dsimp only at hSw); go_simp; (first | done | with_reducible rfl))
        try simp only [Act.put]
        refine wpAnyH_take (i := 19) (oi := _) (v := ?_) rfl (by kernel_rfl) (by kernel_rfl) (by kernel_rfl) (fun _ _ _ h => h) (Or.inl ⟨by kernel_rfl, ?_⟩) (by assumption) ?_
        rotate_left
        focus (intro w' hSw; (try dsimp only at hSw); go_simp; (first | done | with_reducible rfl))
        try simp only [Act.put]
        refine wpAnyH_take (i := 20) (oi := _) (v := ?_) rfl (by kernel_rfl) (by kernel_rfl) (by kernel_rfl) (fun _ _ _ h => h) (Or.inl ⟨by kernel_rfl, ?_⟩) (by assumption) ?_
        rotate_left
        focus (intro w' hSw; (try dsimp only at hSw); go_simp; (first | done | with_reducible rfl))
        try simp only [Act.put]
        refine wpAnyH_take (i := 21) (oi := _) (v := ?_) rfl (by kernel_rfl) (by kernel_rfl) (by kernel_rfl) (fun _ _ _ h => h) (Or.inl ⟨by kernel_rfl, ?_⟩) (by assumption) ?_
        rotate_left
        focus (intro w' hSw; (try dsimp only at hSw); go_simp; (first | done | with_reducible rfl))
        try simp only [Act.put]
        refine wpAnyH_ready (rs := [22]) (by kernel_rfl) (by simp) ?_
        refine AllReadyH.cons rfl (fun K hK => ?_) AllReadyH.nil
        with_reducible refine step_call_w (by kernel_rfl) 9 #[.pointer (some ⟨q, 0, none⟩), .pointer (some ⟨b, 0, none⟩), .agg #[.int .i64 d, .int .i64 e, .int .i64 t, .int .i64 n, .bool g]] ?_ (CD.out _ K13.out) ?_
        focus (go_simp; done)
        rintro v22 X22 ⟨rfl, G1, G2, k22⟩
        have K22 := hide (And.intro k22.1 (And.intro k22.2.1 k22.2.2.1))
        have HG := hide k22.2.2.2
        clear k22
        refine hK.out _ _ (HSx.out _ K22.out.2.2) (fun hH2 => ?_)
        clear hK K
        try simp only [Act.put]
        refine wpAnyH_take (i := 23) (oi := _) (v := ?_) rfl (by kernel_rfl) (by kernel_rfl) (by kernel_rfl) (fun _ _ _ h => h) (Or.inl ⟨by kernel_rfl, ?_⟩) (by assumption) ?_
        rotate_left
        focus (intro w' hSw; (try dsimp only at hSw); go_simp; (first | done | with_reducible rfl))
        try simp only [Act.put]
        refine wpAnyH_take (i := 24) (oi := _) (v := ?_) rfl (by kernel_rfl) (by kernel_rfl) (by kernel_rfl) (fun _ _ _ h => h) (Or.inl ⟨by kernel_rfl, ?_⟩) (by assumption) ?_
        rotate_left
        focus (intro w' hSw; (try dsimp only at hSw); go_simp; (first | done | with_reducible rfl))
        try simp only [Act.put]
        refine wpAnyH_take (i := 25) (oi := _) (v := ?_) rfl (by kernel_rfl) (by kernel_rfl) (by kernel_rfl) (fun _ _ _ h => h) (Or.inl ⟨by kernel_rfl, ?_⟩) (by assumption) ?_
        rotate_left
        focus (intro w' hSw; (try dsimp only at hSw); go_simp; (first | done | with_reducible rfl))
        try simp only [Act.put]
        refine wpAnyH_take (i := 26) (oi := _) (v := ?_) rfl (by kernel_rfl) (by kernel_rfl) (by kernel_rfl) (fun _ _ _ h => h) (Or.inl ⟨by kernel_rfl, ?_⟩) (by assumption) ?_
        rotate_left
        focus (intro w' hSw; (try dsimp only at hSw); go_simp; (first | done | with_reducible rfl))
        try simp only [Act.put]
        refine wpAnyH_take (i := 28) (oi := _) (v := ?_) rfl (by kernel_rfl) (by kernel_rfl) (by kernel_rfl) (fun _ _ _ h => h) (Or.inl ⟨by kernel_rfl, ?_⟩) (by assumption) ?_
        rotate_left
        focus (intro w' hSw; (try dsimp only at hSw); go_simp; (first | done | with_reducible rfl))
        try simp only [Act.put]
        refine wpAnyH_ready (rs := [27]) (by kernel_rfl) (by simp) ?_
        refine AllReadyH.cons rfl (fun K hK => ?_) AllReadyH.nil
        with_reducible refine step_call_w (by kernel_rfl) 11 #[.pointer (some ⟨q, 0, none⟩)] ?_ (CC1.out _ _ K22.out.1) ?_
        focus (go_simp; done)
        rintro v27 X27 ⟨hc27, hb27⟩
        have K27 := hide (And.intro (K22.out.1.keep (Kx.of_below hb27)) (And.intro (K22.out.2.1.keep (Kx.of_below hb27)) (K22.out.2.2.trans (hb27.mono K22.out.2.2.size))))
        have HV1 := hide hc27
        clear hb27 hc27
        refine hK.out _ _ (HSx.out _ K27.out.2.2) (fun hH2 => ?_)
        clear hK K
        try simp only [Act.put]
        refine wpAnyH_ready (rs := [29]) (by kernel_rfl) (by simp) ?_
        refine AllReadyH.cons rfl (fun K hK => ?_) AllReadyH.nil
        with_reducible refine step_call_w (by kernel_rfl) 12 #[.pointer (some ⟨b, 0, none⟩)] ?_ (CC2.out _ _ K27.out.2.1) ?_
        focus (go_simp; done)
        rintro v29 X29 ⟨hc29, hb29⟩
        have K29 := hide (And.intro (K27.out.1.keep (Kx.of_below hb29)) (And.intro (K27.out.2.1.keep (Kx.of_below hb29)) (K27.out.2.2.trans (hb29.mono K27.out.2.2.size))))
        have HV1 := hide (HV1.out.keep hb29)
        have HV2 := hide hc29
        clear hb29 hc29
        refine hK.out _ _ (HSx.out _ K29.out.2.2) (fun hH2 => ?_)
        clear hK K
        try simp only [Act.put]
        refine wpAnyH_ready (rs := [30]) (by kernel_rfl) (by simp) ?_
        refine AllReadyH.cons rfl (fun K hK => ?_) AllReadyH.nil
        with_reducible refine step_call_w (by kernel_rfl) 10 #[v27, v29] ?_ (CSC.out _ _ _ _ _ K29.out HV1.out HV2.out) ?_
        focus (go_simp; done)
        rintro v30 X30 ⟨rfl, hb30, pl, ve, vb, hq0, hlg, hbq, hlb⟩
        have K30 := hide (And.intro (K29.out.1.keep (Kx.of_below hb30)) (And.intro (K29.out.2.1.keep (Kx.of_below hb30)) (K29.out.2.2.trans (hb30.mono K29.out.2.2.size))))
        have HLG := hide (And.intro hq0 hlg)
        have HLB := hide (And.intro hbq hlb)
        clear hb30 HV1 HV2 hlg hlb
        refine hK.out _ _ (HSx.out _ K30.out.2.2) (fun hH2 => ?_)
        clear hK K
        try simp only [Act.put]
        refine wpAnyH_take (i := 31) (oi := _) (v := ?_) rfl (by kernel_rfl) (by kernel_rfl) (by kernel_rfl) (fun _ _ _ h => h) (Or.inl ⟨by kernel_rfl, ?_⟩) (by assumption) ?_
        rotate_left
        focus (intro w' hSw; (try dsimp only at hSw); go_simp; (first | done | with_reducible rfl))
        try simp only [Act.put]
        refine wpAnyH_take (i := 32) (oi := _) (v := ?_) rfl (by kernel_rfl) (by kernel_rfl) (by kernel_rfl) (fun _ _ _ h => h) (Or.inl ⟨by kernel_rfl, ?_⟩) (by assumption) ?_
        rotate_left
        focus (intro w' hSw; (try dsimp only at hSw); go_simp; (first | done | with_reducible rfl))
        try simp only [Act.put]
        refine wpAnyH_take (i := 33) (oi := _) (v := ?_) rfl (by kernel_rfl) (by kernel_rfl) (by kernel_rfl) (fun _ _ _ h => h) (Or.inl ⟨by kernel_rfl, ?_⟩) (by assumption) ?_
        rotate_left
        focus (intro w' hSw; (try dsimp only at hSw); go_simp; (first | done | with_reducible rfl))
        try simp only [Act.put]
        refine wpAnyH_take (i := 34) (oi := _) (v := ?_) rfl (by kernel_rfl) (by kernel_rfl) (by kernel_rfl) (fun _ _ _ h => h) (Or.inl ⟨by kernel_rfl, ?_⟩) (by assumption) ?_
        rotate_left
        focus (intro w' hSw; (try dsimp only at hSw); go_simp; (first | done | with_reducible rfl))
        try simp only [Act.put]
        refine wpAnyH_take (i := 35) (oi := _) (v := ?_) rfl (by kernel_rfl) (by kernel_rfl) (by kernel_rfl) (fun _ _ _ h => h) (Or.inl ⟨by kernel_rfl, ?_⟩) (by assumption) ?_
        rotate_left
        focus (intro w' hSw; (try dsimp only at hSw); go_simp; (first | done | with_reducible rfl))
        try simp only [Act.put]
        refine wpAnyH_take (i := 36) (oi := _) (v := ?_) rfl (by kernel_rfl) (by kernel_rfl) (by kernel_rfl) (fun _ _ _ h => h) (Or.inl ⟨by kernel_rfl, ?_⟩) (by assumption) ?_
        rotate_left
        focus (intro w' hSw; (try dsimp only at hSw); go_simp; (first | done | with_reducible rfl))
        try simp only [Act.put]
        refine wpAnyH_take (i := 39) (oi := _) (v := ?_) rfl (by kernel_rfl) (by kernel_rfl) (by kernel_rfl) (fun _ _ _ h => h) (Or.inl ⟨by kernel_rfl, ?_⟩) (by assumption) ?_
        rotate_left
        focus (intro w' hSw; (try dsimp only at hSw); go_simp; (first | done | with_reducible rfl))
        try simp only [Act.put]
        refine wpAnyH_take (i := 40) (oi := _) (v := ?_) rfl (by kernel_rfl) (by kernel_rfl) (by kernel_rfl) (fun _ _ _ h => h) (Or.inl ⟨by kernel_rfl, ?_⟩) (by assumption) ?_
        rotate_left
        focus (intro w' hSw; (try dsimp only at hSw); go_simp; (first | done | with_reducible rfl))
        try simp only [Act.put]
        refine wpAnyH_take (i := 41) (oi := _) (v := ?_) rfl (by kernel_rfl) (by kernel_rfl) (by kernel_rfl) (fun _ _ _ h => h) (Or.inl ⟨by kernel_rfl, ?_⟩) (by assumption) ?_
        rotate_left
        focus (intro w' hSw; (try dsimp only at hSw); go_simp; (first | done | with_reducible rfl))
        try simp only [Act.put]
        refine wpAnyH_ready (rs := [37, 42]) (by kernel_rfl) (by simp) ?_
        refine AllReadyH.cons rfl (fun K hK => ?_) (AllReadyH.cons rfl (fun K hK => ?_) AllReadyH.nil)
        · go_simp
          refine hK.out _ _ (HSx.out _ K30.out.2.2) (fun hH2 => ?_)
          clear hK K
          try simp only [Act.put]
          refine wpAnyH_ready (rs := [38, 42]) (by kernel_rfl) (by simp) ?_
          refine AllReadyH.cons rfl (fun K hK => ?_) (AllReadyH.cons rfl (fun K hK => ?_) AllReadyH.nil)
          · with_reducible refine step_call_w (by kernel_rfl) 14 #[.pointer (some ⟨pl, 0, none⟩)] ?_ (CA.out _ _ _ HLG.out.2) ?_
            focus (go_simp; done)
            rintro v38 X38 ⟨hc38, hb38⟩
            have K38 := hide (And.intro (K30.out.1.keep (Kx.of_below hb38)) (And.intro (K30.out.2.1.keep (Kx.of_below hb38)) (K30.out.2.2.trans (hb38.mono K30.out.2.2.size))))
            have HE1 := hide hc38
            have HLB := hide (And.intro (bsome hb38 HLB.out.1) (HLB.out.2.keep hb38))
            have hbq2 := HLB.out.1
            clear hb38 hc38
            refine hK.out _ _ (HSx.out _ K38.out.2.2) (fun hH2 => ?_)
            clear hK K
            try simp only [Act.put]
            refine wpAnyH_ready (rs := [42]) (by kernel_rfl) (by simp) ?_
            refine AllReadyH.cons rfl (fun K hK => ?_) AllReadyH.nil
            go_simp
            refine hK.out _ _ (HSx.out _ K38.out.2.2) (fun hH2 => ?_)
            clear hK K
            try simp only [Act.put]
            refine wpAnyH_ready (rs := [43]) (by kernel_rfl) (by simp) ?_
            refine AllReadyH.cons rfl (fun K hK => ?_) AllReadyH.nil
            with_reducible refine step_call_w (by kernel_rfl) 13 #[v38, vb] ?_ (CSE.out _ _ _ HE1.out HLB.out.2) ?_
            focus (go_simp; done)
            rintro v43 X43 ⟨rfl, hb43⟩
            have K43 := hide (And.intro (K38.out.1.keep (Kx.of_below hb43)) (And.intro (K38.out.2.1.keep (Kx.of_below hb43)) (K38.out.2.2.trans (hb43.mono K38.out.2.2.size))))
            clear hb43
            refine hK.out _ _ (HSx.out _ K43.out.2.2) (fun hH2 => ?_)
            clear hK K
            try simp only [Act.put]
            refine wpAnyH_take (i := 44) (oi := _) (v := ?_) rfl (by kernel_rfl) (by kernel_rfl) (by kernel_rfl) (fun _ _ _ h => h) (Or.inl ⟨by kernel_rfl, ?_⟩) (by assumption) ?_
            rotate_left
            focus (intro w' hSw; (try dsimp only at hSw); go_simp; (first | done | with_reducible rfl))
            try simp only [Act.put]
            refine wpAnyH_take (i := 45) (oi := _) (v := ?_) rfl (by kernel_rfl) (by kernel_rfl) (by kernel_rfl) (fun _ _ _ h => h) (Or.inl ⟨by kernel_rfl, ?_⟩) (by assumption) ?_
            rotate_left
            focus (intro w' hSw; (try dsimp only at hSw); go_simp; (first | done | with_reducible rfl))
            try simp only [Act.put]
            refine wpAnyH_done (by kernel_rfl) (NoPanic.normal ?_) _
            clear HLG HLB HE1 hq0 hbq hbq2
            go_wp2
            go_roundg (l.length - (i + 1))
            case measure => omega
            case rel => exact ⟨i + 1, rfl, by omega, by go_num, hide ⟨_, _, _, K43.out.1, K43.out.2.1, HG.out.1, HG.out.2, K43.out.2.2⟩⟩
          · go_simp
            refine hK.out _ _ (HSx.out _ K30.out.2.2) (fun hH2 => ?_)
            clear hK K
            try simp only [Act.put]
            refine wpAnyH_ready (rs := [38]) (by kernel_rfl) (by simp) ?_
            refine AllReadyH.cons rfl (fun K hK => ?_) AllReadyH.nil
            with_reducible refine step_call_w (by kernel_rfl) 14 #[.pointer (some ⟨pl, 0, none⟩)] ?_ (CA.out _ _ _ HLG.out.2) ?_
            focus (go_simp; done)
            rintro v38 X38 ⟨hc38, hb38⟩
            have K38 := hide (And.intro (K30.out.1.keep (Kx.of_below hb38)) (And.intro (K30.out.2.1.keep (Kx.of_below hb38)) (K30.out.2.2.trans (hb38.mono K30.out.2.2.size))))
            have HE1 := hide hc38
            have HLB := hide (And.intro (bsome hb38 HLB.out.1) (HLB.out.2.keep hb38))
            have hbq2 := HLB.out.1
            clear hb38 hc38
            refine hK.out _ _ (HSx.out _ K38.out.2.2) (fun hH2 => ?_)
            clear hK K
            try simp only [Act.put]
            refine wpAnyH_ready (rs := [43]) (by kernel_rfl) (by simp) ?_
            refine AllReadyH.cons rfl (fun K hK => ?_) AllReadyH.nil
            with_reducible refine step_call_w (by kernel_rfl) 13 #[v38, vb] ?_ (CSE.out _ _ _ HE1.out HLB.out.2) ?_
            focus (go_simp; done)
            rintro v43 X43 ⟨rfl, hb43⟩
            have K43 := hide (And.intro (K38.out.1.keep (Kx.of_below hb43)) (And.intro (K38.out.2.1.keep (Kx.of_below hb43)) (K38.out.2.2.trans (hb43.mono K38.out.2.2.size))))
            clear hb43
            refine hK.out _ _ (HSx.out _ K43.out.2.2) (fun hH2 => ?_)
            clear hK K
            try simp only [Act.put]
            refine wpAnyH_take (i := 44) (oi := _) (v := ?_) rfl (by kernel_rfl) (by kernel_rfl) (by kernel_rfl) (fun _ _ _ h => h) (Or.inl ⟨by kernel_rfl, ?_⟩) (by assumption) ?_
            rotate_left
            focus (intro w' hSw; (try dsimp only at hSw); go_simp; (first | done | with_reducible rfl))
            try simp only [Act.put]
            refine wpAnyH_take (i := 45) (oi := _) (v := ?_) rfl (by kernel_rfl) (by kernel_rfl) (by kernel_rfl) (fun _ _ _ h => h) (Or.inl ⟨by kernel_rfl, ?_⟩) (by assumption) ?_
            rotate_left
            focus (intro w' hSw; (try dsimp only at hSw); go_simp; (first | done | with_reducible rfl))
            try simp only [Act.put]
            refine wpAnyH_done (by kernel_rfl) (NoPanic.normal ?_) _
            clear HLG HLB HE1 hq0 hbq hbq2
            go_wp2
            go_roundg (l.length - (i + 1))
            case measure => omega
            case rel => exact ⟨i + 1, rfl, by omega, by go_num, hide ⟨_, _, _, K43.out.1, K43.out.2.1, HG.out.1, HG.out.2, K43.out.2.2⟩⟩
        · go_simp
          refine hK.out _ _ (HSx.out _ K30.out.2.2) (fun hH2 => ?_)
          clear hK K
          try simp only [Act.put]
          refine wpAnyH_ready (rs := [37]) (by kernel_rfl) (by simp) ?_
          refine AllReadyH.cons rfl (fun K hK => ?_) AllReadyH.nil
          go_simp
          refine hK.out _ _ (HSx.out _ K30.out.2.2) (fun hH2 => ?_)
          clear hK K
          try simp only [Act.put]
          refine wpAnyH_ready (rs := [38]) (by kernel_rfl) (by simp) ?_
          refine AllReadyH.cons rfl (fun K hK => ?_) AllReadyH.nil
          with_reducible refine step_call_w (by kernel_rfl) 14 #[.pointer (some ⟨pl, 0, none⟩)] ?_ (CA.out _ _ _ HLG.out.2) ?_
          focus (go_simp; done)
          rintro v38 X38 ⟨hc38, hb38⟩
          have K38 := hide (And.intro (K30.out.1.keep (Kx.of_below hb38)) (And.intro (K30.out.2.1.keep (Kx.of_below hb38)) (K30.out.2.2.trans (hb38.mono K30.out.2.2.size))))
          have HE1 := hide hc38
          have HLB := hide (And.intro (bsome hb38 HLB.out.1) (HLB.out.2.keep hb38))
          have hbq2 := HLB.out.1
          clear hb38 hc38
          refine hK.out _ _ (HSx.out _ K38.out.2.2) (fun hH2 => ?_)
          clear hK K
          try simp only [Act.put]
          refine wpAnyH_ready (rs := [43]) (by kernel_rfl) (by simp) ?_
          refine AllReadyH.cons rfl (fun K hK => ?_) AllReadyH.nil
          with_reducible refine step_call_w (by kernel_rfl) 13 #[v38, vb] ?_ (CSE.out _ _ _ HE1.out HLB.out.2) ?_
          focus (go_simp; done)
          rintro v43 X43 ⟨rfl, hb43⟩
          have K43 := hide (And.intro (K38.out.1.keep (Kx.of_below hb43)) (And.intro (K38.out.2.1.keep (Kx.of_below hb43)) (K38.out.2.2.trans (hb43.mono K38.out.2.2.size))))
          clear hb43
          refine hK.out _ _ (HSx.out _ K43.out.2.2) (fun hH2 => ?_)
          clear hK K
          try simp only [Act.put]
          refine wpAnyH_take (i := 44) (oi := _) (v := ?_) rfl (by kernel_rfl) (by kernel_rfl) (by kernel_rfl) (fun _ _ _ h => h) (Or.inl ⟨by kernel_rfl, ?_⟩) (by assumption) ?_
          rotate_left
          focus (intro w' hSw; (try dsimp only at hSw); go_simp; (first | done | with_reducible rfl))
          try simp only [Act.put]
          refine wpAnyH_take (i := 45) (oi := _) (v := ?_) rfl (by kernel_rfl) (by kernel_rfl) (by kernel_rfl) (fun _ _ _ h => h) (Or.inl ⟨by kernel_rfl, ?_⟩) (by assumption) ?_
          rotate_left
          focus (intro w' hSw; (try dsimp only at hSw); go_simp; (first | done | with_reducible rfl))
          try simp only [Act.put]
          refine wpAnyH_done (by kernel_rfl) (NoPanic.normal ?_) _
          clear HLG HLB HE1 hq0 hbq hbq2
          go_wp2
          go_roundg (l.length - (i + 1))
          case measure => omega
          case rel => exact ⟨i + 1, rfl, by omega, by go_num, hide ⟨_, _, _, K43.out.1, K43.out.2.1, HG.out.1, HG.out.2, K43.out.2.2⟩⟩
      · obtain rfl : i = l.length := by omega
        have d1 : decide ((l.length : Int) < (l.length : Int)) = false := by simp
        have HF : Hid (Below w.heap.size w wr) := hide (by
          obtain ⟨F1, F2, s, -, -, -, -, hbw⟩ := HL.out
          exact btrans HB1.out hbw)
        clear HL HL2
        go_wp2
        go_ret
        exact ⟨rfl, HF.out⟩
end Go.Proofs.Ytbepaimbbclejaa
