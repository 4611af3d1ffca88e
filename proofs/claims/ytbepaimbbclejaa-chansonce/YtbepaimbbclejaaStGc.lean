import Derived.Test.YtbepaimbbclejaaStGb
import Derived.Test.YtbepaimbbclejaaChR
import Derived.Deep.RegionHeld3
import Derived.Deep.LoopGhost
/- Package chans: Chans. -/
namespace Go.Proofs.Ytbepaimbbclejaa
open Go.RowKit

set_option maxRecDepth 100000
set_option maxHeartbeats 1000000
theorem view_any {B : Nat} {w : World} {p : Pl} {s n : Int} {M : List (Int × Int)} {g : Bool} (h : CH B w p s n M g) : Calls Try.prog 34 #[.pointer (some ⟨p.1, 0, none⟩)] w fun e w' => ∃ r, e = .returned (.agg #[.int .i64 s, .int .i64 n, .bool g, .slice (some ⟨r, 0, none⟩) M.length M.length]) ∧ w.heap.size ≤ r ∧ w'.heap[r]? = some (.cells (icl M).toArray 59 (0, 0)) ∧ Below w.heap.size w w' := by
  obtain ⟨V, hV⟩ : ∃ V, w.alloc (.cells #[.int .i64 0, .int .i64 0, .bool false, .slice none 0 0] 54) = V := ⟨_, rfl⟩
  have hb0 : Below w.heap.size w V := by rw [← hV]; exact (Below.refl _ _).alloc (Nat.le_refl _) _
  have HZ : Hid (∀ X, Below V.heap.size V X → (X.cell? ⟨w.heap.size, 0, none⟩ = some (.int .i64 0) ∧ X.cell? ⟨w.heap.size, 1, none⟩ = some (.int .i64 0) ∧ X.cell? ⟨w.heap.size, 2, none⟩ = some (.bool false) ∧ X.cell? ⟨w.heap.size, 3, none⟩ = some (.slice none 0 0)) ∧ (X.frozen? ⟨w.heap.size, 0, none⟩ = false ∧ X.frozen? ⟨w.heap.size, 1, none⟩ = false ∧ X.frozen? ⟨w.heap.size, 2, none⟩ = false ∧ X.frozen? ⟨w.heap.size, 3, none⟩ = false)) := hide (fun X hX => by
    subst V
    exact ⟨⟨bsome hX (by simp [go_sem]), bsome hX (by simp [go_sem]), bsome hX (by simp [go_sem]), bsome hX (by simp [go_sem])⟩, (hX.frozen (p := ⟨w.heap.size, 0, none⟩) (by simp)).trans (by simp [go_sem]), (hX.frozen (p := ⟨w.heap.size, 1, none⟩) (by simp)).trans (by simp [go_sem]), (hX.frozen (p := ⟨w.heap.size, 2, none⟩) (by simp)).trans (by simp [go_sem]), (hX.frozen (p := ⟨w.heap.size, 3, none⟩) (by simp)).trans (by simp [go_sem])⟩)
  have HS : Hid (∀ X, Below w.heap.size w X → X.cell? ⟨p.1, 0, none⟩ = some (.pointer (some ⟨p.2.1, 0, none⟩)) ∧ X.cell? ⟨p.1, 1, none⟩ = some (.int .i64 n) ∧ X.cell? ⟨p.1, 2, none⟩ = some (.bool g)) := hide (fun X hX => ⟨bsome hX h.c0, bsome hX h.c1, bsome hX h.c2⟩)
  have C1 : Hid (∀ X, Below w.heap.size w X → Calls Try.prog 51 #[.pointer (some ⟨p.2.1, 0, none⟩)] X fun e w' => ∃ u, e = .returned u ∧ (u = .int .i64 s ∧ Below X.heap.size X w')) := hide (fun X hX => (slotsj (h.keep (X := fun _ => True) (Kx.of_below hX) trivial trivial (fun _ _ => trivial)).r).mono (fun e w' q => ⟨_, q.1, by rw [Int.toNat_of_nonneg h.s0], by rw [q.2]; exact Below.refl _ _⟩))
  have C2 : Hid (∀ X, Below w.heap.size w X → Calls Try.prog 52 #[.pointer (some ⟨p.2.1, 0, none⟩)] X fun e w' => ∃ u, e = .returned u ∧ (∃ r, u = .slice (some ⟨r, 0, none⟩) M.length M.length ∧ X.heap.size ≤ r ∧ w'.heap[r]? = some (.cells (icl M).toArray 59 (0, 0)) ∧ Below X.heap.size X w')) := hide (fun X hX => (allj (h.keep (X := fun _ => True) (Kx.of_below hX) trivial trivial (fun _ _ => trivial)).r).mono (fun e w' q => ⟨_, q.1, X.heap.size, rfl, Nat.le_refl _, q.2.1, q.2.2⟩))
  have hVs : V.heap.size = w.heap.size + 1 := by rw [← hV]; simp
  have HV := hide hV
  clear h hV
  go_enter Try.func34, Try.ntmps34
  go_wp2
  rw [HV.out]
  have hbd : Below w.heap.size w V.drew := below_drewN hb0 1
  have kc : Hid (Below V.heap.size V V.drew) := hide (below_drewN (Below.refl _ _) 1)
  have HS1 : Hid (∀ X, Below V.heap.size V X → X.cell? ⟨p.1, 0, none⟩ = some (.pointer (some ⟨p.2.1, 0, none⟩)) ∧ X.cell? ⟨p.1, 1, none⟩ = some (.int .i64 n) ∧ X.cell? ⟨p.1, 2, none⟩ = some (.bool g)) := hide (fun X hX => HS.out X (btrans hb0 hX))
  have D1 : Hid (∀ X, Below V.heap.size V X → Calls Try.prog 51 #[.pointer (some ⟨p.2.1, 0, none⟩)] X fun e w' => ∃ u, e = .returned u ∧ (u = .int .i64 s ∧ Below X.heap.size X w')) := hide (fun X hX => C1.out X (btrans hb0 hX))
  have D2 : Hid (∀ X, Below V.heap.size V X → Calls Try.prog 52 #[.pointer (some ⟨p.2.1, 0, none⟩)] X fun e w' => ∃ u, e = .returned u ∧ (∃ r, u = .slice (some ⟨r, 0, none⟩) M.length M.length ∧ X.heap.size ≤ r ∧ w'.heap[r]? = some (.cells (icl M).toArray 59 (0, 0)) ∧ Below X.heap.size X w')) := hide (fun X hX => C2.out X (btrans hb0 hX))
  have HT : Hid (∀ X (u0 u1 u2 u3 : Value), Below V.heap.size V X → ((((X.setCell ⟨w.heap.size, 0, none⟩ u0).setCell ⟨w.heap.size, 1, none⟩ u1).setCell ⟨w.heap.size, 2, none⟩ u2).setCell ⟨w.heap.size, 3, none⟩ u3).cell? ⟨p.1, 0, none⟩ = some (.pointer (some ⟨p.2.1, 0, none⟩)) ∧ ((((X.setCell ⟨w.heap.size, 0, none⟩ u0).setCell ⟨w.heap.size, 1, none⟩ u1).setCell ⟨w.heap.size, 2, none⟩ u2).setCell ⟨w.heap.size, 3, none⟩ u3).cell? ⟨p.1, 1, none⟩ = some (.int .i64 n) ∧ ((((X.setCell ⟨w.heap.size, 0, none⟩ u0).setCell ⟨w.heap.size, 1, none⟩ u1).setCell ⟨w.heap.size, 2, none⟩ u2).setCell ⟨w.heap.size, 3, none⟩ u3).cell? ⟨p.1, 2, none⟩ = some (.bool g)) := hide (fun X u0 u1 u2 u3 hX => HS.out _ (bset4 (btrans hb0 hX) (Nat.le_refl _) u0 u1 u2 u3))
  have HB0 := hide hb0
  clear hbd hb0 HS C1 C2
  go_region_held3 (fun w' => w'.cell? ⟨p.1, 0, none⟩ = some (.pointer (some ⟨p.2.1, 0, none⟩)) ∧ w'.cell? ⟨p.1, 1, none⟩ = some (.int .i64 n) ∧ w'.cell? ⟨p.1, 2, none⟩ = some (.bool g)) ((first | (with_reducible exact HS1.out _ kc.out) | (with_reducible exact HT.out _ _ _ _ _ kc.out) | go_keep)) ((first
    | (refine step_call_w (by rfl) 51 #[.pointer (some ⟨p.2.1, 0, none⟩)] ?_ (D1.out _ kc.out) ?_; (focus (go_simp; done)); rintro v7 w7 ⟨rfl, hb7⟩; have kc := hide (kc.out.trans (hb7.mono kc.out.size)); clear hb7)
    | (refine step_call_w (by rfl) 52 #[.pointer (some ⟨p.2.1, 0, none⟩)] ?_ (D2.out _ kc.out) ?_; (focus (go_simp; done)); rintro v8 w8 ⟨r, rfl, hr1, hr2, hb8⟩; have HR := hide (And.intro hr1 hr2); have hr0 := kc.out.size; have kc := hide (kc.out.trans (hb8.mono kc.out.size)); obtain ⟨⟨za0, za1, za2, za3⟩, zb0, zb1, zb2, zb3⟩ := HZ.out _ kc.out; clear hb8 hr1 hr2)))
  go_wp2
  refine bodyPost_ret (v := .agg #[.int .i64 s, .int .i64 n, .bool g, .slice (some ⟨r, 0, none⟩) M.length M.length]) (by simp [results, Try.results34, go_sem, za0, za1, za2, za3]) rfl ⟨r, rfl, ?_, ?_, ?_⟩
  · have := HR.out.1; omega
  · have hne : r ≠ w.heap.size := by have := HR.out.1; omega
    exact (Below.heap_setCell _ _ _ _ hne).trans ((Below.heap_setCell _ _ _ _ hne).trans ((Below.heap_setCell _ _ _ _ hne).trans ((Below.heap_setCell _ _ _ _ hne).trans HR.out.2)))
  · exact bset4 (btrans HB0.out kc.out) (Nat.le_refl _) _ _ _ _
end Go.Proofs.Ytbepaimbbclejaa
/- Package chans: Chans, all of them. -/
namespace Go.Proofs.Ytbepaimbbclejaa
open Go.RowKit

/-- A row of views being made. -/
structure CRw (wr : World) (gl n i : Nat) (C : Nat → Cv) : Prop where
  a : ∀ k, k < n * 4 → ∃ v, wr.cell? ⟨gl, k, none⟩ = some v
  t : ∀ k, wr.frozen? ⟨gl, k, none⟩ = false
  d : ∀ k, k < i → wr.cell? ⟨gl, k * 4, none⟩ = some (.int .i64 (C k).n) ∧ wr.cell? ⟨gl, k * 4 + 1, none⟩ = some (.int .i64 (C k).s) ∧ wr.cell? ⟨gl, k * 4 + 2, none⟩ = some (.bool (C k).g) ∧ ∃ r, wr.cell? ⟨gl, k * 4 + 3, none⟩ = some (.slice (some ⟨r, 0, none⟩) (C k).i.length (C k).i.length) ∧ r ≠ gl ∧ wr.heap[r]? = some (.cells (icl (C k).i).toArray 59 (0, 0))
  l : gl < wr.heap.size
theorem CRw.keep {wr w' : World} {gl n i : Nat} {C : Nat → Cv} (h : CRw wr gl n i C) (hb : Below wr.heap.size wr w') : CRw w' gl n i C :=
  ⟨fun k hk => by obtain ⟨v, hv⟩ := h.a k hk; exact ⟨v, bsome hb hv⟩, fun k => (hb.frozen (p := ⟨gl, k, none⟩) h.l).trans (h.t k), fun k hk => by
    obtain ⟨e1, e2, e3, r, e4, e5, e6⟩ := h.d k hk
    exact ⟨bsome hb e1, bsome hb e2, bsome hb e3, r, bsome hb e4, e5, (hb.block r (Array.getElem?_eq_some_iff.1 e6).1).trans e6⟩, Nat.lt_of_lt_of_le h.l hb.size⟩
theorem cset_at {W : World} {g o o' : Nat} {v u : Value} (hb : o ≠ o') (h : W.cell? ⟨g, o', none⟩ = some u) : (W.setCell ⟨g, o, none⟩ v).cell? ⟨g, o', none⟩ = some u := by
  rw [World.cell?_setCell_other _ _ _ _ (fun e => by injection e with _ e; omega)]; exact h
theorem CRw.put {wr : World} {gl n i : Nat} {C : Nat → Cv} (h : CRw wr gl n i C) (hi : i < n) (r : Nat) (hr : r ≠ gl) (hh : wr.heap[r]? = some (.cells (icl (C i).i).toArray 59 (0, 0))) :
    CRw ((((wr.setCell ⟨gl, i * 4, none⟩ (.int .i64 (C i).n)).setCell ⟨gl, i * 4 + 1, none⟩ (.int .i64 (C i).s)).setCell ⟨gl, i * 4 + 2, none⟩ (.bool (C i).g)).setCell ⟨gl, i * 4 + 3, none⟩ (.slice (some ⟨r, 0, none⟩) (C i).i.length (C i).i.length)) gl n (i + 1) C := by
  have hp : ∀ b, b ≠ gl → ((((wr.setCell ⟨gl, i * 4, none⟩ (.int .i64 (C i).n)).setCell ⟨gl, i * 4 + 1, none⟩ (.int .i64 (C i).s)).setCell ⟨gl, i * 4 + 2, none⟩ (.bool (C i).g)).setCell ⟨gl, i * 4 + 3, none⟩ (.slice (some ⟨r, 0, none⟩) (C i).i.length (C i).i.length)).heap[b]? = wr.heap[b]? := fun b hb => (Below.heap_setCell _ _ _ _ hb).trans ((Below.heap_setCell _ _ _ _ hb).trans ((Below.heap_setCell _ _ _ _ hb).trans (Below.heap_setCell _ _ _ _ hb)))
  have ho : ∀ k u, k < i * 4 ∨ i * 4 + 3 < k → wr.cell? ⟨gl, k, none⟩ = some u → ((((wr.setCell ⟨gl, i * 4, none⟩ (.int .i64 (C i).n)).setCell ⟨gl, i * 4 + 1, none⟩ (.int .i64 (C i).s)).setCell ⟨gl, i * 4 + 2, none⟩ (.bool (C i).g)).setCell ⟨gl, i * 4 + 3, none⟩ (.slice (some ⟨r, 0, none⟩) (C i).i.length (C i).i.length)).cell? ⟨gl, k, none⟩ = some u := fun k u hk hu => cset_at (by omega) (cset_at (by omega) (cset_at (by omega) (cset_at (by omega) hu)))
  obtain ⟨v0, q0⟩ := h.a (i * 4) (by omega)
  obtain ⟨v1, q1⟩ := h.a (i * 4 + 1) (by omega)
  obtain ⟨v2, q2⟩ := h.a (i * 4 + 2) (by omega)
  obtain ⟨v3, q3⟩ := h.a (i * 4 + 3) (by omega)
  have s0 := cset_at (v := .slice (some ⟨r, 0, none⟩) (C i).i.length (C i).i.length) (o := i * 4 + 3) (o' := i * 4) (by omega) (cset_at (v := .bool (C i).g) (o := i * 4 + 2) (o' := i * 4) (by omega) (cset_at (v := .int .i64 (C i).s) (o := i * 4 + 1) (o' := i * 4) (by omega) (World.cell?_setCell_same wr ⟨gl, i * 4, none⟩ (.int .i64 (C i).n) q0)))
  have s1 := cset_at (v := .slice (some ⟨r, 0, none⟩) (C i).i.length (C i).i.length) (o := i * 4 + 3) (o' := i * 4 + 1) (by omega) (cset_at (v := .bool (C i).g) (o := i * 4 + 2) (o' := i * 4 + 1) (by omega) (World.cell?_setCell_same (wr.setCell ⟨gl, i * 4, none⟩ (.int .i64 (C i).n)) ⟨gl, i * 4 + 1, none⟩ (.int .i64 (C i).s) (cset_at (by omega) q1)))
  have s2 := cset_at (v := .slice (some ⟨r, 0, none⟩) (C i).i.length (C i).i.length) (o := i * 4 + 3) (o' := i * 4 + 2) (by omega) (World.cell?_setCell_same ((wr.setCell ⟨gl, i * 4, none⟩ (.int .i64 (C i).n)).setCell ⟨gl, i * 4 + 1, none⟩ (.int .i64 (C i).s)) ⟨gl, i * 4 + 2, none⟩ (.bool (C i).g) (cset_at (by omega) (cset_at (by omega) q2)))
  have s3 := World.cell?_setCell_same (((wr.setCell ⟨gl, i * 4, none⟩ (.int .i64 (C i).n)).setCell ⟨gl, i * 4 + 1, none⟩ (.int .i64 (C i).s)).setCell ⟨gl, i * 4 + 2, none⟩ (.bool (C i).g)) ⟨gl, i * 4 + 3, none⟩ (.slice (some ⟨r, 0, none⟩) (C i).i.length (C i).i.length) (cset_at (by omega) (cset_at (by omega) (cset_at (by omega) q3)))
  refine ⟨fun k hk => ?_, fun k => ?_, fun k hk => ?_, by simpa [World.setCell] using h.l⟩
  · rcases (by omega : (k < i * 4 ∨ i * 4 + 3 < k) ∨ k = i * 4 ∨ k = i * 4 + 1 ∨ k = i * 4 + 2 ∨ k = i * 4 + 3) with e | rfl | rfl | rfl | rfl
    · obtain ⟨v, hv⟩ := h.a k hk
      exact ⟨v, ho k v e hv⟩
    · exact ⟨_, s0⟩
    · exact ⟨_, s1⟩
    · exact ⟨_, s2⟩
    · exact ⟨_, s3⟩
  · rw [World.frozen?_setCell, World.frozen?_setCell, World.frozen?_setCell, World.frozen?_setCell]
    exact h.t k
  · by_cases e : k = i
    · subst e
      exact ⟨s0, s1, s2, r, s3, hr, (hp r hr).trans hh⟩
    · obtain ⟨e1, e2, e3, r', e4, e5, e6⟩ := h.d k (by omega)
      exact ⟨ho _ _ (by omega) e1, ho _ _ (by omega) e2, ho _ _ (by omega) e3, r', ho _ _ (by omega) e4, e5, (hp r' e5).trans e6⟩
set_option maxRecDepth 100000
set_option maxHeartbeats 1000000
theorem make_views (n : Nat) (hn : n ≤ 100000) : ∃ Z : Array Value, (∀ k, k < n * 4 → ∃ v, Z[k]? = some v) ∧ ∀ w : World, (Instr.makeSlice 38 (.int .i64 (n : Int)) (.int .i64 (n : Int))).run Try.prog w = .ok (.slice (some ⟨w.heap.size, 0, none⟩) n n) (w.alloc (.cells Z 54)) := by
  obtain ⟨i0, hi, hz0, hz1, hz2⟩ := info_parts Try.infoCv
  refine ⟨madeCells #[Value.int .i64 0, .int .i64 0, .bool false, .slice none 0 0] (n * 4), fun k hk => ⟨_, Array.getElem?_eq_getElem (by rw [size_madeCells]; exact hk)⟩, fun w => ?_⟩
  have := run_make (P := Try.prog) w 38 54 i0 (.agg #[.int .i64 0, .int .i64 0, .bool false, .slice none 0 0]) Try.underlying38 hi hz0 .i64 .i64 (n : Int) (n : Int) (by omega) (Int.le_refl _) (by rw [hz2]; omega) (by omega)
  rw [hz1] at this
  simpa [Value.cells] using this
theorem csChans_any {B : Nat} {w : World} {q pl : Nat} {ve vc : Value} {P : List Pl} {E : List En} {S N : List Int} {I : List (List (Int × Int))} {G : List Bool} (h : ST B w q pl ve vc P E S N I G) (o : BOk E S I G) (hN : SN E N) :
    Calls Try.prog 11 #[.pointer (some ⟨q, 0, none⟩)] w fun r w' => ∃ u, r = .returned u ∧ CvR w' u (Bk.cvs E S I G) ∧ Below w.heap.size w w' := by
  obtain ⟨l1, l2, l3, l4⟩ := h.ln
  have hlS := o.ls
  obtain ⟨Z, hZ, hmk⟩ := make_views P.length (by omega)
  obtain ⟨a, cp, hvc⟩ := own_slicei h.oc
  subst hvc
  have hb0 : Below w.heap.size w (w.alloc (.cells Z 54)) := (Below.refl _ _).alloc (Nat.le_refl _) _
  have H0 : Hid (CRw (w.alloc (.cells Z 54)) w.heap.size P.length 0 (Bk.cv E S I G)) := hide ⟨fun k hk => by obtain ⟨v, hv⟩ := hZ k hk; exact ⟨v, by simp [go_sem, hv]⟩, fun k => by simp [go_sem], fun k hk => by omega, by simp⟩
  have hmk' := hmk w
  have c1 := h.c1
  have c1' := bsome hb0 h.c1
  have HH := hide h
  have HL : Hid (S.length = P.length) := hide l1
  have HV : Hid (∀ (i : Nat) p X, P[i]? = some p → Below w.heap.size w X → Calls Try.prog 34 #[.pointer (some ⟨p.1, 0, none⟩)] X fun e w' => ∃ r, e = .returned (.agg #[.int .i64 (Bk.cv E S I G i).n, .int .i64 (Bk.cv E S I G i).s, .bool (Bk.cv E S I G i).g, .slice (some ⟨r, 0, none⟩) (Bk.cv E S I G i).i.length (Bk.cv E S I G i).i.length]) ∧ X.heap.size ≤ r ∧ w'.heap[r]? = some (.cells (icl (Bk.cv E S I G i).i).toArray 59 (0, 0)) ∧ Below X.heap.size X w') := hide (fun i p X hp hX => by
    obtain ⟨s, n, M, g, e1, e2, e3, e4, hc⟩ := h.all hp
    have hil := (List.getElem?_eq_some_iff.1 hp).1
    rw [hN i (by omega)] at e2
    cases e2
    have := view_any (hc.keep (X := fun _ => True) (Kx.of_below hX) trivial trivial (fun _ _ => trivial))
    unfold Bk.cv
    simp only [List.getD_eq_getElem?_getD, e1, e3, e4, Option.getD_some]
    exact this)
  have hln : P.length ≤ 100000 := by omega
  clear h o hN l1 l2 l3 l4 hmk hZ hlS
  go_enter Try.func11, Try.ntmps11
  go_wp2
  generalize hW : w.alloc (.cells Z 54) = W at *
  go_loopg [17] P.length (fun gh iv wr => ∃ (i : Nat), gh = P.length - i ∧ i ≤ P.length ∧ iv = .int .i64 i ∧ Hid (CRw wr w.heap.size P.length i (Bk.cv E S I G)) ∧ Hid (Below w.heap.size w wr))
  case atStart => exact ⟨0, rfl, Nat.zero_le _, rfl, H0, hide hb0⟩
  case round =>
    obtain ⟨i, rfl, hik, rfl, HO, HB⟩ := hrel
    by_cases hlt : i < P.length
    · have d1 : decide ((i : Int) < (P.length : Int)) = true := by simp; omega
      obtain ⟨p, hp⟩ : ∃ p, P[i]? = some p := ⟨_, List.getElem?_eq_getElem hlt⟩
      obtain ⟨g, cp', e8, k1, -, -⟩ := own_one HH.out.oc (c := i) (u := .pointer (some ⟨p.1, 0, none⟩)) (by simp [pcl, hp])
      obtain ⟨rfl, rfl⟩ : a = some ⟨g, 0, none⟩ ∧ cp = cp' := by simpa using e8
      have k1 := bsome HB.out k1
      have i0 : (0 : Int) ≤ (i : Int) := by omega
      have i1 : (i : Int) < (P.length : Int) := by omega
      have HC := hide (HV.out i p wr hp HB.out)
      obtain ⟨x, hx⟩ : ∃ x, x = Bk.cv E S I G i := ⟨_, rfl⟩
      rw [← hx] at HC
      have HX := hide hx
      clear hp e8 hx
      go_wp2_with fail
      refine HC.out.mono ?_
      rintro e w1 ⟨r, rfl, hr, hh, hb⟩
      have HO1 := hide (HO.out.keep hb)
      have HB1 := hide (btrans HB.out hb)
      have hrn : r ≠ w.heap.size := by have := HO.out.l; omega
      obtain ⟨v0, q0⟩ := HO1.out.a (i * 4) (by omega)
      obtain ⟨v1, q1⟩ := HO1.out.a (i * 4 + 1) (by omega)
      obtain ⟨v2, q2⟩ := HO1.out.a (i * 4 + 2) (by omega)
      obtain ⟨v3, q3⟩ := HO1.out.a (i * 4 + 3) (by omega)
      have t0 := HO1.out.t (i * 4)
      have t1 := HO1.out.t (i * 4 + 1)
      have t2 := HO1.out.t (i * 4 + 2)
      have t3 := HO1.out.t (i * 4 + 3)
      have HN : Hid (CRw ((((w1.setCell ⟨w.heap.size, i * 4, none⟩ (.int .i64 x.n)).setCell ⟨w.heap.size, i * 4 + 1, none⟩ (.int .i64 x.s)).setCell ⟨w.heap.size, i * 4 + 2, none⟩ (.bool x.g)).setCell ⟨w.heap.size, i * 4 + 3, none⟩ (.slice (some ⟨r, 0, none⟩) x.i.length x.i.length)) w.heap.size P.length (i + 1) (Bk.cv E S I G)) := hide (by
        have hx := HX.out
        subst hx
        exact HO1.out.put hlt r hrn hh)
      have HB2 : Hid (Below w.heap.size w ((((w1.setCell ⟨w.heap.size, i * 4, none⟩ (.int .i64 x.n)).setCell ⟨w.heap.size, i * 4 + 1, none⟩ (.int .i64 x.s)).setCell ⟨w.heap.size, i * 4 + 2, none⟩ (.bool x.g)).setCell ⟨w.heap.size, i * 4 + 3, none⟩ (.slice (some ⟨r, 0, none⟩) x.i.length x.i.length))) := hide (bset (bset (bset (bset HB1.out (p := ⟨w.heap.size, i * 4, none⟩) (Nat.le_refl _) _) (p := ⟨w.heap.size, i * 4 + 1, none⟩) (Nat.le_refl _) _) (p := ⟨w.heap.size, i * 4 + 2, none⟩) (Nat.le_refl _) _) (p := ⟨w.heap.size, i * 4 + 3, none⟩) (Nat.le_refl _) _)
      clear hb hh HO HO1 HB HB1 H0 k1
      go_wp2
      go_roundg (P.length - (i + 1))
      case measure => omega
      case rel => exact ⟨i + 1, rfl, by omega, by go_num, HN, HB2⟩
    · obtain rfl : i = P.length := by omega
      have d1 : decide ((P.length : Int) < (P.length : Int)) = false := by simp
      have HR : Hid (CvR wr (.slice (some ⟨w.heap.size, 0, none⟩) P.length P.length) (Bk.cvs E S I G)) := hide (by
        refine ⟨some ⟨w.heap.size, 0, none⟩, P.length, ?_, fun _ => ⟨w.heap.size, 0, rfl, fun k x hx => ?_⟩⟩
        · unfold Bk.cvs; rw [List.length_map, List.length_range, HL.out]
        · have hk := (List.getElem?_eq_some_iff.1 hx).1
          unfold Bk.cvs at hx hk
          rw [List.length_map, List.length_range, HL.out] at hk
          rw [List.getElem?_map, List.getElem?_range (by rw [HL.out]; exact hk)] at hx
          cases hx
          obtain ⟨e1, e2, e3, r, e4, e5, e6⟩ := HO.out.d k hk
          rw [Nat.zero_add]
          refine ⟨e1, e2, e3, _, e4, _, _, rfl, fun _ => ⟨r, 0, rfl, fun j y hy => ?_⟩⟩
          rw [Nat.zero_add]
          exact itr_of e6 j y hy)
      clear HO H0
      go_wp2
      go_ret
      exact ⟨_, rfl, HR.out, HB.out⟩
end Go.Proofs.Ytbepaimbbclejaa
