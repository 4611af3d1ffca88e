import Derived.Test.YtibhbbgpeckkfaaRnkC
/- How far it is to a node: the document's own. -/
namespace Go.Proofs.Ytibhbbgpeckkfaa
open Go.RowKit

namespace Rk
theorem far_eq : far = 1073741824 := rfl
def tot : List Nat → Nat
  | [] => 0
  | x :: l => x + tot l
theorem tot_set : ∀ (l : List Nat) (i y : Nat), i < l.length → y < g l i → tot (l.set i y) < tot l
  | x :: l, 0, y, _, h => by
    simp [g] at h
    simp only [List.set_cons_zero, tot]
    omega
  | x :: l, i + 1, y, hi, h => by
    have := tot_set l i y (by simpa using hi) (by simpa [g] using h)
    simp only [List.set_cons_succ, tot]
    omega
/-- What is told is a way. -/
structure Sp (n : Nat) (E : Eg) (v : Nat) (o : List Nat) : Prop where
  len : o.length = n
  le : ∀ x, g o x ≤ far
  way : ∀ x, g o x < far → x < n → ∃ m, Ch (fromE E v) (x :: (m ++ [v])) ∧ m.length + 1 = g o x
theorem Sp.lower {n : Nat} {E : Eg} {v : Nat} {o : List Nat} (h : Sp n E v o) (hE : In n E) {e : Nat × Nat} (he : e ∈ fromE E v) (hlt : dst o v e.2 < g o e.1) : Sp n E v (o.set e.1 (dst o v e.2)) := by
  have hn := hE e (mem_fromE.1 he).1
  have hl := h.len
  refine ⟨by simpa using hl, fun x => ?_, fun x hx hxn => ?_⟩
  · rw [g_set _ _ _ _ (by omega)]
    have := h.le x
    have := h.le e.1
    split <;> omega
  · rw [g_set _ _ _ _ (by omega)] at hx ⊢
    by_cases hb : e.1 = x
    · rw [if_pos hb] at hx ⊢
      unfold dst at hx hlt ⊢
      by_cases h2 : e.2 = v
      · rw [if_pos h2]
        refine ⟨[], ?_, rfl⟩
        have h3 : (e.1, e.2) ∈ fromE E v := he
        rw [hb, h2] at h3
        exact ⟨h3, trivial⟩
      · rw [if_neg h2] at hx hlt ⊢
        by_cases h3 : g o e.2 < far
        · rw [if_pos h3]
          obtain ⟨m, h4, h5⟩ := h.way e.2 h3 hn.2
          refine ⟨e.2 :: m, ?_, by simp; omega⟩
          rw [← hb]
          exact ⟨he, h4⟩
        · rw [if_neg h3] at hlt
          have := h.le e.1
          omega
    · rw [if_neg hb] at hx ⊢
      exact h.way x hx hxn
theorem sp_zero (n : Nat) (E : Eg) (v : Nat) : Sp n E v (List.replicate n far) := by
  have hg : ∀ x, x < n → g (List.replicate n far) x = far := fun x hx => by simp [g, List.getD_eq_getElem?_getD, hx]
  refine ⟨List.length_replicate, fun x => ?_, fun x hx hxn => ?_⟩
  · by_cases hx : x < n
    · rw [hg x hx]
      exact Nat.le_refl _
    · simp [g, List.getD_eq_getElem?_getD, hx]
  · rw [hg x hxn] at hx
    omega
/-- No edge of the first ones makes it shorter. -/
def FixTo (E : Eg) (v : Nat) (o : List Nat) (i : Nat) : Prop := ∀ e ∈ E.take i, v ≤ e.1 → v ≤ e.2 → g o e.1 ≤ dst o v e.2
theorem FixTo.next {E : Eg} {v : Nat} {o : List Nat} {i : Nat} {e : Nat × Nat} (h : FixTo E v o i) (he : E[i]? = some e) (hn : v ≤ e.1 → v ≤ e.2 → g o e.1 ≤ dst o v e.2) : FixTo E v o (i + 1) := by
  intro x hx
  rw [List.take_add_one, he] at hx
  rcases List.mem_append.1 hx with hx | hx
  · exact h x hx
  · obtain rfl : x = e := by simpa using hx
    exact hn
/-- How a pass stands. -/
structure Ps (n : Nat) (E : Eg) (v : Nat) (o0 o : List Nat) (m : Bool) (i : Nat) : Prop where
  sp : Sp n E v o
  le : tot o ≤ tot o0
  lt : m = true → tot o < tot o0
  eq : m = false → o = o0 ∧ FixTo E v o0 i
theorem Ps.start {n : Nat} {E : Eg} {v : Nat} {o : List Nat} (h : Sp n E v o) : Ps n E v o o false 0 := ⟨h, Nat.le_refl _, (fun e => by cases e), (fun _ => ⟨rfl, fun e he => by simp at he⟩)⟩
theorem Ps.lower {n : Nat} {E : Eg} {v : Nat} {o0 o : List Nat} {m : Bool} {i : Nat} (h : Ps n E v o0 o m i) (hE : In n E) {e : Nat × Nat} (he : e ∈ E) (h1 : v ≤ e.1) (h2 : v ≤ e.2) (hlt : dst o v e.2 < g o e.1) : Ps n E v o0 (o.set e.1 (dst o v e.2)) true (i + 1) := by
  have := tot_set o e.1 (dst o v e.2) (by rw [h.sp.len]; exact (hE e he).1) hlt
  have := h.le
  exact ⟨h.sp.lower hE (mem_fromE.2 ⟨he, h1, h2⟩) hlt, by omega, (fun _ => by omega), (fun e => by cases e)⟩
theorem Ps.skip {n : Nat} {E : Eg} {v : Nat} {o0 o : List Nat} {m : Bool} {i : Nat} {e : Nat × Nat} (h : Ps n E v o0 o m i) (he : E[i]? = some e) (hn : v ≤ e.1 → v ≤ e.2 → g o e.1 ≤ dst o v e.2) : Ps n E v o0 o m (i + 1) :=
  ⟨h.sp, h.le, h.lt, fun hm => ⟨(h.eq hm).1, (h.eq hm).2.next he (by rw [← (h.eq hm).1]; exact hn)⟩⟩
theorem Ps.done {n : Nat} {E : Eg} {v : Nat} {o0 o : List Nat} (h : Ps n E v o0 o false E.length) : Sh n (fromE E v) v o := by
  obtain ⟨h1, h2⟩ := h.eq rfl
  refine ⟨h.sp.len, h.sp.le, h.sp.way, fun e he => ?_⟩
  obtain ⟨h3, h4, h5⟩ := mem_fromE.1 he
  subst h1
  exact h2 e (by rw [List.take_length]; exact h3) h4 h5
end Rk
/-- A row's numbers, read. -/
def rdN (w : World) (g k : Nat) : Nat := match w.cell? ⟨g, k, none⟩ with
  | some (.int _ x) => x.toNat
  | _ => 0
def msr (w : World) (g n : Nat) : Nat := Rk.tot ((List.range n).map (rdN w g))
theorem msr_is {g : Nat} {w : World} {o : List Nat} (h : AR g w (up o)) : msr w g o.length = Rk.tot o := by
  unfold msr
  congr 1
  apply List.ext_getElem?
  intro k
  by_cases hk : k < o.length
  · have h1 := h.cell k _ (up_get (List.getElem?_eq_getElem hk))
    rw [List.getElem?_map, List.getElem?_range hk, List.getElem?_eq_getElem hk]
    simp [rdN, h1]
  · rw [List.getElem?_eq_none (by simp; omega), List.getElem?_eq_none (by omega)]
def bo : Value → Nat
  | .bool true => 1
  | _ => 0
def fif (n k : Nat) : List Nat := List.replicate k Rk.far ++ List.replicate (n - k) 0
theorem fif_len {n k : Nat} (h : k ≤ n) : (fif n k).length = n := by simp [fif]; omega
theorem fif_set {n k : Nat} (h : k < n) : (fif n k).set k Rk.far = fif n (k + 1) := by
  apply List.ext_getElem?
  intro j
  unfold fif
  by_cases hj : j = k
  · subst hj
    rw [List.getElem?_set_self (by simp; omega), List.getElem?_append_left (by simp)]
    simp
  · rw [List.getElem?_set_ne (by omega)]
    by_cases hlt : j < k
    · rw [List.getElem?_append_left (by simpa using hlt), List.getElem?_append_left (by simp; omega)]
      simp [List.getElem?_replicate, hlt]
      omega
    · rw [List.getElem?_append_right (by simp; omega), List.getElem?_append_right (by simp; omega)]
      simp only [List.length_replicate, List.getElem?_replicate]
      have : (j - k < n - k) ↔ (j - (k + 1) < n - (k + 1)) := by omega
      simp [this]
theorem fif_all (n : Nat) : fif n n = List.replicate n Rk.far := by simp [fif]
/-- What Shortest answers. -/
def GSP (E : Rk.Eg) (n v : Nat) (w : World) (e : Ending) (w' : World) : Prop :=
  ∃ (ga : Nat) (o : List Nat), e = .returned (.slice (some ⟨ga, 0, none⟩) n n) ∧ AR ga w' (up o) ∧ w.heap.size ≤ ga ∧ Rk.Sh n (Rk.fromE E v) v o ∧ Below w.heap.size w w'
theorem wrap_up (x : Nat) (h : x < 1073741824) : wrap64 (((x : Nat) : Int) + 1) = ((x : Nat) : Int) + 1 := by unfold wrap64; omega
theorem lt_far {x : Nat} (h : x < 1073741824) : decide (((x : Nat) : Int) < 1073741824) = true := by simp; omega
theorem ge_far {x : Nat} (h : ¬ x < 1073741824) : decide (((x : Nat) : Int) < 1073741824) = false := by simp; omega
theorem le_far {x : Nat} (h : x ≤ 1073741824) : decide ((1073741824 : Int) < ((x : Nat) : Int)) = false := by simp; omega
theorem lt_up {x y : Nat} (h : x + 1 < y) : decide (((x : Nat) : Int) + 1 < ((y : Nat) : Int)) = true := by simp; omega
theorem ge_up {x y : Nat} (h : ¬ x + 1 < y) : decide (((x : Nat) : Int) + 1 < ((y : Nat) : Int)) = false := by simp; omega
set_option maxRecDepth 100000 in
set_option maxHeartbeats 4000000 in
theorem gshort_any (n v : Nat) (E : Rk.Eg) (ve : Value) (w : World) (h : ER w ve (up2 E)) (hE : Rk.In n E) (hn : n ≤ 300) (hl : E.length ≤ 20000) (hv : v < n) :
    Calls Try.prog 21 #[.int .i64 n, ve, .int .i64 v, .int .i64 v] w (GSP E n v w) := by
  obtain ⟨Z, hZ, mk⟩ := make_ints n hn
  have HLT := hide (h.lt)
  obtain ⟨a, c, rfl, h⟩ := h
  rw [up2_len] at *
  have HR := hide h
  have HE := hide hE
  have HA0 := hide (ar_new w Z n hZ)
  clear h hE hZ
  go_enter Try.func21, Try.ntmps21
  go_wp2
  obtain ⟨W, hW⟩ : ∃ W, w.alloc (.cells Z 3) = W := ⟨_, rfl⟩
  have HK0 : Hid (Kx (fun b => b ≠ w.heap.size) w W) := hide (by rw [← hW]; exact (Kx.refl _ _).alloc _)
  rw [hW] at HA0 ⊢
  clear hW mk
  go_loopw [10] (fun iv wr => ∃ k : Nat, k ≤ n ∧ iv = .int .i64 k ∧ Hid (AR w.heap.size wr (up (fif n k))) ∧ Hid (Kx (fun b => b ≠ w.heap.size) w wr)) (fun iv _ => n - (intOf iv).toNat)
  case atStart => exact ⟨0, Nat.zero_le _, rfl, hide (by unfold fif; simp only [List.replicate_zero, List.nil_append, Nat.sub_zero]; rw [up_rep]; exact HA0.out), HK0⟩
  case round =>
    obtain ⟨k, hk, rfl, HA, HK⟩ := hrel
    by_cases hlt : k < n
    · have d1 : decide ((k : Int) < (n : Int)) = true := by simp; omega
      have k0 : (0 : Int) ≤ (k : Int) := by omega
      have k1 : (k : Int) < (n : Int) := by omega
      have c0 := HA.out.cell _ _ (up_g (o := fif n k) (v := k) (by rw [fif_len hk]; exact hlt))
      have f0 := HA.out.thaw k
      have RA := hide (HA.out.set (up_g (o := fif n k) (v := k) (by rw [fif_len hk]; exact hlt)) ((Rk.far : Nat) : Int))
      rw [up_set, fif_set hlt] at RA
      have RK := hide (HK.out.set (p := ⟨w.heap.size, k, none⟩) (.inr (fun e => e rfl)) (.int .i64 1073741824))
      clear HA HK
      go_wp2
      go_roundw
      case rel => exact ⟨k + 1, by omega, by go_num, RA, RK⟩
      case measure => simp [intOf]; omega
    · obtain rfl : k = n := by omega
      have d1 : decide ((k : Int) < (k : Int)) = false := by simp
      rw [fif_all] at HA
      have HS0 := hide (Rk.sp_zero k E v)
      generalize hO : List.replicate k Rk.far = O at *
      clear hO
      go_wp2
      obtain ⟨wo, hwo⟩ : ∃ wo, wr = wo := ⟨_, rfl⟩
      subst wr
      go_loopw [11] (fun mv wr => ∃ (o : List Nat) (m : Bool), mv = .bool m ∧ Hid (AR w.heap.size wr (up o)) ∧ Hid (Kx (fun b => b ≠ w.heap.size) w wr) ∧ Hid (Rk.Sp k E v o) ∧ Hid (m = false → Rk.Sh k (Rk.fromE E v) v o)) (fun mv wr => 2 * msr wr w.heap.size k + bo mv)
      case atStart => exact ⟨O, true, rfl, HA, HK, HS0, hide (fun e => by cases e)⟩
      case round =>
        obtain ⟨o, m, rfl, HA2, HK2, HS2, HF2⟩ := hrel
        cases m with
        | false =>
          go_wp2
          go_ret
          exact ⟨w.heap.size, o, rfl, HA2.out, Nat.le_refl _, HF2.out (by simp), HK2.out.below_of (fun b hb => by show b ≠ w.heap.size; omega)⟩
        | true =>
          have hmo : msr wr w.heap.size k = Rk.tot o := by rw [← msr_is HA2.out, HS2.out.len]
          go_wp2
          obtain ⟨wp, hwp⟩ : ∃ wp, wr = wp := ⟨_, rfl⟩
          subst wr
          go_loopw [11, 12] (fun mv iv wr => ∃ (i : Nat) (s : List Nat) (m : Bool), i ≤ E.length ∧ mv = .bool m ∧ iv = .int .i64 i ∧ Hid (AR w.heap.size wr (up s)) ∧ Hid (Kx (fun b => b ≠ w.heap.size) w wr) ∧ Hid (Rk.Ps k E v o s m i)) (fun mv iv _ => E.length - (intOf iv).toNat)
          case atStart => exact ⟨0, o, false, Nat.zero_le _, rfl, rfl, HA2, HK2, hide (Rk.Ps.start HS2.out)⟩
          case round =>
            obtain ⟨i, s, m, hi, rfl, rfl, HA1, HK1, HP1⟩ := hrel
            by_cases hlt : i < E.length
            · have d2 : decide ((i : Int) < (E.length : Int)) = true := by simp; omega
              obtain ⟨e, he⟩ : ∃ e, E[i]? = some e := ⟨_, List.getElem?_eq_getElem hlt⟩
              have HI := hide he
              obtain ⟨g, off, rfl, q⟩ := HR.out (up2_ne hlt)
              have hgw := HLT.out (up2_ne hlt) g rfl
              have c0 := HK1.out.cell (q i _ (up2_get he)).1 (by show g ≠ w.heap.size; omega)
              have c1 := HK1.out.cell (q i _ (up2_get he)).2 (by show g ≠ w.heap.size; omega)
              have hE1 := HE.out e (List.mem_of_getElem? he)
              have hsl := HP1.out.sp.len
              have a1 := HA1.out.cell _ _ (up_g (o := s) (v := e.1) (by omega))
              have a2 := HA1.out.cell _ _ (up_g (o := s) (v := e.2) (by omega))
              have b1 := HP1.out.sp.le e.1
              have b2 := HP1.out.sp.le e.2
              have f1 := HA1.out.thaw e.1
              rw [Rk.far_eq] at b1 b2
              have hi0 : (0 : Int) ≤ (i : Int) := by omega
              have hi1 : (i : Int) < (E.length : Int) := by omega
              clear q he
              obtain ⟨ea, eb⟩ := e
              simp only at c0 c1 a1 a2 b1 b2 f1 hE1
              have p0 : (0 : Int) ≤ (ea : Int) := by omega
              have p1 : (ea : Int) < (k : Int) := by omega
              have p2 : (0 : Int) ≤ (eb : Int) := by omega
              have p3 : (eb : Int) < (k : Int) := by omega
              by_cases hv1 : v ≤ ea
              · have dv1 : decide ((ea : Int) < (v : Int)) = false := by simp; omega
                by_cases hv2 : v ≤ eb
                · have dv2 : decide ((eb : Int) < (v : Int)) = false := by simp; omega
                  by_cases hbv : eb = v
                  · have hdst : Rk.dst s v eb = 1 := by unfold Rk.dst; rw [if_pos hbv]
                    have dq : ((eb : Int) == (v : Int)) = true := by simp; omega
                    by_cases hlt2 : 1 < Rk.g s ea
                    · have dl : (1 : Int) < ((Rk.g s ea : Nat) : Int) := by omega
                      have HA2 : Hid (∀ k, AR w.heap.size ((wr.drewN k).setCell ⟨w.heap.size, ea, none⟩ (.int .i64 1)) (up (s.set ea (Rk.dst s v eb)))) := hide fun k => by
                        have := (HA1.out.keep (w' := wr.drewN k) rfl (Nat.le_refl _)).set (up_g (o := s) (v := ea) (by omega)) ((Rk.dst s v eb : Nat) : Int)
                        rw [up_set, hdst] at this
                        rw [hdst]
                        exact this
                      have HK2 : Hid (∀ k, Kx (fun b => b ≠ w.heap.size) w ((wr.drewN k).setCell ⟨w.heap.size, ea, none⟩ (.int .i64 1))) := hide fun k => (HK1.out.drewN k).set (.inr (fun e => e rfl)) _
                      have HP2 := hide (HP1.out.lower HE.out (List.mem_of_getElem? HI.out) hv1 hv2 (by rw [hdst]; exact hlt2))
                      clear HA1 HK1 HP1 hdst HI
                      go_wp2
                      go_quiet (fail)
                      go_wp2
                      go_roundw
                      case rel => exact ⟨i + 1, s.set ea (Rk.dst s v eb), true, by omega, rfl, by go_num, hide (HA2.out _), hide (HK2.out _), HP2⟩
                      case measure => simp [intOf]; omega
                    · have dl : decide ((1 : Int) < ((Rk.g s ea : Nat) : Int)) = false := by simp; omega
                      have HA2 : Hid (∀ k, AR w.heap.size (wr.drewN k) (up s)) := hide fun k => HA1.out.keep rfl (Nat.le_refl _)
                      have HK2 : Hid (∀ k, Kx (fun b => b ≠ w.heap.size) w (wr.drewN k)) := hide fun k => HK1.out.drewN k
                      have HP2 := hide (HP1.out.skip HI.out (fun _ _ => by rw [hdst]; show Rk.g s ea ≤ 1; omega))
                      clear HA1 HK1 HP1 HI
                      go_wp2
                      go_quiet (fail)
                      go_wp2
                      go_roundw
                      case rel => exact ⟨i + 1, s, m, by omega, rfl, by go_num, hide (HA2.out _), hide (HK2.out _), HP2⟩
                      case measure => simp [intOf]; omega
                  · have dq : ((eb : Int) == (v : Int)) = false := by simp; omega
                    by_cases hf : Rk.g s eb < 1073741824
                    · have hdst : Rk.dst s v eb = Rk.g s eb + 1 := by unfold Rk.dst; rw [if_neg hbv, if_pos (by rw [Rk.far_eq]; exact hf)]
                      have df := lt_far hf
                      have hs1 := wrap_up _ hf
                      clear hf b1 b2
                      by_cases hlt2 : Rk.g s eb + 1 < Rk.g s ea
                      · have dl := lt_up hlt2
                        have HA2 : Hid (∀ k, AR w.heap.size ((wr.drewN k).setCell ⟨w.heap.size, ea, none⟩ (.int .i64 ((Rk.g s eb : Nat) + 1))) (up (s.set ea (Rk.dst s v eb)))) := hide fun k => by
                          have := (HA1.out.keep (w' := wr.drewN k) rfl (Nat.le_refl _)).set (up_g (o := s) (v := ea) (by omega)) ((Rk.dst s v eb : Nat) : Int)
                          rw [up_set, hdst] at this
                          rw [hdst]
                          exact this
                        have HK2 : Hid (∀ k, Kx (fun b => b ≠ w.heap.size) w ((wr.drewN k).setCell ⟨w.heap.size, ea, none⟩ (.int .i64 ((Rk.g s eb : Nat) + 1)))) := hide fun k => (HK1.out.drewN k).set (.inr (fun e => e rfl)) _
                        have HP2 := hide (HP1.out.lower HE.out (List.mem_of_getElem? HI.out) hv1 hv2 (by rw [hdst]; exact hlt2))
                        clear HA1 HK1 HP1 hdst HI
                        generalize (1073741824 : Int) = FF at *
                        go_wp2
                        go_quiet (fail)
                        go_wp2
                        go_roundw
                        case rel => exact ⟨i + 1, s.set ea (Rk.dst s v eb), true, by omega, rfl, by go_num, hide (HA2.out _), hide (HK2.out _), HP2⟩
                        case measure => simp [intOf]; omega
                      · have dl := ge_up hlt2
                        have HA2 : Hid (∀ k, AR w.heap.size (wr.drewN k) (up s)) := hide fun k => HA1.out.keep rfl (Nat.le_refl _)
                        have HK2 : Hid (∀ k, Kx (fun b => b ≠ w.heap.size) w (wr.drewN k)) := hide fun k => HK1.out.drewN k
                        have HP2 := hide (HP1.out.skip HI.out (fun _ _ => by rw [hdst]; exact Nat.not_lt.1 hlt2))
                        clear HA1 HK1 HP1 HI
                        generalize (1073741824 : Int) = FF at *
                        go_wp2
                        go_quiet (fail)
                        go_wp2
                        go_roundw
                        case rel => exact ⟨i + 1, s, m, by omega, rfl, by go_num, hide (HA2.out _), hide (HK2.out _), HP2⟩
                        case measure => simp [intOf]; omega
                    · have df := ge_far hf
                      have hdst : Rk.dst s v eb = Rk.far := by unfold Rk.dst; rw [if_neg hbv, if_neg (by rw [Rk.far_eq]; exact hf)]
                      have dl := le_far b1
                      have B1 := hide b1
                      clear hf b1 b2
                      have HA2 : Hid (∀ k, AR w.heap.size (wr.drewN k) (up s)) := hide fun k => HA1.out.keep rfl (Nat.le_refl _)
                      have HK2 : Hid (∀ k, Kx (fun b => b ≠ w.heap.size) w (wr.drewN k)) := hide fun k => HK1.out.drewN k
                      have HP2 := hide (HP1.out.skip HI.out (fun _ _ => by rw [hdst, Rk.far_eq]; exact B1.out))
                      clear HA1 HK1 HP1 HI
                      generalize (1073741824 : Int) = FF at *
                      go_wp2
                      go_quiet (fail)
                      go_wp2
                      go_roundw
                      case rel => exact ⟨i + 1, s, m, by omega, rfl, by go_num, hide (HA2.out _), hide (HK2.out _), HP2⟩
                      case measure => simp [intOf]; omega
                · have dv2 : (eb : Int) < (v : Int) := by omega
                  have HA2 : Hid (∀ k, AR w.heap.size (wr.drewN k) (up s)) := hide fun k => HA1.out.keep rfl (Nat.le_refl _)
                  have HK2 : Hid (∀ k, Kx (fun b => b ≠ w.heap.size) w (wr.drewN k)) := hide fun k => HK1.out.drewN k
                  have HP2 := hide (HP1.out.skip HI.out (fun _ h2 => absurd h2 hv2))
                  clear HA1 HK1 HP1 HI
                  go_wp2
                  go_quiet (fail)
                  go_wp2
                  go_roundw
                  case rel => exact ⟨i + 1, s, m, by omega, rfl, by go_num, hide (HA2.out _), hide (HK2.out _), HP2⟩
                  case measure => simp [intOf]; omega
              · have dv1 : (ea : Int) < (v : Int) := by omega
                have HA2 : Hid (∀ k, AR w.heap.size (wr.drewN k) (up s)) := hide fun k => HA1.out.keep rfl (Nat.le_refl _)
                have HK2 : Hid (∀ k, Kx (fun b => b ≠ w.heap.size) w (wr.drewN k)) := hide fun k => HK1.out.drewN k
                have HP2 := hide (HP1.out.skip HI.out (fun h1 _ => absurd h1 hv1))
                clear HA1 HK1 HP1 HI
                go_wp2
                go_quiet (fail)
                go_wp2
                go_roundw
                case rel => exact ⟨i + 1, s, m, by omega, rfl, by go_num, hide (HA2.out _), hide (HK2.out _), HP2⟩
                case measure => simp [intOf]; omega
            · obtain rfl : i = E.length := by omega
              have d2 : decide ((E.length : Int) < (E.length : Int)) = false := by simp
              have hms : msr wr w.heap.size k = Rk.tot s := by rw [← msr_is HA1.out, HP1.out.sp.len]
              have HM : Hid (2 * msr wr w.heap.size k + bo (.bool m) < 2 * msr wp w.heap.size k + bo (.bool true)) := hide (by
                rw [hms, hmo]
                cases m with
                | true => have := HP1.out.lt rfl; simp [bo]; omega
                | false => have := HP1.out.le; simp [bo]; omega)
              have HF3 : Hid (m = false → Rk.Sh k (Rk.fromE E v) v s) := hide (fun e => by subst e; exact HP1.out.done)
              have HS3 := hide HP1.out.sp
              clear HP1 hms hmo
              go_wp2
              go_roundw
              case rel => exact ⟨s, m, rfl, HA1, HK1, HS3, HF3⟩
              case measure => exact HM.out
end Go.Proofs.Ytibhbbgpeckkfaa
