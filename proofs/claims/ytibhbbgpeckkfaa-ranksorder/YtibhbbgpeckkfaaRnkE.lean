import Derived.Test.YtibhbbgpeckkfaaRnkD
/- Rounds: the document's own. -/
namespace Go.Proofs.Ytibhbbgpeckkfaa
open Go.RowKit

namespace Rk
theorem Bst.le {n : Nat} {E : Eg} {best v : Nat} (h : Bst E best v) (hE : In n E) : best ≤ n := by
  obtain ⟨m, h1, h2⟩ := h.way
  obtain ⟨l, h3, h4, h5⟩ := short (in_from hE v) v m.length m v rfl h1
  have := (h.least v l h5).1
  omega
/-- One that may be next, among the first edges. -/
def Qf (E : Eg) (v r : Nat) (d : List Nat) (a i x : Nat) : Prop := (a, x) ∈ E.take i ∧ v < x ∧ g d x = r
def Nx (E : Eg) (n v r : Nat) (d : List Nat) (a i y : Nat) : Prop := (y = n ∧ ∀ x, ¬ Qf E v r d a i x) ∨ (Qf E v r d a i y ∧ ∀ x, Qf E v r d a i x → y ≤ x)
theorem Nx.zero (E : Eg) (n v r : Nat) (d : List Nat) (a : Nat) : Nx E n v r d a 0 n := .inl ⟨rfl, fun x h => by have := h.1; simp at this⟩
theorem qf_next {E : Eg} {v r : Nat} {d : List Nat} {a i x : Nat} {e : Nat × Nat} (he : E[i]? = some e) : Qf E v r d a (i + 1) x ↔ Qf E v r d a i x ∨ (e = (a, x) ∧ v < x ∧ g d x = r) := by
  unfold Qf
  rw [List.take_add_one, he]
  constructor
  · rintro ⟨h1, h2, h3⟩
    rcases List.mem_append.1 h1 with h1 | h1
    · exact .inl ⟨h1, h2, h3⟩
    · exact .inr ⟨by simpa [eq_comm] using h1, h2, h3⟩
  · rintro (⟨h1, h2, h3⟩ | ⟨h1, h2, h3⟩)
    · exact ⟨List.mem_append.2 (.inl h1), h2, h3⟩
    · exact ⟨List.mem_append.2 (.inr (by simp [h1])), h2, h3⟩
theorem Nx.skip {E : Eg} {n v r : Nat} {d : List Nat} {a i y : Nat} {e : Nat × Nat} (h : Nx E n v r d a i y) (he : E[i]? = some e) (hn : e.2 < n) (hs : e.1 = a → v < e.2 → g d e.2 = r → y ≤ e.2) : Nx E n v r d a (i + 1) y := by
  rcases h with ⟨rfl, h⟩ | ⟨h1, h2⟩
  · refine .inl ⟨rfl, fun x hx => ?_⟩
    rcases (qf_next he).1 hx with hx | ⟨rfl, h3, h4⟩
    · exact h x hx
    · have := hs rfl h3 h4
      simp only at this hn
      omega
  · refine .inr ⟨(qf_next he).2 (.inl h1), fun x hx => ?_⟩
    rcases (qf_next he).1 hx with hx | ⟨rfl, h3, h4⟩
    · exact h2 x hx
    · exact hs rfl h3 h4
theorem Nx.take {E : Eg} {n v r : Nat} {d : List Nat} {a i y : Nat} {e : Nat × Nat} (h : Nx E n v r d a i y) (he : E[i]? = some e) (h1 : e.1 = a) (h2 : v < e.2) (h3 : g d e.2 = r) (h4 : e.2 < y) : Nx E n v r d a (i + 1) e.2 := by
  refine .inr ⟨(qf_next he).2 (.inr ⟨by rw [← h1], h2, h3⟩), fun x hx => ?_⟩
  rcases (qf_next he).1 hx with hx | ⟨rfl, -, -⟩
  · rcases h with ⟨-, h⟩ | ⟨-, h⟩
    · exact absurd hx (h x)
    · have := h x hx
      omega
  · exact Nat.le_refl _
theorem Nx.done {n : Nat} {E : Eg} (hE : In n E) (hn : n < far) {best v : Nat} (hB : Bst E best v) {d : List Nat} (hd : Sh n (fromE E v) v d) {o : List Nat} {a y : Nat} (h : Beg E best v o a) (hl : o.length + 1 < best)
    (hx : Nx E n v (best - (o.length + 1)) d a E.length y) : Beg E best v (o ++ [a]) y := by
  rcases hx with ⟨-, h1⟩ | ⟨⟨h1, h2, h3⟩, h4⟩
  · obtain ⟨k, g1, g2, g3⟩ := h.some hE hn hB hd hl
    exact absurd ⟨by rw [List.take_length]; exact g1, g2, g3⟩ (h1 k)
  · rw [List.take_length] at h1
    exact h.next hE hn hB hd hl h1 h2 h3 (fun x k1 k2 k3 => h4 x ⟨by rw [List.take_length]; exact k1, k2, k3⟩)
theorem Nx.lt {n : Nat} {E : Eg} {v r : Nat} {d : List Nat} {a i y : Nat} (h : Nx E n v r d a i y) (hE : In n E) : y ≤ n := by
  rcases h with ⟨rfl, -⟩ | ⟨⟨h1, -, -⟩, -⟩
  · exact Nat.le_refl _
  · exact Nat.le_of_lt (hE _ (List.mem_of_mem_take h1)).2
end Rk
def lenOf : Value → Nat
  | .slice _ n _ => n
  | _ => 0
/-- What Round answers. -/
def GRnd (E : Rk.Eg) (w : World) (e : Ending) (w' : World) : Prop :=
  ∃ (v : Value) (o : List Nat), e = .returned v ∧ IR w' v (up o) ∧ Rk.Rnd E o ∧ Below w.heap.size w w'
theorem ER.keepN {n : Nat} {w w' : World} {v : Value} {E : List (Int × Int)} (h : ER w v E) (hb : Below n w w') (hn : ∀ g, v.ownBlock = some g → g < n) : ER w' v E := h.keepX (X := fun b => b < n) ⟨hb.os, hb.tape, hb.output, hb.size, fun k _ hk => hb.block k hk⟩ hn

set_option maxRecDepth 100000 in
set_option maxHeartbeats 4000000 in
theorem ground_any (n : Nat) (E : Rk.Eg) (ve : Value) (w : World) (h : ER w ve (up2 E)) (hE : Rk.In n E) (hn : n ≤ 300) (hl : E.length ≤ 20000) :
    Calls Try.prog 13 #[.int .i64 n, ve] w (GRnd E w) := by
  have hnf : n < Rk.far := Nat.lt_of_le_of_lt hn (by decide)
  have HW := hide h
  have HE := hide hE
  have HNF := hide hnf
  have CS := hide (fun (W : World) (hk : Below w.heap.size w W) (v : Nat) (hv : v < n) => gshort_any n v E ve W (h.keep hk) hE hn hl hv)
  obtain ⟨a, c, rfl, h⟩ := h
  rw [up2_len] at *
  clear h hE hnf
  go_enter Try.func13, Try.ntmps13
  go_wp2
  go_loopw [5, 6, 7] (fun bv fv iv wr => ∃ (u best : Nat) (f : Int), u ≤ n ∧ bv = .int .i64 best ∧ fv = .int .i64 f ∧ iv = .int .i64 u ∧ Hid (Below w.heap.size w wr) ∧ Hid (Rk.Fnd E u best f)) (fun _ _ iv _ => n - (intOf iv).toNat)
  case atStart => exact ⟨0, Rk.far, -1, Nat.zero_le _, rfl, rfl, rfl, hide (Below.refl _ _), hide (Rk.Fnd.zero E)⟩
  case round =>
    obtain ⟨u, best, f, hu, rfl, rfl, rfl, HB, HF⟩ := hrel
    by_cases hlt : u < n
    · have d1 : decide ((u : Int) < (n : Int)) = true := by simp; omega
      have u0 : (0 : Int) ≤ (u : Int) := by omega
      have u1 : (u : Int) < (n : Int) := by omega
      go_wp2_with fail
      refine (CS.out _ HB.out u hlt).mono ?_
      rintro e w1 ⟨ga, o, rfl, hAR, hga, hSh, hb1⟩
      have a1 := hAR.cell _ _ (up_g (o := o) (v := u) (by rw [hSh.len]; exact hlt))
      have HB1 := hide (btrans HB.out hb1)
      have HN := hide (HF.out.next HE.out HNF.out hlt hSh)
      clear hAR hSh hb1 HB HF
      by_cases hc : Rk.g o u < best
      · have dc : ((Rk.g o u : Nat) : Int) < (best : Int) := by omega
        rw [if_pos hc, if_pos hc] at HN
        go_wp2
        go_roundw
        case rel => exact ⟨u + 1, Rk.g o u, (u : Int), by omega, rfl, rfl, by go_num, HB1, HN⟩
        case measure => simp [intOf]; omega
      · have dc : decide (((Rk.g o u : Nat) : Int) < (best : Int)) = false := by simp; omega
        rw [if_neg hc, if_neg hc] at HN
        go_wp2
        go_roundw
        case rel => exact ⟨u + 1, best, f, by omega, rfl, rfl, by go_num, HB1, HN⟩
        case measure => simp [intOf]; omega
    · obtain rfl : u = n := by omega
      have d1 : decide ((u : Int) < (u : Int)) = false := by simp
      rcases HF.out.done HE.out with ⟨rfl, hr⟩ | ⟨v, rfl, hv, hbf, hB⟩
      · have HR := hide hr
        clear HF hr
        go_wp2
        go_ret
        exact ⟨_, [], rfl, ⟨none, 0, rfl, fun h => absurd rfl h⟩, HR.out, HB.out⟩
      · have HBs := hide hB
        have hbn := hB.le HE.out
        have d2 : decide ((v : Int) < 0) = false := by simp
        clear HF hB hbf
        go_wp2_with fail
        refine (CS.out _ HB.out v hv).mono ?_
        rintro e w1 ⟨gd, dd, rfl, hAR, hgd, hSh, hb1⟩
        have HA := hide hAR
        have HSh := hide hSh
        have HB1 := hide (btrans HB.out hb1)
        clear hAR hSh hb1 HB
        obtain ⟨i0, hi0, hz0, hz1, hz2⟩ := info_parts Try.info3
        go_wp2
        obtain ⟨W, hW⟩ : ∃ W, w1.alloc (.cells #[.int .i64 v] 3) = W := ⟨_, rfl⟩
        have HBW : Hid (Below w1.heap.size w1 W) := hide (by rw [← hW]; exact (Below.refl _ _).alloc (Nat.le_refl _) _)
        have HOW : Hid (W.ownsRow w1.heap.size 3 1 (.slice (some ⟨w1.heap.size, 0, none⟩) 1 1) 1 (ints (up ([] ++ [v])))) := hide (by
          rw [← hW]
          refine ⟨rfl, .inr ⟨w1.heap.size, 1, #[.int .i64 v], rfl, Nat.le_refl _, ?_, Nat.le_refl _, by decide, rfl, rfl⟩⟩
          show (Array.push _ _)[w1.heap.size]? = _
          rw [Array.getElem?_push, if_pos rfl])
        have HG0 := hide (Rk.Beg.first HBs.out)
        have hb1 : 1 ≤ best := by obtain ⟨m, -, h2⟩ := HBs.out.way; omega
        rw [hW]
        clear hW
        obtain ⟨wo, hwo⟩ : ∃ wo, wr = wo := ⟨_, rfl⟩
        subst wr
        go_loopw [10, 11] (fun ov av wr => ∃ (o : List Nat) (at' : Nat) (oa : Option Addr) (oc : Nat), ov = .slice oa (o.length + 1) oc ∧ av = .int .i64 at' ∧ o.length + 1 ≤ best ∧ Hid (wr.ownsRow w1.heap.size 3 1 (.slice oa (o.length + 1) oc) (o.length + 1) (ints (up (o ++ [at'])))) ∧ Hid (Below w1.heap.size w1 wr) ∧ Hid (Rk.Beg E best v o at')) (fun ov _ _ => best - lenOf ov)
        case atStart => exact ⟨[], v, _, _, rfl, rfl, hb1, HOW, HBW, HG0⟩
        case round =>
          obtain ⟨o, at', oa, oc, rfl, rfl, hob, HO, HB2, HG⟩ := hrel
          by_cases hmo : o.length + 1 < best
          · have d3 : ((o.length + 1 : Nat) : Int) < (best : Int) := by omega
            have d3' : (o.length : Int) + 1 < (best : Int) := by omega
            go_wp2
            obtain ⟨wp, hwp⟩ : ∃ wp, wr = wp := ⟨_, rfl⟩
            subst wr
            have HWP : Hid (ER wp (.slice a E.length c) (up2 E)) := hide (HW.out.keep (btrans HB1.out HB2.out))
            have HAP : Hid (AR gd wp (up dd)) := hide (HA.out.keep (HB2.out.block gd HA.out.lt) HB2.out.size)
            go_loopw [12, 13] (fun yv iv wr => ∃ (i y : Nat), i ≤ E.length ∧ yv = .int .i64 y ∧ iv = .int .i64 i ∧ wr = wp ∧ Hid (Rk.Nx E u v (best - (o.length + 1)) dd at' i y)) (fun _ iv _ => E.length - (intOf iv).toNat)
            case atStart => exact ⟨0, u, Nat.zero_le _, rfl, rfl, rfl, hide (Rk.Nx.zero E u v _ dd at')⟩
            case round =>
              obtain ⟨i, y, hi, rfl, rfl, hwr, HX⟩ := hrel
              subst wr
              by_cases hlt : i < E.length
              · have d4 : decide ((i : Int) < (E.length : Int)) = true := by simp; omega
                obtain ⟨e, he⟩ : ∃ e, E[i]? = some e := ⟨_, List.getElem?_eq_getElem hlt⟩
                have HI := hide he
                obtain ⟨aa, cc, hsl, hER⟩ := HWP.out
                obtain ⟨rfl, -, rfl⟩ : a = aa ∧ _ ∧ c = cc := by simpa using hsl
                obtain ⟨g, off, rfl, q⟩ := hER (up2_ne hlt)
                have c0 := (q i _ (up2_get he)).1
                have c1 := (q i _ (up2_get he)).2
                have hE1 := HE.out e (List.mem_of_getElem? he)
                have hi0' : (0 : Int) ≤ (i : Int) := by omega
                have hi1' : (i : Int) < (E.length : Int) := by omega
                have a2 := HAP.out.cell _ _ (up_g (o := dd) (v := e.2) (by rw [HSh.out.len]; exact hE1.2))
                clear q he hER hsl
                obtain ⟨ea, eb⟩ := e
                simp only at c0 c1 a2 hE1
                have p2 : (0 : Int) ≤ (eb : Int) := by omega
                have p3 : (eb : Int) < (u : Int) := by omega
                by_cases q1 : ea = at'
                · have dq1 : ((ea : Int) == (at' : Int)) = true := by simp; omega
                  by_cases q2 : v < eb
                  · have dq2 : decide ((v : Int) < (eb : Int)) = true := by simp; omega
                    by_cases q3 : Rk.g dd eb = best - (o.length + 1)
                    · have dq3 : (((Rk.g dd eb : Nat) : Int) == (best : Int) - ((o.length : Int) + 1)) = true := by simp; omega
                      by_cases q4 : eb < y
                      · have dq4 : (eb : Int) < (y : Int) := by omega
                        have HX2 := hide (HX.out.take HI.out q1 q2 q3 q4)
                        clear HX HI
                        go_wp2
                        go_roundw
                        case rel => exact ⟨i + 1, eb, by omega, rfl, by go_num, trivial, HX2⟩
                        case measure => simp [intOf]; omega
                      · have dq4 : decide ((eb : Int) < (y : Int)) = false := by simp; omega
                        have HX2 := hide (HX.out.skip HI.out hE1.2 (fun q1 q2 q3 => by simp only at q1 q2 q3 ⊢; omega))
                        clear HX HI
                        go_wp2
                        go_roundw
                        case rel => exact ⟨i + 1, y, by omega, rfl, by go_num, trivial, HX2⟩
                        case measure => simp [intOf]; omega
                    · have dq3 : (((Rk.g dd eb : Nat) : Int) == (best : Int) - ((o.length : Int) + 1)) = false := by simp; omega
                      have HX2 := hide (HX.out.skip HI.out hE1.2 (fun q1 q2 q3 => by simp only at q1 q2 q3 ⊢; omega))
                      clear HX HI
                      go_wp2
                      go_roundw
                      case rel => exact ⟨i + 1, y, by omega, rfl, by go_num, trivial, HX2⟩
                      case measure => simp [intOf]; omega
                  · have dq2 : decide ((v : Int) < (eb : Int)) = false := by simp; omega
                    have HX2 := hide (HX.out.skip HI.out hE1.2 (fun q1 q2 q3 => by simp only at q1 q2 q3 ⊢; omega))
                    clear HX HI
                    go_wp2
                    go_roundw
                    case rel => exact ⟨i + 1, y, by omega, rfl, by go_num, trivial, HX2⟩
                    case measure => simp [intOf]; omega
                · have dq1 : ((ea : Int) == (at' : Int)) = false := by simp; omega
                  have HX2 := hide (HX.out.skip HI.out hE1.2 (fun q1 q2 q3 => by simp only at q1 q2 q3 ⊢; omega))
                  clear HX HI
                  go_wp2
                  go_roundw
                  case rel => exact ⟨i + 1, y, by omega, rfl, by go_num, trivial, HX2⟩
                  case measure => simp [intOf]; omega
              · obtain rfl : i = E.length := by omega
                have d4 : decide ((E.length : Int) < (E.length : Int)) = false := by simp
                have HG2 := hide (HX.out.done HE.out HNF.out HBs.out HSh.out HG.out hmo)
                have hy := HX.out.lt HE.out
                clear HX HG
                go_wp2_with (at_builtin; refine wpList_append_lies _ rfl _ _ 27 rfl w1.heap.size 3 i0 (.int .i64 0) 1 8 Try.underlying27 hi0 hz0 hz1 hz2 rfl (by decide) _ _ _ rfl (HO.out.alloc _) ⟨wp.heap.size, 0, none⟩ 1 1 [.int .i64 y] rfl rfl ?c1 ?c2 ?c3 ?c4 ?c5 ?c6 _ rfl ?_)
                case c1 => exact cell_one_new _ _ _
                case c2 => intro u hu; simp at hu; subst hu; rfl
                case c3 => decide
                case c4 => unfold maxLen; omega
                case c5 => omega
                case c6 => have := HB2.out.size; simp; omega
                intro gg cap w3 hown hgrow hat hlt3
                have HB3 : Hid (Below w1.heap.size w1 w3) := hide ((HB2.out.alloc (by have := HB2.out.size; omega) _).grown hgrow (by have := HB2.out.size; simp; omega) (fun j hj => (HO.out.lt j hj).1))
                have HO3 : Hid (w3.ownsRow w1.heap.size 3 1 (.slice (some ⟨gg, 0, none⟩) ((o ++ [at']).length + 1) cap) ((o ++ [at']).length + 1) (ints (up ((o ++ [at']) ++ [y])))) := hide (by
                  rw [up_app (o ++ [at']), ints_app, List.length_append]
                  exact hown)
                clear hown hgrow hat HO HB2
                go_wp2
                go_roundw
                case rel => exact ⟨o ++ [at'], y, _, _, by simp, rfl, by simp; omega, HO3, HB3, HG2⟩
                case measure => simp [lenOf]; omega
          · have d3 : decide (((o.length + 1 : Nat) : Int) < (best : Int)) = false := by simp; omega
            have d3' : decide ((o.length : Int) + 1 < (best : Int)) = false := by simp; omega
            have HR := hide (HG.out.done HBs.out (by omega))
            have HIR : Hid (IR wr (.slice oa (o.length + 1) oc) (up (o ++ [at']))) := hide (own_ir (by rw [up_len, List.length_append]; exact HO.out))
            have HBF := hide (btrans HB1.out HB2.out)
            clear HG HO
            go_wp2
            go_ret
            exact ⟨_, o ++ [at'], rfl, HIR.out, HR.out, HBF.out⟩
end Go.Proofs.Ytibhbbgpeckkfaa
