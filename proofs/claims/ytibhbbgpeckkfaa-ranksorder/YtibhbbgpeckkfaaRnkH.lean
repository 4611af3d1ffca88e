import Derived.Test.YtibhbbgpeckkfaaRnkG
import Derived.Deep.RegionHeld3
import Derived.Deep.Cut
import Derived.ChangeKeysEq
/- The law RanksDoes. -/
namespace Go.Proofs.Ytibhbbgpeckkfaa
open Go.RowKit

theorem cells3 : Try.prog.cellsOf 3 = 1 := by kernel_rfl
theorem eqEdge (x y : Int) (w : World) : (Op.equalIn 10000 30 (.agg #[.int .i64 x, .int .i64 y]) (.agg #[.int .i64 x, .int .i64 y])).run Try.prog w = .ok true w := by
  obtain ⟨i0, hi, hz0, hz1, hz2⟩ := info_parts Try.info3
  rw [run_equalIn_array w 9999 _ _ Try.underlying30 hi]
  have hu : Try.prog.underlying 3 = some (.int .i64) := Try.underlying3
  simp [Op.eqItems, List.range, List.range.loop, cells3, run_equalIn_int, hu, part, go_sem]
theorem Try.infoEdge : (Try.prog.info? 30).map (fun i => (i.zero, i.size, i.bytes)) = some (some (.agg #[.int .i64 0, .int .i64 0]), 2, 16) := by kernel_rfl
def ecells (L : List (Int × Int)) : List Value := L.flatMap fun e => [.int .i64 e.1, .int .i64 e.2]
theorem ecells_len : ∀ L, (ecells L).length = L.length * 2
  | [] => rfl
  | e :: L => by
    have := ecells_len L
    simp only [ecells, List.flatMap_cons, List.length_append, List.length_cons, List.length_nil] at this ⊢
    omega
theorem ecells_get : ∀ {L : List (Int × Int)} {j : Nat} {u : Value}, (ecells L)[j]? = some u → ∃ k e, L[k]? = some e ∧ ((j = k * 2 ∧ u = .int .i64 e.1) ∨ (j = k * 2 + 1 ∧ u = .int .i64 e.2))
  | [], j, u, h => by simp [ecells] at h
  | e :: L, 0, u, h => ⟨0, e, rfl, .inl ⟨rfl, by simpa [ecells] using h.symm⟩⟩
  | e :: L, 1, u, h => ⟨0, e, rfl, .inr ⟨rfl, by simpa [ecells] using h.symm⟩⟩
  | e :: L, j + 2, u, h => by
    obtain ⟨k, x, h1, h2⟩ := ecells_get (L := L) (j := j) (u := u) (by simpa [ecells] using h)
    refine ⟨k + 1, x, by simpa using h1, ?_⟩
    rcases h2 with ⟨h2, h3⟩ | ⟨h2, h3⟩
    · exact .inl ⟨by omega, h3⟩
    · exact .inr ⟨by omega, h3⟩
theorem ecells_at : ∀ {L : List (Int × Int)} {k : Nat} {e : Int × Int}, L[k]? = some e → (ecells L)[k * 2]? = some (.int .i64 e.1) ∧ (ecells L)[k * 2 + 1]? = some (.int .i64 e.2)
  | [], k, e, h => by simp at h
  | x :: L, 0, e, h => by
    obtain rfl : x = e := by simpa using h
    exact ⟨rfl, rfl⟩
  | x :: L, k + 1, e, h => by
    have := ecells_at (L := L) (k := k) (by simpa using h)
    rw [show (k + 1) * 2 = k * 2 + 2 by omega, show k * 2 + 2 + 1 = k * 2 + 1 + 2 by omega]
    exact this
theorem ecells_one (L : List (Int × Int)) : ∀ u ∈ ecells L, u.oneCell' = true := by
  intro u hu
  simp only [ecells, List.mem_flatMap] at hu
  obtain ⟨e, -, h⟩ := hu
  simp at h
  rcases h with rfl | rfl <;> rfl
theorem own_er {w : World} {B : Nat} {v : Value} {L : List (Int × Int)} (h : w.ownsRow B 30 2 v L.length (ecells L)) : ER w v L := by
  rcases h.2 with ⟨hv, h0⟩ | ⟨g, cap, cur, hv, hb, hg, hnc, hcm, _, _⟩
  · exact ⟨none, 0, by rw [hv, h0], fun hn => absurd (List.length_eq_zero_iff.1 h0) hn⟩
  · refine ⟨_, cap, hv, fun _ => ⟨g, 0, rfl, fun k x hx => ?_⟩⟩
    obtain ⟨h1, h2⟩ := ecells_at hx
    have c1 := h.cells (g := g) (by rw [hv]; rfl) _ _ h1
    have c2 := h.cells (g := g) (by rw [hv]; rfl) _ _ h2
    rw [add_off] at c1 c2
    rw [Nat.zero_add]
    exact ⟨c1, c2⟩

theorem Rk.Rnd.le {n : Nat} {E : Rk.Eg} {o : List Nat} (h : Rk.Rnd E o) (hE : Rk.In n E) : o.length ≤ n := by
  rcases h with ⟨rfl, -⟩ | ⟨h1, h2⟩
  · exact Nat.zero_le _
  · obtain ⟨v, m, h3, h4, -⟩ := h1.least
    obtain ⟨l, h5, h6, h7⟩ := Rk.short (Rk.in_from hE v) v m.length m v rfl h3
    have h8 : Rk.Cl E (v :: l) := Rk.Ch.sub (fun e he => (Rk.mem_fromE.1 he).1) h7
    have := (h2 _ h8).1
    simp at this
    omega
theorem Rk.rks_eq {n : Nat} {E : Rk.Eg} {o o' : List Nat} (h : Rk.Rks n E (Rk.g o)) (h' : Rk.Rks n E (Rk.g o')) (hl : o.length = n) (hl' : o'.length = n) : o = o' := by
  refine List.ext_getElem (by omega) (fun i h1 h2 => ?_)
  have := h.one h' (v := i) (by omega)
  simpa [Rk.g, h1, h2] using this
def Big (n : Int) (k : Nat) (b : Bool) : Prop := b = true ↔ (60 < n ∧ n ≤ 1000) ∨ 300 < k
set_option maxRecDepth 100000 in
set_option maxHeartbeats 4000000 in
theorem rdoes_any (n : Int) (L : List (Int × Int)) (v : Value) (w : World) (h : ER w v L) (h0 : ∀ c, v = .slice none 0 c → c = 0) (hll : L.length ≤ 9223372036854775807) :
    Calls Try.prog 3 #[.int .i64 n, v] w fun e w' => e = .returned (.bool true) ∧ Below w.heap.size w w' := by
  have HW := hide h
  have H0 := hide h0
  have HLL := hide hll
  obtain ⟨a, c, rfl, hER⟩ := h
  have HR := hide hER
  obtain ⟨i0, hi0, hz0, hz1, hz2⟩ := info_parts Try.infoEdge
  clear hER h0 hll
  go_enter Try.func3, Try.ntmps3
  go_wp2_with fail
  refine (rbegun_any _).mono ?_
  rintro e w1 ⟨rfl, hb1⟩
  have HB1 := hide hb1
  clear hb1
  go_upto_region 3 with fail
  go_cut [27] from 17 (fun v27 wx => ∃ b : Bool, v27 = .bool b ∧ Hid (Big n L.length b) ∧ wx = w1)
  case first =>
    by_cases h3 : 300 < L.length
    · have d3 : (300 : Int) < (L.length : Int) := by omega
      have e3 : Hid (Big n L.length true) := hide (by unfold Big; simp; omega)
      by_cases h1 : 60 < n
      · by_cases h2 : n ≤ 1000
        · go_wp2
          go_meet
          case rel => exact ⟨_, rfl, e3, rfl⟩
        · have d2 : decide (n ≤ 1000) = false := by simpa using h2
          go_wp2
          go_meet
          case rel => exact ⟨_, rfl, e3, rfl⟩
      · have d1 : decide (60 < n) = false := by simpa using h1
        go_wp2
        go_meet
        case rel => exact ⟨_, rfl, e3, rfl⟩
    · have d3 : decide ((300 : Int) < (L.length : Int)) = false := by simp; omega
      by_cases h1 : 60 < n
      · by_cases h2 : n ≤ 1000
        · have e3 : Hid (Big n L.length true) := hide (by unfold Big; simp; omega)
          go_wp2
          go_meet
          case rel => exact ⟨_, rfl, e3, rfl⟩
        · have d2 : decide (n ≤ 1000) = false := by simpa using h2
          have e3 : Hid (Big n L.length false) := hide (by unfold Big; simp; omega)
          go_wp2
          go_meet
          case rel => exact ⟨_, rfl, e3, rfl⟩
      · have d1 : decide (60 < n) = false := by simpa using h1
        have e3 : Hid (Big n L.length false) := hide (by unfold Big; simp; omega)
        go_wp2
        go_meet
        case rel => exact ⟨_, rfl, e3, rfl⟩
  case rest =>
    obtain ⟨b, rfl, HB, rfl⟩ := hcut
    cases b with
    | true =>
      go_wp2
      go_ret
      exact ⟨rfl, HB1.out⟩
    | false =>
      have hnb : ¬ ((60 < n ∧ n ≤ 1000) ∨ 300 < L.length) := fun h => by have := HB.out; unfold Big at this; simpa using this.2 h
      have hl : L.length ≤ 300 := by omega
      have HN : Hid ((gfl n L).1 = 0 → n ≤ 60) := hide (fun hg => by
        obtain ⟨-, -, N, E, rfl, h2, -, -⟩ := gfl_ok hg
        omega)
      clear hnb HB
      go_upto_region 5 with fail
      go_cut [5] from 28 (fun v5 wx => ∃ ao co, v5 = .slice ao L.length co ∧ Hid (ER wx (.slice ao L.length co) L) ∧ Hid (Below w.heap.size w wx))
      case first =>
        by_cases hL : L = []
        · subst hL
          have HE0 : Hid (ER wc (.slice none 0 0) []) := hide ⟨none, 0, rfl, fun h => absurd rfl h⟩
          cases a with
          | none =>
            obtain rfl := H0.out c rfl
            go_wp2
            go_meet
            case rel => exact ⟨none, 0, rfl, HE0, HB1⟩
          | some ad =>
            go_wp2
            go_meet
            case rel => exact ⟨none, 0, rfl, HE0, HB1⟩
        · obtain ⟨g, off, rfl, q⟩ := HR.out hL
          have hL0 : 0 < L.length := List.length_pos_iff.2 hL
          have Q := hide q
          clear q
          go_wp2_with (at_builtin; refine wpList_append_lies _ rfl _ _ 22 rfl wc.heap.size 30 i0 (.agg #[.int .i64 0, .int .i64 0]) 2 16 Try.underlying22 hi0 hz0 hz1 hz2 rfl (by decide) (.slice none 0 0) 0 [] rfl ⟨rfl, .inl ⟨rfl, rfl⟩⟩ ⟨g, off, none⟩ L.length c (ecells L) rfl (ecells_len L) ?c1 (ecells_one L) hL0 ?c4 ?c5 (Nat.le_refl _) _ rfl ?_)
          case c1 =>
            intro j u hu
            obtain ⟨k, e, h1, h2⟩ := ecells_get hu
            obtain ⟨c1, c2⟩ := Q.out k e h1
            rcases h2 with ⟨rfl, rfl⟩ | ⟨rfl, rfl⟩
            · rw [Addr.add_mid]
              exact bsome HB1.out c1
            · rw [Addr.add_mid, ← Nat.add_assoc]
              exact bsome HB1.out c2
          case c4 => unfold maxLen; omega
          case c5 => omega
          intro g2 cap2 w2 hown hgrow hat hlt2
          have HO : Hid (ER w2 (.slice (some ⟨g2, 0, none⟩) L.length cap2) L) := hide (own_er (B := wc.heap.size) (by simpa using hown))
          have HB2 : Hid (Below w.heap.size w w2) := hide (btrans HB1.out ((Below.refl _ _).grown hgrow (Nat.le_refl _) (fun j hj => by simp [Value.ownBlock] at hj)))
          clear hown hgrow hat
          go_wp2
          go_meet
          case rel => exact ⟨_, _, by simp, HO, HB2⟩
      case rest =>
        obtain ⟨ao, co, rfl, HO, HB2⟩ := hcut
        obtain ⟨F, hF⟩ : ∃ F, gfl n L = F := ⟨_, rfl⟩
        go_wp2_with fail
        refine (rkCheck_any n L _ _ HO.out).mono ?_
        rintro e w3 ⟨rfl, hb3⟩
        rw [hF]
        have HO3 := hide (HO.out.keep hb3)
        have HB3 := hide (btrans HB2.out hb3)
        clear hb3 HO HB2
        go_wp2_with fail
        refine (rkRanks_any n L _ _ (HO3.out.keep ((Below.refl _ _).alloc (Nat.le_refl _) _)) HN.out).mono ?_
        rintro e w4 ⟨ar, kr, cr, FR, rfl, hb4, -, hqr⟩
        have kb : Below w3.heap.size w3 w4 := btrans ((Below.refl _ _).alloc (Nat.le_refl _) _) hb4
        have x60 : w4.cell? ⟨w3.heap.size, 0, none⟩ = some (.int .i64 F.1) := bsome hb4 (by simp [go_sem])
        have x61 : w4.cell? ⟨w3.heap.size, 1, none⟩ = some (.int .i64 F.2) := bsome hb4 (by simp [go_sem])
        have HO4 := hide (HO3.out.keep kb)
        have HB4 := hide (btrans HB3.out kb)
        have HQR := hide hqr
        clear kb hb4 HO3 HB3 hqr
        go_wp2_with fail
        refine (rkRound_any n L _ _ (HO4.out.keep ((Below.refl _ _).alloc (Nat.le_refl _) _)) HN.out).mono ?_
        rintro e w5 ⟨ao2, ko, co2, FO, rfl, hb5, -, hqo⟩
        have kb : Below w4.heap.size w4 w5 := btrans ((Below.refl _ _).alloc (Nat.le_refl _) _) hb5
        have y60 := bsome kb x60
        have y61 := bsome kb x61
        have y80 : w5.cell? ⟨w4.heap.size, 0, none⟩ = some (.int .i64 FR.1) := bsome hb5 (by simp [go_sem])
        have y81 : w5.cell? ⟨w4.heap.size, 1, none⟩ = some (.int .i64 FR.2) := bsome hb5 (by simp [go_sem])
        have HO5 := hide (HO4.out.keep kb)
        have HB5 := hide (btrans HB4.out kb)
        have HKR := hide kb
        have HQO := hide hqo
        clear kb hb5 HO4 HB4 x60 x61 hqo
        go_wp2
        obtain ⟨W6, hW6⟩ : ∃ W6, w5.alloc (.cells #[.int .i64 FO.1, .int .i64 FO.2] 25) = W6 := ⟨_, rfl⟩
        have kb6 : Below w5.heap.size w5 W6 := by rw [← hW6]; exact (Below.refl _ _).alloc (Nat.le_refl _) _
        have z60 := bsome kb6 y60
        have z61 := bsome kb6 y61
        have z80 := bsome kb6 y80
        have z81 := bsome kb6 y81
        have z100 : W6.cell? ⟨w5.heap.size, 0, none⟩ = some (.int .i64 FO.1) := by rw [← hW6]; simp [go_sem]
        have z101 : W6.cell? ⟨w5.heap.size, 1, none⟩ = some (.int .i64 FO.2) := by rw [← hW6]; simp [go_sem]
        have HO6 := hide (HO5.out.keep kb6)
        have HB6 := hide (btrans HB5.out kb6)
        have HW6 := hide (HW.out.keep HB6.out)
        have HK56 := hide kb6
        rw [hW6]
        clear kb6 hW6 y60 y61 y80 y81 HO5 HB5
        have Z := hide (And.intro z60 (And.intro z61 (And.intro z80 (And.intro z81 (And.intro z100 z101)))))
        clear z60 z61 z80 z81 z100 z101
        go_loopw [11] (fun iv wr => ∃ i m : Nat, i ≤ L.length ∧ iv = .int .i64 i ∧ wr = W6.drewN m) (fun iv _ => L.length - (intOf iv).toNat)
        case atStart => exact ⟨0, 0, Nat.zero_le _, rfl, rfl⟩
        case round =>
          obtain ⟨i, m, hi, rfl, rfl⟩ := hrel
          by_cases hlt : i < L.length
          · have d4 : decide ((i : Int) < (L.length : Int)) = true := by simp; omega
            obtain ⟨x, hx⟩ : ∃ x, L[i]? = some x := ⟨_, List.getElem?_eq_getElem hlt⟩
            have hL : L ≠ [] := fun e => by rw [e] at hlt; simp at hlt
            obtain ⟨a5, c5, e5, h5⟩ := HO6.out
            obtain ⟨rfl, -, rfl⟩ : ao = a5 ∧ True ∧ co = c5 := by simpa using e5
            obtain ⟨g5, o5, rfl, q5⟩ := h5 hL
            obtain ⟨a6, c6, e6, h6⟩ := HW6.out
            obtain ⟨rfl, -, rfl⟩ : a = a6 ∧ True ∧ c = c6 := by simpa using e6
            obtain ⟨g6, o6, rfl, q6⟩ := h6 hL
            have c50 := (q5 i x hx).1
            have c51 := (q5 i x hx).2
            have c60 := (q6 i x hx).1
            have c61 := (q6 i x hx).2
            have hi0' : (0 : Int) ≤ (i : Int) := by omega
            have hi1' : (i : Int) < (L.length : Int) := by omega
            clear q5 q6 h5 h6 e5 e6 hx
            obtain ⟨x1, x2⟩ := x
            simp only at c50 c51 c60 c61
            have heq := eqEdge x1 x2
            go_wp2
            go_quiet (fail)
            go_wp2
            go_roundw
            case rel => exact ⟨i + 1, _, by omega, by go_num, rfl⟩
            case measure => simp [intOf]; omega
          · obtain rfl : i = L.length := by omega
            have d4 : decide ((L.length : Int) < (L.length : Int)) = false := by simp
            have HW7 := hide (HW6.out.keep (below_drewN (Below.refl _ _) m))
            have HB7 := hide (btrans HB6.out (below_drewN (Below.refl _ _) m))
            obtain ⟨z60, z61, z80, z81, z100, z101⟩ := Z.out
            have t60 := bsome (below_drewN (Below.refl _ _) m) z60
            have t61 := bsome (below_drewN (Below.refl _ _) m) z61
            have t80 := bsome (below_drewN (Below.refl _ _) m) z80
            have t81 := bsome (below_drewN (Below.refl _ _) m) z81
            have t100 := bsome (below_drewN (Below.refl _ _) m) z100
            have t101 := bsome (below_drewN (Below.refl _ _) m) z101
            have HKD := hide (btrans HK56.out (below_drewN (Below.refl _ _) m))
            clear z60 z61 z80 z81 z100 z101 Z
            generalize W6.drewN m = W7 at *
            go_wp2_with fail
            refine (gfault_any n L _ _ HW7.out).mono ?_
            rintro e w8 ⟨rfl, hb8⟩
            rw [hF]
            have s60 := bsome hb8 t60
            have s61 := bsome hb8 t61
            have s80 := bsome hb8 t80
            have s81 := bsome hb8 t81
            have s100 := bsome hb8 t100
            have s101 := bsome hb8 t101
            have HB8 := hide (btrans HB7.out hb8)
            have HKE := hide (btrans HKD.out hb8)
            have HW8 := hide (HW7.out.keep hb8)
            have hl60 := World.block_lt_of_cell? _ _ s60
            have hl80 := World.block_lt_of_cell? _ _ s80
            have hl100 := World.block_lt_of_cell? _ _ s100
            clear hb8 t60 t61 t80 t81 t100 t101 HB7 HW7 HKD
            by_cases hF0 : F.1 = 0
            · have f0 : (F.1 == 0) = true := by simpa using hF0
              obtain ⟨hg0, hl2, N, E, rfl, hN2, rfl, hIn⟩ := gfl_ok (n := n) (L := L) (by rw [hF]; exact hF0)
              rw [hF] at hg0
              subst hg0
              have hN60 : N ≤ 60 := by have := HN.out (by rw [hF]); omega
              rw [up2_len] at *
              have hQO : ∃ o, ko = o.length ∧ FO = (0, 0) ∧ Rk.Rnd E o ∧ IR w5 (.slice ao2 ko co2) (up o) := by
                rcases HQO.out with ⟨h1, -⟩ | ⟨-, h2, h3⟩
                · rw [hF] at h1; exact absurd rfl h1
                · obtain ⟨o, h4, h5, h6⟩ := h3 E rfl
                  exact ⟨o, h4, h2, h5, h6⟩
              obtain ⟨oR, rfl, rfl, hRo, hIo⟩ := hQO
              have hoN : oR.length ≤ 60 := by have := hRo.le hIn; omega
              have hQR : (∃ o, o.length = N ∧ kr = N ∧ FR = (0, 0) ∧ Rk.Rks N E (Rk.g o) ∧ IR w4 (.slice ar kr cr) (up o)) ∨ (Rk.Cyc E ∧ kr = 0 ∧ FR = (17, -1)) := by
                rcases HQR.out with ⟨h1, -⟩ | ⟨-, h2⟩
                · rw [hF] at h1; exact absurd rfl h1
                · exact h2 N E rfl rfl
              clear HQR HQO
              have HIo := hide hIo
              have HRo := hide hRo
              have HIn := hide hIn
              clear hIo hRo hIn
              rcases hQR with ⟨oK, hKl, rfl, rfl, hKr, hKi⟩ | ⟨hcy, rfl, rfl⟩
              · have HKi := hide hKi
                have HKr := hide hKr
                clear hKi hKr
                go_wp2_with fail
                refine (granks_any kr E _ _ (HW8.out.keep ((Below.refl _ _).alloc (Nat.le_refl _) _)) HIn.out (by omega) (by omega)).mono ?_
                intro e w9 hgr
                obtain ⟨hgr, hb9⟩ := hgr
                have hok := Rk.rr_ok HIn.out
                cases hrr : Rk.rr E (kr + 1) (List.replicate kr 0) with
                | none =>
                  rw [hrr] at hok
                  exact absurd hok HKr.out.acyc
                | some o9 =>
                  rw [hrr] at hok hgr
                  obtain ⟨a9, c9, rfl, hl9, hi9⟩ := hgr
                  have e9 := Rk.rks_eq HKr.out hok.2 hKl hl9
                  subst e9
                  have kb9 : Below w8.heap.size w8 w9 := btrans ((Below.refl _ _).alloc (Nat.le_refl _) _) hb9
                  have q80 := bsome kb9 s80
                  have q81 := bsome kb9 s81
                  have q100 := bsome kb9 s100
                  have q101 := bsome kb9 s101
                  have HB9 := hide (btrans HB8.out kb9)
                  have HW9 := hide (HW8.out.keep kb9)
                  have HKi9 := hide (((HKi.out.keep HKR.out).keep HKE.out).keep kb9)
                  have HIo9 := hide ((HIo.out.keep HKE.out).keep kb9)
                  have HI9 := hide hi9
                  clear kb9 hb9 hi9 hok hrr s60 s61 s80 s81 s100 s101 HKi HIo HB8 HW8
                  go_wp2_with fail
                  refine (same_any (up oK) _ _ _ (by rw [up_len]; omega) HKi9.out HI9.out).mono ?_
                  rintro e w10 ⟨rfl, hb10⟩
                  have r100 := bsome hb10 q100
                  have r101 := bsome hb10 q101
                  have HB10 := hide (btrans HB9.out hb10)
                  have HW10 := hide (HW9.out.keep hb10)
                  have HIo10 := hide (HIo9.out.keep hb10)
                  clear hb10 q80 q81 q100 q101 HB9 HW9 HIo9 HKi9 HI9
                  go_wp2_with fail
                  refine (ground_any kr E _ _ HW10.out HIn.out (by omega) (by omega)).mono ?_
                  rintro e w11 ⟨v11, o11, rfl, hi11, hr11, hb11⟩
                  have e11 := hr11.one HRo.out
                  subst e11
                  have HB11 := hide (btrans HB10.out hb11)
                  have HIo11 := hide (HIo10.out.keep hb11)
                  have HI11 := hide hi11
                  clear hb11 hi11 hr11 HB10 HW10 HIo10
                  go_wp2_with fail
                  refine (same_any (up o11) _ _ _ (by rw [up_len]; omega) HIo11.out HI11.out).mono ?_
                  rintro e w12 ⟨rfl, hb12⟩
                  have HB12 := hide (btrans HB11.out hb12)
                  clear hb12
                  go_wp2
                  go_ret
                  exact ⟨rfl, HB12.out⟩
              · go_wp2_with fail
                refine (granks_any N E _ _ (HW8.out.keep ((Below.refl _ _).alloc (Nat.le_refl _) _)) HIn.out (by omega) (by omega)).mono ?_
                intro e w9 hgr
                obtain ⟨hgr, hb9⟩ := hgr
                have hok := Rk.rr_ok HIn.out
                cases hrr : Rk.rr E (N + 1) (List.replicate N 0) with
                | some o9 =>
                  rw [hrr] at hok
                  exact absurd hcy hok.2.acyc
                | none =>
                  rw [hrr] at hgr
                  subst hgr
                  have kb9 : Below w8.heap.size w8 w9 := btrans ((Below.refl _ _).alloc (Nat.le_refl _) _) hb9
                  have q80 := bsome kb9 s80
                  have q81 := bsome kb9 s81
                  have q100 := bsome kb9 s100
                  have q101 := bsome kb9 s101
                  have HB9 := hide (btrans HB8.out kb9)
                  have HW9 := hide (HW8.out.keep kb9)
                  have HIo9 := hide ((HIo.out.keep HKE.out).keep kb9)
                  clear kb9 hb9 hok hrr s60 s61 s80 s81 s100 s101 HIo HB8 HW8
                  go_wp2_with fail
                  refine (ground_any N E _ _ HW9.out HIn.out (by omega) (by omega)).mono ?_
                  rintro e w11 ⟨v11, o11, rfl, hi11, hr11, hb11⟩
                  have e11 := hr11.one HRo.out
                  subst e11
                  have HB11 := hide (btrans HB9.out hb11)
                  have HIo11 := hide (HIo9.out.keep hb11)
                  have HI11 := hide hi11
                  clear hb11 hi11 hr11 HB9 HW9 HIo9
                  go_wp2_with fail
                  refine (same_any (up o11) _ _ _ (by rw [up_len]; omega) HIo11.out HI11.out).mono ?_
                  rintro e w12 ⟨rfl, hb12⟩
                  have HB12 := hide (btrans HB11.out hb12)
                  clear hb12
                  go_wp2
                  go_ret
                  exact ⟨rfl, HB12.out⟩
            · have f0 : (F.1 == 0) = false := by simpa using hF0
              have eR : kr = 0 ∧ FR = F := by
                rcases HQR.out with ⟨-, h1, h2⟩ | ⟨h1, -⟩
                · exact ⟨h1, by rw [h2, hF]⟩
                · rw [hF] at h1; exact absurd h1 hF0
              have eO : ko = 0 ∧ FO = F := by
                rcases HQO.out with ⟨-, h1, h2⟩ | ⟨h1, -⟩
                · exact ⟨h1, by rw [h2, hF]⟩
                · rw [hF] at h1; exact absurd h1 hF0
              obtain ⟨rfl, rfl⟩ := eR
              obtain ⟨rfl, rfl⟩ := eO
              go_wp2
              go_ret
              exact ⟨rfl, HB8.out.alloc (by have := HB8.out.size; omega) _⟩
end Go.Proofs.Ytibhbbgpeckkfaa
