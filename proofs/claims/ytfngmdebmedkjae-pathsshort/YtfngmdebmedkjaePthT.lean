import Derived.Test.YtfngmdebmedkjaePthA
/- Is a stage as code too great? -/
namespace Go.Proofs.Ytfngmdebmedkjae
open Go.RowKit

/-- A stage as code that came in: all of it can be read. -/
structure GM (c : Cp) (w : World) : Prop where
  ne : c.p ≠ [] → c.a = some ⟨c.g, c.o, none⟩
  nm : ∃ s, c.nm = .string s
  vs : ∃ (n k : Nat) (a : Option Addr), c.vs = .slice a n k ∧ (0 < n → ∃ g o, a = some ⟨g, o, none⟩ ∧ ∀ i, i < n → ∃ s t, w.cell? ⟨g, o + i * 2, none⟩ = some (.string s) ∧ w.cell? ⟨g, o + i * 2 + 1, none⟩ = some (.string t))
  bl : ∃ (n k : Nat) (a : Option Addr), c.bl = .slice a n k
  row : ∀ (i : Nat) x, c.p[i]? = some x → ∃ (u1 u2 u3 : Int) (u5 : ByteArray) (a6 : Option Addr) (n6 c6 : Nat) (a7 : Option Addr) (n7 c7 : Nat) (u8 u9 u10 : Int), w.cell? ⟨c.g, c.o + i * 11, none⟩ = some (.int .i64 x.1) ∧ w.cell? ⟨c.g, c.o + i * 11 + 1, none⟩ = some (.int .i64 u1) ∧ w.cell? ⟨c.g, c.o + i * 11 + 2, none⟩ = some (.int .i64 u2) ∧ w.cell? ⟨c.g, c.o + i * 11 + 3, none⟩ = some (.int .i64 u3) ∧
    w.cell? ⟨c.g, c.o + i * 11 + 4, none⟩ = some (.int .i64 x.2) ∧ w.cell? ⟨c.g, c.o + i * 11 + 5, none⟩ = some (.string u5) ∧ w.cell? ⟨c.g, c.o + i * 11 + 6, none⟩ = some (.slice a6 n6 c6) ∧ w.cell? ⟨c.g, c.o + i * 11 + 7, none⟩ = some (.slice a7 n7 c7) ∧ w.cell? ⟨c.g, c.o + i * 11 + 8, none⟩ = some (.int .i64 u8) ∧ w.cell? ⟨c.g, c.o + i * 11 + 9, none⟩ = some (.int .i64 u9) ∧ w.cell? ⟨c.g, c.o + i * 11 + 10, none⟩ = some (.int .i64 u10) ∧
    (0 < n7 → ∃ g o, a7 = some ⟨g, o, none⟩ ∧ ∀ j, j < n7 → ∃ a n k, w.cell? ⟨g, o + j * 2, none⟩ = some (.slice a n k))
theorem GM.pm {c : Cp} {w : World} (h : GM c w) (hf : c.p.length ≤ 300) : PM c w := by
  refine ⟨hf, h.ne, fun i x hx => ?_⟩
  obtain ⟨u1, u2, u3, u5, a6, n6, c6, a7, n7, c7, u8, u9, u10, h0, h1, h2, h3, h4, h5, h6, h7, h8, h9, h10, -⟩ := h.row i x hx
  exact ⟨u1, u2, u3, u5, a6, n6, c6, a7, n7, c7, u8, u9, u10, h0, h1, h2, h3, h4, h5, h6, h7, h8, h9, h10⟩
theorem GM.keep {c : Cp} {w w' : World} (h : GM c w) (hb : Below w.heap.size w w') : GM c w' := by
  refine ⟨h.ne, h.nm, ?_, h.bl, fun i x hx => ?_⟩
  · obtain ⟨n, k, a, h1, h2⟩ := h.vs
    refine ⟨n, k, a, h1, fun hn => ?_⟩
    obtain ⟨g, o, h3, h4⟩ := h2 hn
    refine ⟨g, o, h3, fun i hi => ?_⟩
    obtain ⟨s, t, h5, h6⟩ := h4 i hi
    exact ⟨s, t, bsome hb h5, bsome hb h6⟩
  · obtain ⟨u1, u2, u3, u5, a6, n6, c6, a7, n7, c7, u8, u9, u10, h0, h1, h2, h3, h4, h5, h6, h7, h8, h9, h10, h11⟩ := h.row i x hx
    refine ⟨u1, u2, u3, u5, a6, n6, c6, a7, n7, c7, u8, u9, u10, bsome hb h0, bsome hb h1, bsome hb h2, bsome hb h3, bsome hb h4, bsome hb h5, bsome hb h6, bsome hb h7, bsome hb h8, bsome hb h9, bsome hb h10, fun hn => ?_⟩
    obtain ⟨g, o, h12, h13⟩ := h11 hn
    refine ⟨g, o, h12, fun j hj => ?_⟩
    obtain ⟨a, n, k, h14⟩ := h13 j hj
    exact ⟨a, n, k, bsome hb h14⟩
/-- What is told of it: that it is too great, or that it has no more instructions than so many. -/
def GPo (n : Nat) (w : World) (e : Ending) (w' : World) : Prop := ∃ q : Bool, e = .returned (.bool q) ∧ (q = false → n ≤ 300) ∧ Below w.heap.size w w'

set_option maxRecDepth 100000 in
set_option maxHeartbeats 2000000 in
theorem great_any (c : Cp) (w : World) (h : GM c w) : Calls Try.prog 6 #[c.v, .int .i64 300] w (GPo c.p.length w) := by
  obtain ⟨hne, ⟨sn, hnm⟩, ⟨nv, kv, av, hvs, hvr⟩, ⟨nb, kb, ab, hbl⟩, hrow⟩ := h
  obtain ⟨g, o, cc, a, nm, vs, pr, bl, p⟩ := c
  unfold Cp.v
  dsimp only at *
  subst hnm hvs hbl
  have HB0 : Hid (Below w.heap.size w (w.alloc (.cells #[.string sn, .slice av nv kv, pr, .slice ab nb kb, .slice a p.length cc] 26))) := hide ((Below.refl _ _).alloc (Nat.le_refl _) _)
  have HNE := hide hne
  have HVR := hide hvr
  have HRW := hide hrow
  clear hne hvr hrow
  by_cases g1 : 1000 < sn.size
  · have d1 : decide ((1000 : Int) < (sn.size : Int)) = true := by simp; omega
    go_enter Try.func6, Try.ntmps6
    go_wp2
    go_ret
    exact ⟨true, rfl, (fun e => by cases e), HB0.out⟩
  have d1 : decide ((1000 : Int) < (sn.size : Int)) = false := by simp; omega
  by_cases g2 : 300 < nv
  · have d2 : decide ((300 : Int) < (nv : Int)) = true := by simp; omega
    go_enter Try.func6, Try.ntmps6
    go_wp2
    go_ret
    exact ⟨true, rfl, (fun e => by cases e), HB0.out⟩
  have d2 : decide ((300 : Int) < (nv : Int)) = false := by simp; omega
  by_cases g3 : 300 < nb
  · have d3 : decide ((300 : Int) < (nb : Int)) = true := by simp; omega
    go_enter Try.func6, Try.ntmps6
    go_wp2
    go_ret
    exact ⟨true, rfl, (fun e => by cases e), HB0.out⟩
  have d3 : decide ((300 : Int) < (nb : Int)) = false := by simp; omega
  by_cases g4 : 300 < p.length
  · have d4 : decide ((300 : Int) < (p.length : Int)) = true := by simp; omega
    go_enter Try.func6, Try.ntmps6
    go_wp2
    go_ret
    exact ⟨true, rfl, (fun e => by cases e), HB0.out⟩
  have d4 : decide ((300 : Int) < (p.length : Int)) = false := by simp; omega
  have hfew : p.length ≤ 300 := by omega
  have HF := hide hfew
  go_enter Try.func6, Try.ntmps6
  go_wp2
  have x1 : (w.alloc (.cells #[.string sn, .slice av nv kv, pr, .slice ab nb kb, .slice a p.length cc] 26)).cell? ⟨w.heap.size, 1, none⟩ = some (.slice av nv kv) := by simp [go_sem]
  have x4 : (w.alloc (.cells #[.string sn, .slice av nv kv, pr, .slice ab nb kb, .slice a p.length cc] 26)).cell? ⟨w.heap.size, 4, none⟩ = some (.slice a p.length cc) := by simp [go_sem]
  generalize w.alloc (.cells #[.string sn, .slice av nv kv, pr, .slice ab nb kb, .slice a p.length cc] 26) = w1 at *
  go_loopw [6] (fun iv wr => ∃ k : Nat, k ≤ nv ∧ iv = .int .i64 k ∧ ∃ n, wr = w1.drewN n) (fun iv _ => nv - (intOf iv).toNat)
  case atStart => exact ⟨0, Nat.zero_le _, rfl, 0, rfl⟩
  case round =>
    obtain ⟨k, hk, rfl, n, rfl⟩ := hrel
    by_cases hlt : k < nv
    · obtain ⟨gv, ov, rfl, hv⟩ := HVR.out (by omega)
      obtain ⟨s, t, h5, h6⟩ := hv k hlt
      have z5 := bsome HB0.out h5
      have z6 := bsome HB0.out h6
      clear hv h5 h6
      by_cases k1 : 100 < s.size
      · have e1 : decide ((100 : Int) < (s.size : Int)) = true := by simp; omega
        go_wp2
        go_ret
        exact ⟨true, rfl, (fun e => by cases e), below_drewN HB0.out _⟩
      have e1 : decide ((100 : Int) < (s.size : Int)) = false := by simp; omega
      by_cases k2 : 100 < t.size
      · have e2 : decide ((100 : Int) < (t.size : Int)) = true := by simp; omega
        go_wp2
        go_ret
        exact ⟨true, rfl, (fun e => by cases e), below_drewN HB0.out _⟩
      have e2 : decide ((100 : Int) < (t.size : Int)) = false := by simp; omega
      go_wp2
      go_roundw
      case rel => exact ⟨k + 1, by omega, by go_num, _, rfl⟩
      case measure => simp [intOf]; omega
    · have HB1 : Hid (Below w.heap.size w (w1.drewN n)) := hide (below_drewN HB0.out _)
      have y4 : (w1.drewN n).cell? ⟨w.heap.size, 4, none⟩ = some (.slice a p.length cc) := x4
      go_wp2
      generalize w1.drewN n = w2 at *
      clear x1 x4 HB0
      go_loopw [5, 7] (fun nv' iv wr => ∃ (m k : Nat), nv' = .int .i64 m ∧ m ≤ 6000 ∧ k ≤ p.length ∧ iv = .int .i64 k ∧ Hid (Below w2.heap.size w2 wr)) (fun _ iv _ => p.length - (intOf iv).toNat)
      case atStart => exact ⟨0, 0, rfl, by omega, by omega, rfl, hide (Below.refl _ _)⟩
      case round =>
        obtain ⟨m, k, rfl, hm, hk, rfl, HB⟩ := hrel
        have z4 := bsome HB.out y4
        have hzl := World.block_lt_of_cell? _ _ z4
        dsimp only at hzl
        by_cases hlt : k < p.length
        · obtain ⟨x, hx⟩ : ∃ x, p[k]? = some x := ⟨_, List.getElem?_eq_getElem hlt⟩
          obtain ⟨u1, u2, u3, u5, a6, n6, c6, a7, n7, c7, u8, u9, u10, h0, h1, h2, h3, h4, h5, h6, h7, h8, h9, h10, hargs⟩ := HRW.out k x hx
          have hca := HNE.out (by rintro rfl; simp at hlt)
          rw [hca] at z4
          have HBw := hide (btrans HB1.out HB.out)
          have q0 := bsome HBw.out h0
          have q1 := bsome HBw.out h1
          have q2 := bsome HBw.out h2
          have q3 := bsome HBw.out h3
          have q4 := bsome HBw.out h4
          have q5 := bsome HBw.out h5
          have q6 := bsome HBw.out h6
          have q7 := bsome HBw.out h7
          have q8 := bsome HBw.out h8
          have q9 := bsome HBw.out h9
          have q10 := bsome HBw.out h10
          have hgl := World.block_lt_of_cell? _ _ q0
          dsimp only at hgl
          have HAR := hide hargs
          clear hx hca h0 h1 h2 h3 h4 h5 h6 h7 h8 h9 h10 hargs
          by_cases k1 : 100 < u5.size
          · have e1 : decide ((100 : Int) < (u5.size : Int)) = true := by simp; omega
            go_wp2
            go_ret
            exact ⟨true, rfl, (fun e => by cases e), HBw.out.alloc HBw.out.size _⟩
          have e1 : decide ((100 : Int) < (u5.size : Int)) = false := by simp; omega
          by_cases k2 : 100 < n7
          · have e2 : decide ((100 : Int) < (n7 : Int)) = true := by simp; omega
            go_wp2
            go_ret
            exact ⟨true, rfl, (fun e => by cases e), HBw.out.alloc HBw.out.size _⟩
          have e2 : decide ((100 : Int) < (n7 : Int)) = false := by simp; omega
          by_cases k3 : 1000 < n6
          · have e3 : decide ((1000 : Int) < (n6 : Int)) = true := by simp; omega
            go_wp2
            go_ret
            exact ⟨true, rfl, (fun e => by cases e), HBw.out.alloc HBw.out.size _⟩
          have e3 : decide ((1000 : Int) < (n6 : Int)) = false := by simp; omega
          obtain ⟨wo, hwo⟩ : ∃ q, q = wr := ⟨_, rfl⟩
          subst hwo
          go_wp2
          have e7 : (wo.alloc (.cells #[.int .i64 x.1, .int .i64 u1, .int .i64 u2, .int .i64 u3, .int .i64 x.2, .string u5, .slice a6 n6 c6, .slice a7 n7 c7, .int .i64 u8, .int .i64 u9, .int .i64 u10] 40)).cell? ⟨wo.heap.size, 7, none⟩ = some (.slice a7 n7 c7) := by simp [go_sem]
          have HB6 : Hid (Below wo.heap.size wo (wo.alloc (.cells #[.int .i64 x.1, .int .i64 u1, .int .i64 u2, .int .i64 u3, .int .i64 x.2, .string u5, .slice a6 n6 c6, .slice a7 n7 c7, .int .i64 u8, .int .i64 u9, .int .i64 u10] 40))) := hide ((Below.refl _ _).alloc (Nat.le_refl _) _)
          generalize wo.alloc (.cells #[.int .i64 x.1, .int .i64 u1, .int .i64 u2, .int .i64 u3, .int .i64 x.2, .string u5, .slice a6 n6 c6, .slice a7 n7 c7, .int .i64 u8, .int .i64 u9, .int .i64 u10] 40) = w6 at *
          clear q0 q1 q2 q3 q4 q5 q6 q7 q8 q9 q10
          go_loopw [5, 9] (fun nv' jv wr => ∃ (m' j : Nat), nv' = .int .i64 m' ∧ m' ≤ 7000 + 1000 * j ∧ j ≤ n7 ∧ jv = .int .i64 j ∧ ∃ n, wr = w6.drewN n) (fun _ jv _ => n7 - (intOf jv).toNat)
          case atStart => exact ⟨m + n6, 0, by go_num, by omega, by omega, rfl, 0, rfl⟩
          case round =>
            obtain ⟨m', j, rfl, hm', hj, rfl, n', rfl⟩ := hrel
            by_cases hlt7 : j < n7
            · obtain ⟨g7, o7, rfl, hcell⟩ := HAR.out (by omega)
              obtain ⟨aa, nn, kk, hc⟩ := hcell j hlt7
              have z7 := bsome HB6.out (bsome HBw.out hc)
              clear hcell hc
              by_cases k4 : 1000 < nn
              · have e4 : decide ((1000 : Int) < (nn : Int)) = true := by simp; omega
                go_wp2
                go_ret
                exact ⟨true, rfl, (fun e => by cases e), below_drewN (btrans HBw.out HB6.out) _⟩
              have e4 : decide ((1000 : Int) < (nn : Int)) = false := by simp; omega
              go_wp2
              go_roundw
              case rel => exact ⟨m' + nn, j + 1, by go_num, by omega, by omega, by go_num, _, rfl⟩
              case measure => simp [intOf]; omega
            · by_cases k5 : 6000 < m'
              · have e5 : decide ((6000 : Int) < (m' : Int)) = true := by simp; omega
                go_wp2
                go_ret
                exact ⟨true, rfl, (fun e => by cases e), below_drewN (btrans HBw.out HB6.out) _⟩
              have e5 : decide ((6000 : Int) < (m' : Int)) = false := by simp; omega
              go_wp2
              go_roundw
              case rel => exact ⟨m', k + 1, rfl, by omega, by omega, by go_num, hide (below_drewN (btrans HB.out HB6.out) _)⟩
              case measure => simp [intOf]; omega
        · go_wp2
          go_ret
          exact ⟨false, rfl, fun _ => HF.out, btrans HB1.out HB.out⟩
end Go.Proofs.Ytfngmdebmedkjae
