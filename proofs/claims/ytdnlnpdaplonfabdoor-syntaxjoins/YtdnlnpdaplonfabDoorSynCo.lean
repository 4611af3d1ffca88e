import Derived.Test.YtdnlnpdaplonfabDoorSynV
import Derived.Test.YtdnlnpdaplonfabDoorSynQa
import Derived.Deep.RegionHeldLaw
/- How many statements: both countings. -/
namespace Go.Proofs.YtdnlnpdaplonfabDoor
open Go.RowKit

theorem RS_len {w : World} {P : Nat → Prop} {n : Nat} (d : Sx.Tr) (c : List Value) (h : RS w P n d c) : c.length = 9 := by
  obtain ⟨D, at', A, B, T, N, E, body, els, uE, uB, uL, _, rfl, _⟩ := h
  rfl
theorem RG_len {w : World} {P : Nat → Prop} {n : Nat} (d : Sx.Tr) (c : List Value) (h : RG w P n d c) : c.length = 4 := by
  obtain ⟨nm, at', ps, body, uP, uB, _, rfl, _⟩ := h
  rfl
/-- One of a list's statements. -/
theorem SL.nth {w : World} {P : Nat → Prop} {n : Nat} {l : List Sx.Tr} {a : Option Addr} {cap : Nat} (h : SL w P (n + 1) l (.slice a l.length cap)) (i : Nat) (hi : i < l.length) :
    ∃ b off D at' A B T N E body els uE uB uL, a = some ⟨b, off, none⟩ ∧ P b ∧ l[i]? = some (Sx.tS D at' A B T N E body els) ∧
      w.cell? ⟨b, off + i * 9, none⟩ = some (.int .i64 D) ∧ w.cell? ⟨b, off + i * 9 + 1, none⟩ = some (.int .i64 at') ∧ w.cell? ⟨b, off + i * 9 + 2, none⟩ = some (.string (bs A)) ∧
      w.cell? ⟨b, off + i * 9 + 3, none⟩ = some (.string (bs B)) ∧ w.cell? ⟨b, off + i * 9 + 4, none⟩ = some (.string (bs T)) ∧ w.cell? ⟨b, off + i * 9 + 5, none⟩ = some (.int .i64 N) ∧
      w.cell? ⟨b, off + i * 9 + 6, none⟩ = some uE ∧ w.cell? ⟨b, off + i * 9 + 7, none⟩ = some uB ∧ w.cell? ⟨b, off + i * 9 + 8, none⟩ = some uL ∧ EL w P n E uE ∧ SL w P n body uB ∧ SL w P n els uL := by
  rw [SL_succ] at h
  obtain ⟨a', cap', hv, h⟩ := h
  cases hv
  rcases h with h | ⟨b, off, cs, ha, hb, hr, hc⟩
  · subst h; simp at hi
  · obtain ⟨c, hR, hcu⟩ := hr.at RS_len i _ (List.getElem?_eq_getElem hi)
    obtain ⟨D, at', A, B, T, N, E, body, els, uE, uB, uL, hd, rfl, h1, h2, h3⟩ := hR
    have hx := fun j u hu => hc _ u (hcu j u hu)
    simp only [← Nat.add_assoc] at hx
    exact ⟨b, off, D, at', A, B, T, N, E, body, els, uE, uB, uL, ha, hb, by rw [List.getElem?_eq_getElem hi, hd], hx 0 _ rfl, hx 1 _ rfl, hx 2 _ rfl, hx 3 _ rfl, hx 4 _ rfl, hx 5 _ rfl, hx 6 _ rfl, hx 7 _ rfl, hx 8 _ rfl, h1, h2, h3⟩
/-- One of a program's stages. -/
theorem GL.nth {w : World} {P : Nat → Prop} {n : Nat} {l : List Sx.Tr} {a : Option Addr} {cap : Nat} (h : Sl (RG w P n) w P l (.slice a l.length cap)) (i : Nat) (hi : i < l.length) :
    ∃ b off nm at' ps body uP uB, a = some ⟨b, off, none⟩ ∧ P b ∧ l[i]? = some (Sx.tG nm at' ps body) ∧
      w.cell? ⟨b, off + i * 4, none⟩ = some (.string (bs nm)) ∧ w.cell? ⟨b, off + i * 4 + 1, none⟩ = some (.int .i64 at') ∧ w.cell? ⟨b, off + i * 4 + 2, none⟩ = some uP ∧
      w.cell? ⟨b, off + i * 4 + 3, none⟩ = some uB ∧ Sl RP w P ps uP ∧ SL w P n body uB := by
  obtain ⟨a', cap', hv, h⟩ := h
  cases hv
  rcases h with h | ⟨b, off, cs, ha, hb, hr, hc⟩
  · subst h; simp at hi
  · obtain ⟨c, hR, hcu⟩ := hr.at RG_len i _ (List.getElem?_eq_getElem hi)
    obtain ⟨nm, at', ps, body, uP, uB, hd, rfl, h1, h2⟩ := hR
    have hx := fun j u hu => hc _ u (hcu j u hu)
    simp only [← Nat.add_assoc] at hx
    exact ⟨b, off, nm, at', ps, body, uP, uB, ha, hb, by rw [List.getElem?_eq_getElem hi, hd], hx 0 _ rfl, hx 1 _ rfl, hx 2 _ rfl, hx 3 _ rfl, h1, h2⟩

/-- Contract of both countings, at a level. -/
def CC (f n : Nat) : Prop := ∀ (w : World) (P : Nat → Prop) (l : List Sx.Tr) (v : Value), SL w P n l v → Sx.cnt n l ≤ 1000000000 →
  Calls Tryd.prog f #[v] w fun e w' => e = .returned (.int .i64 (Sx.cnt n l)) ∧ Kp [] w w'

set_option maxRecDepth 100000 in
set_option maxHeartbeats 1000000 in
theorem countBlock_step (n : Nat) (ih : CC 33 n) : CC 33 (n + 1) := by
  intro w P l v h hc
  obtain ⟨a, cap, rfl⟩ := h.slice
  have HS := hide h
  have IH := hide ih
  have HC := hide hc
  have hl : l.length ≤ 1000000000 := by have : l.length + _ = Sx.cnt (n + 1) l := rfl; omega
  clear h ih hc
  have hsum : ∀ k : Nat, Sx.sum (fun d => Sx.cnt n (Sx.sB d) + Sx.cnt n (Sx.sO d)) (l.take k) + l.length ≤ 1000000000 := fun k => by
    have h1 := Sx.sum_take_le (fun d => Sx.cnt n (Sx.sB d) + Sx.cnt n (Sx.sO d)) l k
    have : l.length + Sx.sum (fun d => Sx.cnt n (Sx.sB d) + Sx.cnt n (Sx.sO d)) l = Sx.cnt (n + 1) l := rfl
    have := HC.out
    omega
  have HSUM := hide hsum
  clear hsum
  go_enter Tryd.func33, Tryd.ntmps33
  go_wp2
  go_loopw [3, 10] (fun nv iv wr => ∃ k : Nat, k ≤ l.length ∧ iv = .int .i64 k ∧ nv = .int .i64 ((l.length + Sx.sum (fun d => Sx.cnt n (Sx.sB d) + Sx.cnt n (Sx.sO d)) (l.take k) : Nat) : Int) ∧ Hid (Kp [] w wr)) (fun _ iv _ => l.length - (intOf iv).toNat)
  case atStart => exact ⟨0, Nat.zero_le _, rfl, by simp [Sx.sum], Kp.refl _ _⟩
  case round =>
    obtain ⟨k, hk, rfl, rfl, HK⟩ := hrel
    by_cases hlt : k < l.length
    · obtain ⟨b, off, D, at', A, B, T, N, E, body, els, uE, uB, uL, rfl, _, hd, m0, m1, m2, m3, m4, m5, m6, m7, m8, hE, hB, hL⟩ := (HS.out.keep HK.out (by simp)).nth k hlt
      have hst := Sx.sum_take (fun d => Sx.cnt n (Sx.sB d) + Sx.cnt n (Sx.sO d)) l k _ hd
      have h1 := HSUM.out (k + 1)
      have hst' : Sx.sum (fun d => Sx.cnt n (Sx.sB d) + Sx.cnt n (Sx.sO d)) (l.take (k + 1)) = Sx.sum (fun d => Sx.cnt n (Sx.sB d) + Sx.cnt n (Sx.sO d)) (l.take k) + (Sx.cnt n body + Sx.cnt n els) := hst
      have HST := hide hst'
      rw [hst'] at h1
      have HB := hide hB
      have HL := hide hL
      obtain ⟨aE, cE, rfl⟩ := hE.slice
      obtain ⟨aB, cB, rfl⟩ := hB.slice
      obtain ⟨aL, cL, rfl⟩ := hL.slice
      clear hst hst' hE hB hL hd
      generalize Sx.sum (fun d => Sx.cnt n (Sx.sB d) + Sx.cnt n (Sx.sO d)) (l.take k) = X at *
      have hblt := World.block_lt_of_cell? _ _ m0
      go_wp2
      go_region_held_law (fun w' => w'.cell? ⟨wr.heap.size, 7, none⟩ = some (.slice aB body.length cB) ∧ w'.cell? ⟨wr.heap.size, 8, none⟩ = some (.slice aL els.length cL)) ((first | exact ⟨by assumption, by assumption⟩ | go_keep))
        ((first
          | (have hK1 := K1; clear hK1; go_at_call 33; refine (IH.out _ P els (.slice aL els.length cL) ?_ ?_).mono ?_; exact HL.out.keep K1.out (by simp); omega; rintro e w2 ⟨rfl, hk2⟩; have d7 : w2.cell? ⟨wr.heap.size, 7, none⟩ = some (.slice aB body.length cB) := hk2.some c7 (by simp); have d8 : w2.cell? ⟨wr.heap.size, 8, none⟩ = some (.slice aL els.length cL) := hk2.some c8 (by simp); have K2 : Hid (Kp [] wr w2) := K1.out.trans hk2; clear hk2)
          | (go_at_call 33; refine (IH.out _ P body (.slice aB body.length cB) ?_ ?_).mono ?_; exact HB.out.keep (((Kp.refl [] _).alloc _).drew) (by simp); omega; rintro e w1 ⟨rfl, hk1⟩; have c7 : w1.cell? ⟨wr.heap.size, 7, none⟩ = some (.slice aB body.length cB) := hk1.some (by simp [go_sem]) (by simp); have c8 : w1.cell? ⟨wr.heap.size, 8, none⟩ = some (.slice aL els.length cL) := hk1.some (by simp [go_sem]) (by simp); have K1 : Hid (Kp [] wr w1) := (((Kp.refl [] _).alloc _).drew).trans hk1; clear hk1)))
      go_wp2
      go_roundw
      case rel => exact ⟨k + 1, by omega, by go_num, by rw [HST.out]; first | (congr 1; done) | (congr 1; simp only [IntKind.wrap_i64]; omega), HK.out.trans K2.out⟩
      case measure => simp [intOf]; omega
    · obtain rfl : k = l.length := by omega
      go_wp2
      go_ret
      refine ⟨?_, HK.out⟩
      rw [List.take_length]
      rfl
set_option maxRecDepth 100000 in
set_option maxHeartbeats 1000000 in
theorem countStmts_step (n : Nat) (ih : CC 34 n) : CC 34 (n + 1) := by
  intro w P l v h hc
  obtain ⟨a, cap, rfl⟩ := h.slice
  have HS := hide h
  have IH := hide ih
  have HC := hide hc
  have hl : l.length ≤ 1000000000 := by have : l.length + _ = Sx.cnt (n + 1) l := rfl; omega
  clear h ih hc
  have hsum : ∀ k : Nat, Sx.sum (fun d => Sx.cnt n (Sx.sB d) + Sx.cnt n (Sx.sO d)) (l.take k) + l.length ≤ 1000000000 := fun k => by
    have h1 := Sx.sum_take_le (fun d => Sx.cnt n (Sx.sB d) + Sx.cnt n (Sx.sO d)) l k
    have : l.length + Sx.sum (fun d => Sx.cnt n (Sx.sB d) + Sx.cnt n (Sx.sO d)) l = Sx.cnt (n + 1) l := rfl
    have := HC.out
    omega
  have HSUM := hide hsum
  clear hsum
  go_enter Tryd.func34, Tryd.ntmps34
  go_wp2
  go_loopw [3, 4] (fun nv iv wr => ∃ k : Nat, k ≤ l.length ∧ iv = .int .i64 k ∧ nv = .int .i64 ((l.length + Sx.sum (fun d => Sx.cnt n (Sx.sB d) + Sx.cnt n (Sx.sO d)) (l.take k) : Nat) : Int) ∧ Hid (Kp [] w wr)) (fun _ iv _ => l.length - (intOf iv).toNat)
  case atStart => exact ⟨0, Nat.zero_le _, rfl, by simp [Sx.sum], Kp.refl _ _⟩
  case round =>
    obtain ⟨k, hk, rfl, rfl, HK⟩ := hrel
    by_cases hlt : k < l.length
    · obtain ⟨b, off, D, at', A, B, T, N, E, body, els, uE, uB, uL, rfl, _, hd, _, _, _, _, _, _, _, m7, m8, hE, hB, hL⟩ := (HS.out.keep HK.out (by simp)).nth k hlt
      have hst := Sx.sum_take (fun d => Sx.cnt n (Sx.sB d) + Sx.cnt n (Sx.sO d)) l k _ hd
      have h1 := HSUM.out (k + 1)
      have hst' : Sx.sum (fun d => Sx.cnt n (Sx.sB d) + Sx.cnt n (Sx.sO d)) (l.take (k + 1)) = Sx.sum (fun d => Sx.cnt n (Sx.sB d) + Sx.cnt n (Sx.sO d)) (l.take k) + (Sx.cnt n body + Sx.cnt n els) := hst
      have HST := hide hst'
      rw [hst'] at h1
      have HB := hide hB
      have HL := hide hL
      obtain ⟨aB, cB, rfl⟩ := hB.slice
      obtain ⟨aL, cL, rfl⟩ := hL.slice
      clear hst hst' hE hB hL hd
      generalize Sx.sum (fun d => Sx.cnt n (Sx.sB d) + Sx.cnt n (Sx.sO d)) (l.take k) = X at *
      have hk0 : (0 : Int) ≤ (k : Int) := by omega
      have hk1 : (k : Int) < (l.length : Int) := by omega
      go_wp2
      go_region_held_law (fun w' => w'.cell? ⟨b, off + k * 9 + 7, none⟩ = some (.slice aB body.length cB) ∧ w'.cell? ⟨b, off + k * 9 + 8, none⟩ = some (.slice aL els.length cL)) ((first | exact ⟨by assumption, by assumption⟩ | go_keep))
        ((first
          | (have hK1 := K1; clear hK1; go_at_call 34; refine (IH.out _ P els (.slice aL els.length cL) ?_ ?_).mono ?_; exact HL.out.keep K1.out (by simp); omega; rintro e w2 ⟨rfl, hk2⟩; have d7 : w2.cell? ⟨b, off + k * 9 + 7, none⟩ = some (.slice aB body.length cB) := hk2.some c7 (by simp); have d8 : w2.cell? ⟨b, off + k * 9 + 8, none⟩ = some (.slice aL els.length cL) := hk2.some c8 (by simp); have K2 : Hid (Kp [] wr w2) := K1.out.trans hk2; clear hk2)
          | (go_at_call 34; refine (IH.out _ P body (.slice aB body.length cB) ?_ ?_).mono ?_; exact HB.out.keep (Kp.refl [] _).drew (by simp); omega; rintro e w1 ⟨rfl, hk1⟩; have c7 : w1.cell? ⟨b, off + k * 9 + 7, none⟩ = some (.slice aB body.length cB) := hk1.some (by simpa [go_sem] using m7) (by simp); have c8 : w1.cell? ⟨b, off + k * 9 + 8, none⟩ = some (.slice aL els.length cL) := hk1.some (by simpa [go_sem] using m8) (by simp); have K1 : Hid (Kp [] wr w1) := (Kp.refl [] _).drew.trans hk1; clear hk1)))
      go_wp2
      go_roundw
      case rel => exact ⟨k + 1, by omega, by go_num, by rw [HST.out]; first | (congr 1; done) | (congr 1; simp only [IntKind.wrap_i64]; omega), HK.out.trans K2.out⟩
      case measure => simp [intOf]; omega
    · obtain rfl : k = l.length := by omega
      go_wp2
      go_ret
      refine ⟨?_, HK.out⟩
      rw [List.take_length]
      rfl

def CG (f n : Nat) : Prop := ∀ (w : World) (P : Nat → Prop) (l : List Sx.Tr) (a : Option Addr) (cap : Nat), Sl (RG w P n) w P l (.slice a l.length cap) → Sx.cntG n l ≤ 1000000000 → l.length ≤ 1000000000 →
  Calls Tryd.prog f #[.agg #[.slice a l.length cap]] w fun e w' => e = .returned (.int .i64 (Sx.cntG n l)) ∧ Kp [] w w'
set_option maxRecDepth 100000 in
set_option maxHeartbeats 1000000 in
theorem count_any (n : Nat) (ih : CC 33 n) : CG 14 n := by
  intro w P l a cap h hc hl
  have HS := hide h
  have IH := hide ih
  have HSUM : Hid (∀ k : Nat, Sx.sum (fun d => Sx.cnt n (Sx.gB d)) (l.take k) ≤ 1000000000) := fun k => by
    have h1 := Sx.sum_take_le (fun d => Sx.cnt n (Sx.gB d)) l k
    have : Sx.sum (fun d => Sx.cnt n (Sx.gB d)) l = Sx.cntG n l := rfl
    omega
  clear h ih hc
  go_enter Tryd.func14, Tryd.ntmps14
  go_wp2
  go_loopw [3, 9] (fun nv iv wr => ∃ k : Nat, k ≤ l.length ∧ iv = .int .i64 k ∧ nv = .int .i64 ((Sx.sum (fun d => Sx.cnt n (Sx.gB d)) (l.take k) : Nat) : Int) ∧ Hid (Kp [] w wr)) (fun _ iv _ => l.length - (intOf iv).toNat)
  case atStart => exact ⟨0, Nat.zero_le _, rfl, by simp [Sx.sum], (Kp.refl _ _).alloc _⟩
  case round =>
    obtain ⟨k, hk, rfl, rfl, HK⟩ := hrel
    by_cases hlt : k < l.length
    · obtain ⟨b, off, nm, at', ps, body, uP, uB, rfl, _, hd, m0, m1, m2, m3, hP, hB⟩ := GL.nth (HS.out.keep HK.out (by simp) (fun d c h => h.keep HK.out (by simp))) k hlt
      have hst := Sx.sum_take (fun d => Sx.cnt n (Sx.gB d)) l k _ hd
      have h1 := HSUM.out (k + 1)
      have hst' : Sx.sum (fun d => Sx.cnt n (Sx.gB d)) (l.take (k + 1)) = Sx.sum (fun d => Sx.cnt n (Sx.gB d)) (l.take k) + Sx.cnt n body := hst
      have HST := hide hst'
      rw [hst'] at h1
      have HB := hide hB
      obtain ⟨aB, cB, rfl⟩ := hB.slice
      obtain ⟨aP, cP, rfl, _⟩ := hP
      clear hst hst' hB hd
      generalize Sx.sum (fun d => Sx.cnt n (Sx.gB d)) (l.take k) = X at *
      have hblt := World.block_lt_of_cell? _ _ m0
      go_wp2_with fail
      refine (IH.out _ P body (.slice aB body.length cB) (HB.out.keep ((Kp.refl [] _).alloc _) (by simp)) (by omega)).mono ?_
      rintro e w1 ⟨rfl, hk1⟩
      have K1 : Hid (Kp [] wr w1) := ((Kp.refl [] _).alloc _).trans hk1
      clear hk1
      go_wp2
      go_roundw
      case rel => exact ⟨k + 1, by omega, by go_num, by rw [HST.out]; first | (congr 1; done) | (congr 1; simp only [IntKind.wrap_i64]; omega), HK.out.trans K1.out⟩
      case measure => simp [intOf]; omega
    · obtain rfl : k = l.length := by omega
      go_wp2
      go_ret
      refine ⟨?_, HK.out⟩
      rw [List.take_length]
      rfl
set_option maxRecDepth 100000 in
set_option maxHeartbeats 1000000 in
theorem rcount_any (n : Nat) (ih : CC 34 n) : CG 15 n := by
  intro w P l a cap h hc hl
  have HS := hide h
  have IH := hide ih
  have HSUM : Hid (∀ k : Nat, Sx.sum (fun d => Sx.cnt n (Sx.gB d)) (l.take k) ≤ 1000000000) := fun k => by
    have h1 := Sx.sum_take_le (fun d => Sx.cnt n (Sx.gB d)) l k
    have : Sx.sum (fun d => Sx.cnt n (Sx.gB d)) l = Sx.cntG n l := rfl
    omega
  clear h ih hc
  go_enter Tryd.func15, Tryd.ntmps15
  go_wp2
  go_loopw [3, 4] (fun nv iv wr => ∃ k : Nat, k ≤ l.length ∧ iv = .int .i64 k ∧ nv = .int .i64 ((Sx.sum (fun d => Sx.cnt n (Sx.gB d)) (l.take k) : Nat) : Int) ∧ Hid (Kp [] w wr) ∧ wr.cell? ⟨w.heap.size, 0, none⟩ = some (.slice a l.length cap)) (fun _ iv _ => l.length - (intOf iv).toNat)
  case atStart => exact ⟨0, Nat.zero_le _, rfl, by simp [Sx.sum], (Kp.refl _ _).alloc _, by simp [go_sem]⟩
  case round =>
    obtain ⟨k, hk, rfl, rfl, HK, hp⟩ := hrel
    by_cases hlt : k < l.length
    · obtain ⟨b, off, nm, at', ps, body, uP, uB, rfl, _, hd, m0, m1, m2, m3, hP, hB⟩ := GL.nth (HS.out.keep HK.out (by simp) (fun d c h => h.keep HK.out (by simp))) k hlt
      have hst := Sx.sum_take (fun d => Sx.cnt n (Sx.gB d)) l k _ hd
      have h1 := HSUM.out (k + 1)
      have hst' : Sx.sum (fun d => Sx.cnt n (Sx.gB d)) (l.take (k + 1)) = Sx.sum (fun d => Sx.cnt n (Sx.gB d)) (l.take k) + Sx.cnt n body := hst
      have HST := hide hst'
      rw [hst'] at h1
      have HB := hide hB
      obtain ⟨aB, cB, rfl⟩ := hB.slice
      clear hst hst' hB hd m0 m1 m2 hP
      generalize Sx.sum (fun d => Sx.cnt n (Sx.gB d)) (l.take k) = X at *
      have hk0 : (0 : Int) ≤ (k : Int) := by omega
      have hk1 : (k : Int) < (l.length : Int) := by omega
      go_wp2_with fail
      refine (IH.out _ P body (.slice aB body.length cB) HB.out (by omega)).mono ?_
      rintro e w1 ⟨rfl, hk1⟩
      have c8 : w1.cell? ⟨w.heap.size, 0, none⟩ = some (.slice (some ⟨b, off, none⟩) l.length cap) := hk1.some hp (by simp)
      have K1 := hide hk1
      clear hk1
      go_wp2
      go_roundw
      case rel => exact ⟨k + 1, by omega, by go_num, by rw [HST.out]; first | (congr 1; done) | (congr 1; simp only [IntKind.wrap_i64]; omega), HK.out.trans K1.out, c8⟩
      case measure => simp [intOf]; omega
    · obtain rfl : k = l.length := by omega
      go_wp2
      go_ret
      refine ⟨?_, HK.out⟩
      rw [List.take_length]
      rfl
theorem countBlock_any (n : Nat) : CC 33 n := by
  induction n with
  | zero => intro w P l v h; cases h
  | succ n ih => exact countBlock_step n ih
theorem countStmts_any (n : Nat) : CC 34 n := by
  induction n with
  | zero => intro w P l v h; cases h
  | succ n ih => exact countStmts_step n ih
end Go.Proofs.YtdnlnpdaplonfabDoor
