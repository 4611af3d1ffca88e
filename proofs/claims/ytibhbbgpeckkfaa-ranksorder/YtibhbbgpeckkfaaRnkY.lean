import Derived.Test.YtibhbbgpeckkfaaRnkX
/- Package ranks: the round. -/
namespace Go.Proofs.Ytibhbbgpeckkfaa
open Go.RowKit

theorem RV.keep {w w' : World} {B : Nat} {v : Value} {o : List Nat} (h : RV w B v o) (hb : Below w.heap.size w w') : RV w' B v o := ⟨h.1.keep hb, h.2.1, h.2.2⟩
theorem RV.low {w : World} {B B' : Nat} {v : Value} {o : List Nat} (h : RV w B v o) (hb : B' ≤ B) : RV w B' v o :=
  ⟨h.1, h.2.1, fun e => by obtain ⟨g, cap, h1, h2⟩ := h.2.2 e; exact ⟨g, cap, h1, by omega⟩⟩

set_option maxRecDepth 100000 in
set_option maxHeartbeats 4000000 in
theorem gxround_any (n : Nat) (E : Rk.Eg) (A : List (List Nat)) (gv : Value) (w : World) (h : GR w gv A) (hA : Rk.Adj n E A) (hn : n ≤ 300) :
    Calls Try.prog 19 #[gv] w fun e w' => ∃ (rv : Value) (o : List Nat), e = .returned rv ∧ Rk.Rnd E o ∧ RV w' w.heap.size rv o ∧ Below w.heap.size w w' := by
  have HG := hide h
  have HA := hide hA
  have hlen := hA.len
  obtain ⟨gb, cc, rfl, -⟩ := h
  rw [hlen] at *
  clear hA hlen
  go_enter Try.func19, Try.ntmps19
  go_wp2
  go_loopw [3, 8] (fun bv iv wr => ∃ (i : Nat) (o : List Nat), i ≤ n ∧ iv = .int .i64 i ∧ Hid (Rk.RB E i o) ∧ Hid (RV wr w.heap.size bv o) ∧ Hid (Below w.heap.size w wr)) (fun _ iv _ => n - (intOf iv).toNat)
  case atStart => exact ⟨0, [], Nat.zero_le _, rfl, hide (Rk.RB.zero E), hide ⟨own_ir (World.ownsRow_nil _ 0 _ _), fun _ => rfl, fun e => absurd rfl e⟩, hide (Below.refl _ _)⟩
  case round =>
    obtain ⟨i, o, hi, rfl, HRB, HV, HB⟩ := hrel
    by_cases hlt : i < n
    · have d1 : decide ((i : Int) < (n : Int)) = true := by simp; omega
      have CR := hide (roundOf_any n E A _ i wr (HG.out.keep HB.out) HA.out hn hlt)
      have hs := HB.out.size
      go_wp2_with fail
      refine CR.out.mono ?_
      rintro e w2 ⟨rv, f, rfl, hro, hrv, hb2⟩
      have HN := hide (HRB.out.next hro)
      have HV1 := hide (HV.out.keep hb2)
      have HV2 := hide (hrv.low hs)
      have HB2 := hide (btrans HB.out hb2)
      clear hro hrv hb2 HRB HV HB CR
      by_cases hf : f = []
      · subst hf
        obtain rfl := HV2.out.2.1 rfl
        rw [if_neg (fun hh => hh.1 rfl)] at HN
        by_cases ho : o = []
        · subst ho
          obtain rfl := HV1.out.2.1 rfl
          go_wp2
          go_roundw
          case rel => exact ⟨i + 1, [], by omega, by go_num, HN, HV1, HB2⟩
          case measure => simp [intOf]; omega
        · obtain ⟨g1, c1, rfl, -⟩ := HV1.out.2.2 ho
          go_wp2
          go_roundw
          case rel => exact ⟨i + 1, o, by omega, by go_num, HN, HV1, HB2⟩
          case measure => simp [intOf]; omega
      · obtain ⟨g2, c2, rfl, -⟩ := HV2.out.2.2 hf
        by_cases ho : o = []
        · subst ho
          obtain rfl := HV1.out.2.1 rfl
          rw [if_pos ⟨hf, .inl rfl⟩] at HN
          go_wp2
          rename_i hKK
          refine hKK _ _ ?_
          clear hKK
          go_wp2
          go_roundw
          case rel => exact ⟨i + 1, f, by omega, by go_num, HN, HV2, HB2⟩
          case measure => simp [intOf]; omega
        · obtain ⟨g1, c1, rfl, -⟩ := HV1.out.2.2 ho
          by_cases hl : f.length < o.length
          · have d2 : decide ((f.length : Int) < (o.length : Int)) = true := by simp; omega
            rw [if_pos ⟨hf, .inr hl⟩] at HN
            go_wp2
            rename_i hKK
            refine hKK _ _ ?_
            clear hKK
            go_wp2
            go_roundw
            case rel => exact ⟨i + 1, f, by omega, by go_num, HN, HV2, HB2⟩
            case measure => simp [intOf]; omega
          · have d2 : decide ((f.length : Int) < (o.length : Int)) = false := by simp; omega
            rw [if_neg (fun hh => hh.2.elim ho hl)] at HN
            go_wp2
            rename_i hKK
            refine hKK _ _ ?_
            clear hKK
            go_wp2
            go_roundw
            case rel => exact ⟨i + 1, o, by omega, by go_num, HN, HV1, HB2⟩
            case measure => simp [intOf]; omega
    · obtain rfl : i = n := by omega
      have d1 : decide ((i : Int) < (i : Int)) = false := by simp
      have HD := hide (HRB.out.done HA.out.inn)
      clear HRB
      go_wp2
      go_ret
      exact ⟨_, o, rfl, HD.out, HV.out, HB.out⟩
end Go.Proofs.Ytibhbbgpeckkfaa
