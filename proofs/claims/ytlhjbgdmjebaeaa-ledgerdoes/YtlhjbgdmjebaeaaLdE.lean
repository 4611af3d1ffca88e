import Derived.Test.YtlhjbgdmjebaeaaLdD
import Derived.Deep.RegionLaw
/- The document's Use; how the laws begin. -/
namespace Go.Proofs.Ytlhjbgdmjebaeaa
open Go.RowKit

set_option maxRecDepth 100000
set_option maxHeartbeats 1000000
theorem rbUse_any {B : Nat} {w : World} {p : Nat} {v : Value} {L : List En} (h : LG B w p v L) (e t k : Int) : Calls Try.prog 16 #[.pointer (some ⟨p, 0, none⟩), .int .i64 e, .int .i64 t, .int .i64 k] w fun r w' => r = .returned (.int .i64 (Ld.use L e t k)) ∧ Below w.heap.size w w' := by
  have HE := hide (rbAt_any h e)
  have HP := hide (pick_any k)
  unfold Ld.use
  cases hh : Ld.has L e with
  | false =>
    rw [hh] at HE
    clear h
    go_enter Try.func16, Try.ntmps16
    go_wp2_with fail
    refine HE.out.mono ?_
    rintro e w1 ⟨rfl, hb⟩
    go_wp2
    go_ret
    exact ⟨rfl, hb.alloc hb.size _⟩
  | true =>
    rw [hh] at HE
    generalize Ld.at L e = y at *
    rw [if_pos rfl]
    unfold Ld.wh
    unfold Ld.pick at HP
    clear h hh
    by_cases h1 : y.h = -2
    · have d1 : (y.h == -2) = true := by rw [h1]; rfl
      rw [if_pos h1]
      clear h1
      by_cases k1 : k = 1
      · rw [if_pos k1] at HP ⊢
        clear k1
        go_enter Try.func16, Try.ntmps16
        go_wp2_with fail
        refine HE.out.mono ?_
        rintro e w1 ⟨rfl, hb⟩
        have HB := hide hb
        clear hb
        go_wp2_with fail
        refine (HP.out _).mono ?_
        rintro e w2 ⟨rfl, rfl⟩
        go_wp2
        go_ret
        exact ⟨rfl, (HB.out.alloc HB.out.size _).alloc (by simp; have := HB.out.size; omega) _⟩
      · rw [if_neg k1] at HP ⊢
        by_cases k2 : k = 2
        · rw [if_pos k2] at HP ⊢
          clear k1 k2
          go_enter Try.func16, Try.ntmps16
          go_wp2_with fail
          refine HE.out.mono ?_
          rintro e w1 ⟨rfl, hb⟩
          have HB := hide hb
          clear hb
          go_wp2_with fail
          refine (HP.out _).mono ?_
          rintro e w2 ⟨rfl, rfl⟩
          go_wp2
          go_ret
          exact ⟨rfl, (HB.out.alloc HB.out.size _).alloc (by simp; have := HB.out.size; omega) _⟩
        · rw [if_neg k2] at HP ⊢
          clear k1 k2
          go_enter Try.func16, Try.ntmps16
          go_wp2_with fail
          refine HE.out.mono ?_
          rintro e w1 ⟨rfl, hb⟩
          have HB := hide hb
          clear hb
          go_wp2_with fail
          refine (HP.out _).mono ?_
          rintro e w2 ⟨rfl, rfl⟩
          go_wp2
          go_ret
          exact ⟨rfl, (HB.out.alloc HB.out.size _).alloc (by simp; have := HB.out.size; omega) _⟩
    · have d1 : (y.h == -2) = false := beq_eq_false_iff_ne.2 h1
      rw [if_neg h1]
      clear h1
      by_cases h3 : y.h = t
      · have d3 : (y.h == t) = true := by rw [h3]; exact beq_self_eq_true _
        rw [if_pos h3]
        clear h3
        go_enter Try.func16, Try.ntmps16
        go_wp2_with fail
        refine HE.out.mono ?_
        rintro e w1 ⟨rfl, hb⟩
        go_wp2
        go_ret
        exact ⟨rfl, hb.alloc hb.size _⟩
      · have d3 : (y.h == t) = false := beq_eq_false_iff_ne.2 h3
        rw [if_neg h3]
        clear h3
        by_cases k1 : k = 1
        · rw [if_pos k1] at HP
          rw [if_neg (by omega)]
          clear k1
          go_enter Try.func16, Try.ntmps16
          go_wp2_with fail
          refine HE.out.mono ?_
          rintro e w1 ⟨rfl, hb⟩
          have HB := hide hb
          clear hb
          go_wp2_with fail
          refine (HP.out _).mono ?_
          rintro e w2 ⟨rfl, rfl⟩
          go_wp2
          go_ret
          exact ⟨rfl, (HB.out.alloc HB.out.size _).alloc (by simp; have := HB.out.size; omega) _⟩
        · rw [if_neg k1] at HP
          by_cases k2 : k = 2
          · rw [if_pos k2] at HP ⊢
            clear k1 k2
            go_enter Try.func16, Try.ntmps16
            go_wp2_with fail
            refine HE.out.mono ?_
            rintro e w1 ⟨rfl, hb⟩
            have HB := hide hb
            clear hb
            go_wp2_with fail
            refine (HP.out _).mono ?_
            rintro e w2 ⟨rfl, rfl⟩
            go_wp2
            go_ret
            exact ⟨rfl, (HB.out.alloc HB.out.size _).alloc (by simp; have := HB.out.size; omega) _⟩
          · rw [if_neg k2] at HP ⊢
            clear k1 k2
            go_enter Try.func16, Try.ntmps16
            go_wp2_with fail
            refine HE.out.mono ?_
            rintro e w1 ⟨rfl, hb⟩
            have HB := hide hb
            clear hb
            go_wp2_with fail
            refine (HP.out _).mono ?_
            rintro e w2 ⟨rfl, rfl⟩
            go_wp2
            go_ret
            exact ⟨rfl, (HB.out.alloc HB.out.size _).alloc (by simp; have := HB.out.size; omega) _⟩
theorem step_call_w {P : Program} {ops : Array Oper} {o : Oper} {a : Act} {w : World} {K : Act → World → Prop} {Q : Exit → Act → World → Prop} {E : Prop} (hw : Region.wanted o (yielded ops a.tmps) = true) (f : FuncId) (args : Array Value) (hrun : (execOp a.eval o).run P w = .ok (.enter f args) w)
    {R : Value → World → Prop} (hC : Calls P f args w fun e w' => ∃ v, e = .returned v ∧ R v w') (hK : ∀ v w', R v w' → K (a.put o.dst v) w') : if Region.wanted o (yielded ops a.tmps) = true then Oper.wp P o a w K Q else E := by
  rw [if_pos hw]
  unfold Oper.wp
  rw [hrun]
  show Calls P f args w _
  refine hC.mono ?_
  rintro e w' ⟨v, rfl, hr⟩
  exact hK v w' hr
end Go.Proofs.Ytlhjbgdmjebaeaa
