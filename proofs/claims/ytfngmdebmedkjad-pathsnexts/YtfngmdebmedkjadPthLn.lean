import Derived.Test.YtfngmdebmedkjadPthY
import Derived.Test.YtfngmdebmedkjadPthG
import Derived.Test.YtfngmdebmedkjadPthT
import Derived.Test.YtfngmdebmedkjadPthV
import Derived.Deep.RegionHeld3
/- The law PathsNexts: it answers true. -/
namespace Go.Proofs.Ytfngmdebmedkjad
open Go.RowKit

/-- A call that tells a row. -/
def RowC (f : FuncId) (args : Array Value) (w2 : World) (l : List Int) : Prop := ∀ w', Below w2.heap.size w2 w' → Calls Try.prog f args w' fun e w'' => ∃ v, e = .returned v ∧ IR w'' v l ∧ Below w'.heap.size w' w''
/-- What is reached. -/
noncomputable def rch (p : Pa.Pr) : List Nat := by
  classical exact (List.range p.length).filter fun (v : Nat) => decide (∃ l, Pa.Way (nxp p) 0 v l)
theorem rch_len (p : Pa.Pr) : (rch p).length ≤ p.length := by
  classical
  have := List.length_filter_le (fun (v : Nat) => decide (∃ l, Pa.Way (nxp p) 0 v l)) (List.range p.length)
  unfold rch
  simpa using this
theorem rcs_rch {p : Pa.Pr} {ah : List Int} (h : SPR p 0 ah) : rcs ah p.length = rch p := by
  classical
  unfold rcs rch
  apply List.filter_congr
  intro v hv
  have hvn : v < p.length := by simpa using hv
  obtain ⟨ln, g, hi⟩ := h.2.2 0 rfl (by omega)
  rw [Bool.eq_iff_iff]
  constructor
  · intro hb
    have hb' : ah[v]? ≠ some (-1) := by simpa using hb
    obtain ⟨j, hj⟩ := List.getElem?_of_mem ((hi.mem v hvn).2 hb')
    simpa using ⟨_, hi.way j v hj⟩
  · intro hb
    obtain ⟨l, hl⟩ : ∃ l, Pa.Way (nxp p) 0 v l := by simpa using hb
    have := (hi.mem v hvn).1 (hi.best hl).1
    simpa using this
theorem mks_rch {p : Pa.Pr} {B : List Bool} (hr : Pa.Rc (nxp p) p.length B) (hs : Pa.ShutB (nxp p) B) : mks B p.length = rch p := by
  classical
  unfold mks rch
  apply List.filter_congr
  intro v hv
  have hvn : v < p.length := by simpa using hv
  rw [Bool.eq_iff_iff]
  constructor
  · intro hb
    have hb' : B[v]? = some true := by simpa using hb
    simpa using hr.sound v hb'
  · intro hb
    obtain ⟨l, hl⟩ : ∃ l, Pa.Way (nxp p) 0 v l := by simpa using hb
    have := hr.all hs (by omega) hl
    simpa using this

set_option maxRecDepth 100000 in
set_option maxHeartbeats 8000000 in
theorem nexts_law (c : Cp) (i : Int) (vw : Value) (l : List Int) (w : World) (h : GM c w) (hl : IR w vw l) (hln : l.length ≤ 9223372036854775807) :
    Calls Try.prog 3 #[c.v, .int .i64 i, vw] w fun e w' => e = .returned (.bool true) ∧ Below w.heap.size w w' := by
  have HM := hide h
  have HI := hide hl
  have HG := hide (fun w' (hb : Below w.heap.size w w') => great_any c w' (h.keep hb))
  rw [show c.v = .agg #[c.nm, c.vs, c.pr, c.bl, .slice c.a c.p.length c.c] from rfl] at HG
  obtain ⟨aw, cw, rfl, -⟩ := hl
  clear h
  have HB0 : Hid (Below w.heap.size w (w.alloc (.cells #[c.nm, c.vs, c.pr, c.bl, .slice c.a c.p.length c.c] 26))) := hide ((Below.refl _ _).alloc (Nat.le_refl _) _)
  have y0 : (w.alloc (.cells #[c.nm, c.vs, c.pr, c.bl, .slice c.a c.p.length c.c] 26)).cell? ⟨w.heap.size, 0, none⟩ = some c.nm := by simp [go_sem]
  have y1 : (w.alloc (.cells #[c.nm, c.vs, c.pr, c.bl, .slice c.a c.p.length c.c] 26)).cell? ⟨w.heap.size, 1, none⟩ = some c.vs := by simp [go_sem]
  have y2 : (w.alloc (.cells #[c.nm, c.vs, c.pr, c.bl, .slice c.a c.p.length c.c] 26)).cell? ⟨w.heap.size, 2, none⟩ = some c.pr := by simp [go_sem]
  have y3 : (w.alloc (.cells #[c.nm, c.vs, c.pr, c.bl, .slice c.a c.p.length c.c] 26)).cell? ⟨w.heap.size, 3, none⟩ = some c.bl := by simp [go_sem]
  have y4 : (w.alloc (.cells #[c.nm, c.vs, c.pr, c.bl, .slice c.a c.p.length c.c] 26)).cell? ⟨w.heap.size, 4, none⟩ = some (.slice c.a c.p.length c.c) := by simp [go_sem]
  have hv : c.v = .agg #[c.nm, c.vs, c.pr, c.bl, .slice c.a c.p.length c.c] := rfl
  rw [hv]
  have HV := hide hv
  clear hv
  by_cases hbig : 1000 < l.length
  · have dw : decide ((1000 : Int) < (l.length : Int)) = true := by simp; omega
    go_enter Try.func3, Try.ntmps3
    go_wp2_with fail
    refine (begun_any _).mono ?_
    rintro e w1 ⟨rfl, hb1⟩
    have K1 := hide (btrans HB0.out hb1)
    have z0 := bsome hb1 y0
    have z1 := bsome hb1 y1
    have z2 := bsome hb1 y2
    have z3 := bsome hb1 y3
    have z4 := bsome hb1 y4
    clear hb1 HB0 y0 y1 y2 y3 y4
    go_wp2_with fail
    refine (HG.out _ K1.out).mono ?_
    rintro e w2 ⟨q, rfl, -, hb2⟩
    have K2 := hide (btrans K1.out hb2)
    cases q with
    | true =>
      go_wp2
      go_ret
      exact ⟨rfl, K2.out⟩
    | false =>
      go_wp2
      go_ret
      exact ⟨rfl, K2.out⟩
  have dw : decide ((1000 : Int) < (l.length : Int)) = false := by simp; omega
  go_enter Try.func3, Try.ntmps3
  go_wp2_with fail
  refine (begun_any _).mono ?_
  rintro e w1 ⟨rfl, hb1⟩
  have K1 := hide (btrans HB0.out hb1)
  have z0 := bsome hb1 y0
  have z1 := bsome hb1 y1
  have z2 := bsome hb1 y2
  have z3 := bsome hb1 y3
  have z4 := bsome hb1 y4
  clear hb1 HB0 y0 y1 y2 y3 y4
  go_wp2_with fail
  refine (HG.out _ K1.out).mono ?_
  rintro e w2 ⟨q, rfl, hq, hb2⟩
  have K2 := hide (btrans K1.out hb2)
  have x0 := bsome hb2 z0
  have x1 := bsome hb2 z1
  have x2 := bsome hb2 z2
  have x3 := bsome hb2 z3
  have x4 := bsome hb2 z4
  clear hb2 z0 z1 z2 z3 z4
  cases q with
  | true =>
    go_wp2
    go_ret
    exact ⟨rfl, K2.out⟩
  | false =>
    have hf := hq rfl
    have PMx : Hid (∀ w', Below w2.heap.size w2 w' → PM c w') := hide (fun w' hb => (HM.out.keep (btrans K2.out hb)).pm hf)
    have CN : Hid (RowC 7 #[.agg #[c.nm, c.vs, c.pr, c.bl, .slice c.a c.p.length c.c], .int .i64 i] w2 (up (Pa.on c.p i))) := hide (fun w' hb => by
      rw [← HV.out]
      exact (next_any c i w' (PMx.out w' hb)).mono fun e w'' ⟨v, h1, h2, h3⟩ => ⟨v, h1, own_ir (by rw [up_len]; exact h2), h3⟩)
    have CM : Hid (RowC 8 #[.agg #[c.nm, c.vs, c.pr, c.bl, .slice c.a c.p.length c.c], .int .i64 i] w2 (up (Pa.on c.p i))) := hide (fun w' hb => by
      rw [← HV.out]
      exact (rnexts_any c i w' (PMx.out w' hb)).mono fun e w'' ⟨v, h1, h2, h3⟩ => ⟨v, h1, own_ir (by rw [up_len]; exact h2), h3⟩)
    have hrl := rch_len c.p
    have CR : Hid (RowC 9 #[.agg #[c.nm, c.vs, c.pr, c.bl, .slice c.a c.p.length c.c]] w2 (up (rch c.p))) := hide (fun w' hb => by
      rw [← HV.out]
      exact (reach_any c w' (PMx.out w' hb)).mono fun e w'' ⟨v, ah, h1, h2, h3, h4⟩ => ⟨v, h1, by rw [← rcs_rch h3]; exact h2, h4⟩)
    have CT : Hid (RowC 10 #[.agg #[c.nm, c.vs, c.pr, c.bl, .slice c.a c.p.length c.c]] w2 (up (rch c.p))) := hide (fun w' hb => by
      rw [← HV.out]
      exact (reached_any c w' (PMx.out w' hb)).mono fun e w'' ⟨v, B, h1, h2, h3, h4, h5⟩ => ⟨v, h1, by rw [← mks_rch h3 h4]; exact h2, h5⟩)
    obtain ⟨b, hbW⟩ : ∃ b : Bool, b = true ↔ isW c.p l := by
      classical exact ⟨decide (isW c.p l), by simp⟩
    have CI : Hid (∀ w', Below w2.heap.size w2 w' → Calls Try.prog 11 #[.agg #[c.nm, c.vs, c.pr, c.bl, .slice c.a c.p.length c.c], .slice aw l.length cw] w' fun e w'' => e = .returned (.bool b) ∧ Below w'.heap.size w' w'') := hide (fun w' hb => by
      rw [← HV.out]
      refine (is_any c (.slice aw l.length cw) l w' (PMx.out w' hb) (HI.out.keep (btrans K2.out hb)) (by omega)).mono fun e w'' ⟨q, h1, h2, h3⟩ => ⟨?_, h3⟩
      rw [h1, show q = b from Bool.eq_iff_iff.2 (h2.trans hbW.symm)])
    have CJ : Hid (∀ w', Below w2.heap.size w2 w' → Calls Try.prog 12 #[.agg #[c.nm, c.vs, c.pr, c.bl, .slice c.a c.p.length c.c], .slice aw l.length cw] w' fun e w'' => e = .returned (.bool b) ∧ Below w'.heap.size w' w'') := hide (fun w' hb => by
      rw [← HV.out]
      refine (isWay_any c (.slice aw l.length cw) l w' (PMx.out w' hb) (HI.out.keep (btrans K2.out hb)) (by omega)).mono fun e w'' ⟨q, h1, h2, h3⟩ => ⟨?_, h3⟩
      rw [h1, show q = b from Bool.eq_iff_iff.2 (h2.trans hbW.symm)])
    unfold RowC at CN CM CR CT
    have kc : Below w2.heap.size w2 w2 := Below.refl _ _
    generalize rch c.p = lR at *
    clear HG hq K1 HM HI PMx HV hbW
    go_wp2
    go_region_held3 (fun w' => w'.cell? ⟨w.heap.size, 0, none⟩ = some c.nm ∧ w'.cell? ⟨w.heap.size, 1, none⟩ = some c.vs ∧ w'.cell? ⟨w.heap.size, 2, none⟩ = some c.pr ∧ w'.cell? ⟨w.heap.size, 3, none⟩ = some c.bl ∧ w'.cell? ⟨w.heap.size, 4, none⟩ = some (.slice c.a c.p.length c.c)) ((first | exact ⟨by assumption, by assumption, by assumption, by assumption, by assumption⟩ | go_keep))
      ((first
        | (go_at_call 7; refine (CN.out _ (by first | exact kc | exact ⟨kc.os, kc.tape, kc.output, kc.size, kc.block⟩)).mono ?_; rintro e wn ⟨vN, rfl, hi, hb⟩; have kn : Below w2.heap.size w2 wn := (by first | exact btrans kc hb | exact btrans kc ⟨hb.os, hb.tape, hb.output, hb.size, hb.block⟩); (try (have q1 := hide (LM.out.keep hb); clear LM; have LM := q1; clear q1)); (try (have q1 := hide (LR.out.keep hb); clear LR; have LR := q1; clear q1)); (try (have q1 := hide (LT.out.keep hb); clear LT; have LT := q1; clear q1)); have LN := hide hi; clear hi; clear hb kc; have kc := kn; clear kn; (try clear s0 s1 s2 s3 s4); have s0 := bsome kc x0; have s1 := bsome kc x1; have s2 := bsome kc x2; have s3 := bsome kc x3; have s4 := bsome kc x4)
        | (go_at_call 8; refine (CM.out _ (by first | exact kc | exact ⟨kc.os, kc.tape, kc.output, kc.size, kc.block⟩)).mono ?_; rintro e wn ⟨vM, rfl, hi, hb⟩; have kn : Below w2.heap.size w2 wn := (by first | exact btrans kc hb | exact btrans kc ⟨hb.os, hb.tape, hb.output, hb.size, hb.block⟩); (try (have q1 := hide (LN.out.keep hb); clear LN; have LN := q1; clear q1)); (try (have q1 := hide (LR.out.keep hb); clear LR; have LR := q1; clear q1)); (try (have q1 := hide (LT.out.keep hb); clear LT; have LT := q1; clear q1)); have LM := hide hi; clear hi; clear hb kc; have kc := kn; clear kn; (try clear s0 s1 s2 s3 s4); have s0 := bsome kc x0; have s1 := bsome kc x1; have s2 := bsome kc x2; have s3 := bsome kc x3; have s4 := bsome kc x4)
        | (go_at_call 9; refine (CR.out _ (by first | exact kc | exact ⟨kc.os, kc.tape, kc.output, kc.size, kc.block⟩)).mono ?_; rintro e wn ⟨vR, rfl, hi, hb⟩; have kn : Below w2.heap.size w2 wn := (by first | exact btrans kc hb | exact btrans kc ⟨hb.os, hb.tape, hb.output, hb.size, hb.block⟩); (try (have q1 := hide (LN.out.keep hb); clear LN; have LN := q1; clear q1)); (try (have q1 := hide (LM.out.keep hb); clear LM; have LM := q1; clear q1)); (try (have q1 := hide (LT.out.keep hb); clear LT; have LT := q1; clear q1)); have LR := hide hi; clear hi; clear hb kc; have kc := kn; clear kn; (try clear s0 s1 s2 s3 s4); have s0 := bsome kc x0; have s1 := bsome kc x1; have s2 := bsome kc x2; have s3 := bsome kc x3; have s4 := bsome kc x4)
        | (go_at_call 10; refine (CT.out _ (by first | exact kc | exact ⟨kc.os, kc.tape, kc.output, kc.size, kc.block⟩)).mono ?_; rintro e wn ⟨vT, rfl, hi, hb⟩; have kn : Below w2.heap.size w2 wn := (by first | exact btrans kc hb | exact btrans kc ⟨hb.os, hb.tape, hb.output, hb.size, hb.block⟩); (try (have q1 := hide (LN.out.keep hb); clear LN; have LN := q1; clear q1)); (try (have q1 := hide (LM.out.keep hb); clear LM; have LM := q1; clear q1)); (try (have q1 := hide (LR.out.keep hb); clear LR; have LR := q1; clear q1)); have LT := hide hi; clear hi; clear hb kc; have kc := kn; clear kn; (try clear s0 s1 s2 s3 s4); have s0 := bsome kc x0; have s1 := bsome kc x1; have s2 := bsome kc x2; have s3 := bsome kc x3; have s4 := bsome kc x4)
        | (go_at_call 6; have q0 := LR; clear q0; refine (same_any (up lR) _ _ _ (by rw [up_len]; omega) LR.out LT.out).mono ?_; rintro e wn ⟨rfl, hb⟩; have kn : Below w2.heap.size w2 wn := (by first | exact btrans kc hb | exact btrans kc ⟨hb.os, hb.tape, hb.output, hb.size, hb.block⟩); clear LR LT; (try (have q1 := hide (LN.out.keep hb); clear LN; have LN := q1; clear q1)); (try (have q1 := hide (LM.out.keep hb); clear LM; have LM := q1; clear q1)); clear hb kc; have kc := kn; clear kn; (try clear s0 s1 s2 s3 s4); have s0 := bsome kc x0; have s1 := bsome kc x1; have s2 := bsome kc x2; have s3 := bsome kc x3; have s4 := bsome kc x4)
        | (go_at_call 6; have q0 := LN; clear q0; refine (same_any (up (Pa.on c.p i)) _ _ _ (by rw [up_len]; have := Pa.on_len c.p i; omega) LN.out LM.out).mono ?_; rintro e wn ⟨rfl, hb⟩; have kn : Below w2.heap.size w2 wn := (by first | exact btrans kc hb | exact btrans kc ⟨hb.os, hb.tape, hb.output, hb.size, hb.block⟩); clear LN LM; (try (have q1 := hide (LR.out.keep hb); clear LR; have LR := q1; clear q1)); (try (have q1 := hide (LT.out.keep hb); clear LT; have LT := q1; clear q1)); clear hb kc; have kc := kn; clear kn; (try clear s0 s1 s2 s3 s4); have s0 := bsome kc x0; have s1 := bsome kc x1; have s2 := bsome kc x2; have s3 := bsome kc x3; have s4 := bsome kc x4)
        | (go_at_call 11; refine (CI.out _ (by first | exact kc | exact ⟨kc.os, kc.tape, kc.output, kc.size, kc.block⟩)).mono ?_; rintro e wn ⟨rfl, hb⟩; have kn : Below w2.heap.size w2 wn := (by first | exact btrans kc hb | exact btrans kc ⟨hb.os, hb.tape, hb.output, hb.size, hb.block⟩); (try (have q1 := hide (LN.out.keep hb); clear LN; have LN := q1; clear q1)); (try (have q1 := hide (LM.out.keep hb); clear LM; have LM := q1; clear q1)); (try (have q1 := hide (LR.out.keep hb); clear LR; have LR := q1; clear q1)); (try (have q1 := hide (LT.out.keep hb); clear LT; have LT := q1; clear q1)); clear hb kc; have kc := kn; clear kn; (try clear s0 s1 s2 s3 s4); have s0 := bsome kc x0; have s1 := bsome kc x1; have s2 := bsome kc x2; have s3 := bsome kc x3; have s4 := bsome kc x4)
        | (go_at_call 12; refine (CJ.out _ (by first | exact kc | exact ⟨kc.os, kc.tape, kc.output, kc.size, kc.block⟩)).mono ?_; rintro e wn ⟨rfl, hb⟩; have kn : Below w2.heap.size w2 wn := (by first | exact btrans kc hb | exact btrans kc ⟨hb.os, hb.tape, hb.output, hb.size, hb.block⟩); (try (have q1 := hide (LN.out.keep hb); clear LN; have LN := q1; clear q1)); (try (have q1 := hide (LM.out.keep hb); clear LM; have LM := q1; clear q1)); (try (have q1 := hide (LR.out.keep hb); clear LR; have LR := q1; clear q1)); (try (have q1 := hide (LT.out.keep hb); clear LT; have LT := q1; clear q1)); clear hb kc; have kc := kn; clear kn; (try clear s0 s1 s2 s3 s4); have s0 := bsome kc x0; have s1 := bsome kc x1; have s2 := bsome kc x2; have s3 := bsome kc x3; have s4 := bsome kc x4)))
    all_goals
      go_wp2
      go_ret
      exact ⟨by simp, btrans K2.out kc⟩
end Go.Proofs.Ytfngmdebmedkjad
