import Derived.Test.YtdnlnpdaplonfabDoorRkA
import Derived.Test.YtdnlnpdaplonfabDoorRkB
/- The document's own Scan: a round at = or ==, at letters, at digits. -/
namespace Go.Proofs.YtdnlnpdaplonfabDoor
open Go.RowKit

set_option maxRecDepth 100000 in
set_option maxHeartbeats 4000000 in
theorem r_sign61a (s : ByteArray) (w wr : World) (u : Nat → Value) (acc : List Tk.Tok) (p f' : Nat) (Q0 : Exit → Act → World → Prop) (hs : s.size ≤ 12000) (hz : w.heap.size + 1 ≤ wr.heap.size) (hap : acc.length ≤ p) (hlt : p < s.size) (hu5 : u 5 = .int .i64 p) (X : ByteArray) (h : (s[p].toNat : Int) = 61) (h2 : p + 1 < s.size) (hne : ((s[p + 1].toNat : Int) == 61) = false) (hL : Tk.isL s[p] = false) (hD : Tk.isD s[p] = false) (hX2 : s.extract p (p + 1) = X) (HXb : Hid (bs ((s.data.toList.drop p).take 1) = X))
    (HO : Hid (wr.ownsRow (w.heap.size + 1) 29 4 (u 4) acc.length (tcells acc))) (HB : Hid (Below (w.heap.size + 1) (w.alloc (Obj.cells #[Value.int IntKind.i64 0, Value.int IntKind.i64 0] 25)) wr))
    (HF' : Hid (s.size - nx s.data.toList (p + 1) < f')) (HR' : Hid (Tk.scan s.data.toList = Tk.comb (acc ++ [(⟨4, p, (s.data.toList.drop p).take 1, 0⟩ : Tk.Tok)]) (Tk.tl f' (nx s.data.toList (p + 1)) (s.data.toList.drop (nx s.data.toList (p + 1)))))) :
    Code.wp Tryd.prog rbody (Exit.then (fun a' w'' => WI s w a' w'' ∧ Wmu s a' w'' < Wmu s (frame s w.heap.size u) wr) Q0) (frame s w.heap.size u) wr := by
  obtain ⟨i0, hi, hz0, hz1, hz2⟩ := info_parts Tryd.infoTok
  have HSM2 := fun w => small_any s[p] w
  have HDG2 := fun w => digit_any s[p] w
  simp only [h, hL] at HSM2
  simp only [h, hD] at HDG2
  have HSM3 := hide HSM2
  have HDG3 := hide HDG2
  clear HSM2 HDG2 hL hD
  conv => arg 2; whnf
  unfold frame
  go_wp2_with (first | (go_at_call 40; refine (HSM3.out _).mono ?_; rintro e w5 ⟨rfl, hw⟩; subst w5) | (go_at_call 43; refine (HDG3.out _).mono ?_; rintro e w5 ⟨rfl, hw⟩; subst w5) | (at_builtin; (refine wpList_append_own _ rfl _ _ 23 rfl (w.heap.size + 1) 29 i0 (.agg #[.int .i64 0, .int .i64 0, .string ⟨#[]⟩, .int .i64 0]) 4 40 Tryd.underlying23 hi hz0 hz1 hz2 rfl (by decide) _ _ _ rfl (by exact HO.out.alloc _) ⟨wr.heap.size, 0, none⟩ 1 1 [.int .i64 4, .int .i64 p, .string X, .int .i64 0] rfl rfl ?c1 ?c2 ?c3 ?c4 ?c5 ?_)))
  case c1 => exact cells_four_new _ _ (by simp) _ _ _ _ _
  case c2 => intro u hu; simp at hu; rcases hu with rfl | rfl | rfl | rfl <;> rfl
  case c3 => unfold maxLen; omega
  case c4 => omega
  case c5 => simp; omega
  · intro v' w3 hown' hgrow _
    obtain ⟨HO3, HB3⟩ := app_step (⟨4, p, (s.data.toList.drop p).take 1, 0⟩ : Tk.Tok) HO.out HB.out (by omega) (by rw [HXb.out]; exact hown') hgrow
    clear hown' hgrow
    go_wp2
    refine ⟨wi_mk _ _ _ _ rfl ⟨acc ++ [(⟨4, p, (s.data.toList.drop p).take 1, 0⟩ : Tk.Tok)], p + 1, f', by simp; omega, by omega, by show _ = _; go_num, HF', HR', HO3, HB3⟩, ?_⟩
    simp [Wmu, intOf, hu5]
    omega

set_option maxRecDepth 100000 in
set_option maxHeartbeats 4000000 in
theorem r_sign61b (s : ByteArray) (w wr : World) (u : Nat → Value) (acc : List Tk.Tok) (p f' : Nat) (Q0 : Exit → Act → World → Prop) (hs : s.size ≤ 12000) (hz : w.heap.size + 1 ≤ wr.heap.size) (hap : acc.length ≤ p) (hlt : p < s.size) (hu5 : u 5 = .int .i64 p) (X : ByteArray) (h : (s[p].toNat : Int) = 61) (hd2 : decide ((p : Int) + 1 < (s.size : Int)) = false) (hL : Tk.isL s[p] = false) (hD : Tk.isD s[p] = false) (hX2 : s.extract p (p + 1) = X) (HXb : Hid (bs ((s.data.toList.drop p).take 1) = X))
    (HO : Hid (wr.ownsRow (w.heap.size + 1) 29 4 (u 4) acc.length (tcells acc))) (HB : Hid (Below (w.heap.size + 1) (w.alloc (Obj.cells #[Value.int IntKind.i64 0, Value.int IntKind.i64 0] 25)) wr))
    (HF' : Hid (s.size - nx s.data.toList (p + 1) < f')) (HR' : Hid (Tk.scan s.data.toList = Tk.comb (acc ++ [(⟨4, p, (s.data.toList.drop p).take 1, 0⟩ : Tk.Tok)]) (Tk.tl f' (nx s.data.toList (p + 1)) (s.data.toList.drop (nx s.data.toList (p + 1)))))) :
    Code.wp Tryd.prog rbody (Exit.then (fun a' w'' => WI s w a' w'' ∧ Wmu s a' w'' < Wmu s (frame s w.heap.size u) wr) Q0) (frame s w.heap.size u) wr := by
  obtain ⟨i0, hi, hz0, hz1, hz2⟩ := info_parts Tryd.infoTok
  have HSM2 := fun w => small_any s[p] w
  have HDG2 := fun w => digit_any s[p] w
  simp only [h, hL] at HSM2
  simp only [h, hD] at HDG2
  have HSM3 := hide HSM2
  have HDG3 := hide HDG2
  clear HSM2 HDG2 hL hD
  conv => arg 2; whnf
  unfold frame
  go_wp2_with (first | (go_at_call 40; refine (HSM3.out _).mono ?_; rintro e w5 ⟨rfl, hw⟩; subst w5) | (go_at_call 43; refine (HDG3.out _).mono ?_; rintro e w5 ⟨rfl, hw⟩; subst w5) | (at_builtin; (refine wpList_append_own _ rfl _ _ 23 rfl (w.heap.size + 1) 29 i0 (.agg #[.int .i64 0, .int .i64 0, .string ⟨#[]⟩, .int .i64 0]) 4 40 Tryd.underlying23 hi hz0 hz1 hz2 rfl (by decide) _ _ _ rfl (by exact HO.out.alloc _) ⟨wr.heap.size, 0, none⟩ 1 1 [.int .i64 4, .int .i64 p, .string X, .int .i64 0] rfl rfl ?c1 ?c2 ?c3 ?c4 ?c5 ?_)))
  case c1 => exact cells_four_new _ _ (by simp) _ _ _ _ _
  case c2 => intro u hu; simp at hu; rcases hu with rfl | rfl | rfl | rfl <;> rfl
  case c3 => unfold maxLen; omega
  case c4 => omega
  case c5 => simp; omega
  · intro v' w3 hown' hgrow _
    obtain ⟨HO3, HB3⟩ := app_step (⟨4, p, (s.data.toList.drop p).take 1, 0⟩ : Tk.Tok) HO.out HB.out (by omega) (by rw [HXb.out]; exact hown') hgrow
    clear hown' hgrow
    go_wp2
    refine ⟨wi_mk _ _ _ _ rfl ⟨acc ++ [(⟨4, p, (s.data.toList.drop p).take 1, 0⟩ : Tk.Tok)], p + 1, f', by simp; omega, by omega, by show _ = _; go_num, HF', HR', HO3, HB3⟩, ?_⟩
    simp [Wmu, intOf, hu5]
    omega

set_option maxRecDepth 100000 in
set_option maxHeartbeats 4000000 in
theorem r_eqeq (s : ByteArray) (w wr : World) (u : Nat → Value) (acc : List Tk.Tok) (p f' : Nat) (Q0 : Exit → Act → World → Prop) (hs : s.size ≤ 12000) (hz : w.heap.size + 1 ≤ wr.heap.size) (hap : acc.length ≤ p) (hlt : p < s.size) (hu5 : u 5 = .int .i64 p) (h : (s[p].toNat : Int) = 61) (h2 : p + 1 < s.size) (h61' : (s[p + 1].toNat : Int) = 61) (hL : Tk.isL s[p] = false) (hD : Tk.isD s[p] = false) (HXb : Hid (bs ((s.data.toList.drop p).take 2) = ⟨#[61, 61]⟩))
    (HO : Hid (wr.ownsRow (w.heap.size + 1) 29 4 (u 4) acc.length (tcells acc))) (HB : Hid (Below (w.heap.size + 1) (w.alloc (Obj.cells #[Value.int IntKind.i64 0, Value.int IntKind.i64 0] 25)) wr))
    (HF' : Hid (s.size - nx s.data.toList (p + 2) < f')) (HR' : Hid (Tk.scan s.data.toList = Tk.comb (acc ++ [(⟨4, p, (s.data.toList.drop p).take 2, 0⟩ : Tk.Tok)]) (Tk.tl f' (nx s.data.toList (p + 2)) (s.data.toList.drop (nx s.data.toList (p + 2)))))) :
    Code.wp Tryd.prog rbody (Exit.then (fun a' w'' => WI s w a' w'' ∧ Wmu s a' w'' < Wmu s (frame s w.heap.size u) wr) Q0) (frame s w.heap.size u) wr := by
  obtain ⟨i0, hi, hz0, hz1, hz2⟩ := info_parts Tryd.infoTok
  have HSM2 := fun w => small_any s[p] w
  have HDG2 := fun w => digit_any s[p] w
  simp only [h, hL] at HSM2
  simp only [h, hD] at HDG2
  have HSM3 := hide HSM2
  have HDG3 := hide HDG2
  clear HSM2 HDG2 hL hD
  conv => arg 2; whnf
  unfold frame
  go_wp2_with (first | (go_at_call 40; refine (HSM3.out _).mono ?_; rintro e w5 ⟨rfl, hw⟩; subst w5) | (go_at_call 43; refine (HDG3.out _).mono ?_; rintro e w5 ⟨rfl, hw⟩; subst w5) | (at_builtin; (refine wpList_append_own _ rfl _ _ 23 rfl (w.heap.size + 1) 29 i0 (.agg #[.int .i64 0, .int .i64 0, .string ⟨#[]⟩, .int .i64 0]) 4 40 Tryd.underlying23 hi hz0 hz1 hz2 rfl (by decide) _ _ _ rfl (by exact HO.out.alloc _) ⟨wr.heap.size, 0, none⟩ 1 1 [.int .i64 4, .int .i64 p, .string ⟨#[61, 61]⟩, .int .i64 0] rfl rfl ?c1 ?c2 ?c3 ?c4 ?c5 ?_)))
  case c1 => exact cells_four_new _ _ (by simp) _ _ _ _ _
  case c2 => intro u hu; simp at hu; rcases hu with rfl | rfl | rfl | rfl <;> rfl
  case c3 => unfold maxLen; omega
  case c4 => omega
  case c5 => simp; omega
  · intro v' w3 hown' hgrow _
    obtain ⟨HO3, HB3⟩ := app_step (⟨4, p, (s.data.toList.drop p).take 2, 0⟩ : Tk.Tok) HO.out HB.out (by omega) (by rw [HXb.out]; exact hown') hgrow
    clear hown' hgrow
    go_wp2
    refine ⟨wi_mk _ _ _ _ rfl ⟨acc ++ [(⟨4, p, (s.data.toList.drop p).take 2, 0⟩ : Tk.Tok)], p + 2, f', by simp; omega, by omega, by show _ = _; go_num, HF', HR', HO3, HB3⟩, ?_⟩
    simp [Wmu, intOf, hu5]
    omega

set_option maxRecDepth 100000 in
set_option maxHeartbeats 4000000 in
theorem r_word (s : ByteArray) (w wr : World) (u : Nat → Value) (acc : List Tk.Tok) (p f' : Nat) (Q0 : Exit → Act → World → Prop) (hs : s.size ≤ 12000) (hz : w.heap.size + 1 ≤ wr.heap.size) (hap : acc.length ≤ p) (hlt : p < s.size) (hu5 : u 5 = .int .i64 p) (X : ByteArray) (q32 : ((s[p].toNat : Int) == 32) = false) (q9 : ((s[p].toNat : Int) == 9) = false) (q10 : ((s[p].toNat : Int) == 10) = false) (q13 : ((s[p].toNat : Int) == 13) = false) (q35 : ((s[p].toNat : Int) == 35) = false) (hL : Tk.isL s[p] = true) (r : Nat) (hr0 : 0 < r) (hpr : p + r ≤ s.size) (HLO : Hid (∀ w, Calls Tryd.prog 41 #[.string s, .int .i64 p] w fun e w' => e = .returned (.int .i64 ((p + r : Nat) : Int)) ∧ w' = w)) (hX2 : s.extract p (p + r) = X) (HIW : Hid (∀ w, Calls Tryd.prog 42 #[.string X] w fun e w' => e = .returned (.bool true) ∧ Below w.heap.size w w')) (HXb : Hid (bs ((s.data.toList.drop p).take r) = X))
    (HO : Hid (wr.ownsRow (w.heap.size + 1) 29 4 (u 4) acc.length (tcells acc))) (HB : Hid (Below (w.heap.size + 1) (w.alloc (Obj.cells #[Value.int IntKind.i64 0, Value.int IntKind.i64 0] 25)) wr))
    (HF' : Hid (s.size - nx s.data.toList (p + r) < f')) (HR' : Hid (Tk.scan s.data.toList = Tk.comb (acc ++ [(⟨1, p, (s.data.toList.drop p).take r, 0⟩ : Tk.Tok)]) (Tk.tl f' (nx s.data.toList (p + r)) (s.data.toList.drop (nx s.data.toList (p + r)))))) :
    Code.wp Tryd.prog rbody (Exit.then (fun a' w'' => WI s w a' w'' ∧ Wmu s a' w'' < Wmu s (frame s w.heap.size u) wr) Q0) (frame s w.heap.size u) wr := by
  obtain ⟨i0, hi, hz0, hz1, hz2⟩ := info_parts Tryd.infoTok
  have HSM := hide (fun w => small_any s[p] w)
  conv => arg 2; whnf
  unfold frame
  go_wp2_with fail
  refine (HSM.out _).mono ?_
  rintro e w5 ⟨rfl, hw⟩
  subst w5
  go_wp2_with fail
  refine (HLO.out _).mono ?_
  rintro e w6 ⟨rfl, hw⟩
  subst w6
  go_wp2_with fail
  refine (HIW.out _).mono ?_
  rintro e w7 ⟨rfl, hb7⟩
  have hz7 := hb7.size
  have HO2 := hide (own_below HO.out hb7)
  have HB2 := hide (HB.out.trans (hb7.mono (by omega)))
  clear hb7
  go_wp2_with ((at_builtin; (refine wpList_append_own _ rfl _ _ 23 rfl (w.heap.size + 1) 29 i0 (.agg #[.int .i64 0, .int .i64 0, .string ⟨#[]⟩, .int .i64 0]) 4 40 Tryd.underlying23 hi hz0 hz1 hz2 rfl (by decide) _ _ _ rfl (by exact HO2.out.alloc _) ⟨w7.heap.size, 0, none⟩ 1 1 [.int .i64 1, .int .i64 p, .string X, .int .i64 0] rfl rfl ?c1 ?c2 ?c3 ?c4 ?c5 ?_)))
  case c1 => exact cells_four_new _ _ (by simp) _ _ _ _ _
  case c2 => intro u hu; simp at hu; rcases hu with rfl | rfl | rfl | rfl <;> rfl
  case c3 => unfold maxLen; omega
  case c4 => omega
  case c5 => simp; omega
  · intro v' w3 hown' hgrow _
    obtain ⟨HO3, HB3⟩ := app_step (⟨1, p, (s.data.toList.drop p).take r, 0⟩ : Tk.Tok) HO2.out HB2.out (by omega) (by rw [HXb.out]; exact hown') hgrow
    clear hown' hgrow
    go_wp2
    refine ⟨wi_mk _ _ _ _ rfl ⟨acc ++ [(⟨1, p, (s.data.toList.drop p).take r, 0⟩ : Tk.Tok)], p + r, f', by simp; omega, by omega, by show _ = _; go_num, HF', HR', HO3, HB3⟩, ?_⟩
    simp [Wmu, intOf, hu5]
    omega

set_option maxRecDepth 100000 in
set_option maxHeartbeats 4000000 in
theorem r_name (s : ByteArray) (w wr : World) (u : Nat → Value) (acc : List Tk.Tok) (p f' : Nat) (Q0 : Exit → Act → World → Prop) (hs : s.size ≤ 12000) (hz : w.heap.size + 1 ≤ wr.heap.size) (hap : acc.length ≤ p) (hlt : p < s.size) (hu5 : u 5 = .int .i64 p) (X : ByteArray) (q32 : ((s[p].toNat : Int) == 32) = false) (q9 : ((s[p].toNat : Int) == 9) = false) (q10 : ((s[p].toNat : Int) == 10) = false) (q13 : ((s[p].toNat : Int) == 13) = false) (q35 : ((s[p].toNat : Int) == 35) = false) (hL : Tk.isL s[p] = true) (r : Nat) (hr0 : 0 < r) (hpr : p + r ≤ s.size) (HLO : Hid (∀ w, Calls Tryd.prog 41 #[.string s, .int .i64 p] w fun e w' => e = .returned (.int .i64 ((p + r : Nat) : Int)) ∧ w' = w)) (hX2 : s.extract p (p + r) = X) (h12 : ¬ 12 < r) (HIW : Hid (∀ w, Calls Tryd.prog 42 #[.string X] w fun e w' => e = .returned (.bool false) ∧ Below w.heap.size w w')) (HXb : Hid (bs ((s.data.toList.drop p).take r) = X))
    (HO : Hid (wr.ownsRow (w.heap.size + 1) 29 4 (u 4) acc.length (tcells acc))) (HB : Hid (Below (w.heap.size + 1) (w.alloc (Obj.cells #[Value.int IntKind.i64 0, Value.int IntKind.i64 0] 25)) wr))
    (HF' : Hid (s.size - nx s.data.toList (p + r) < f')) (HR' : Hid (Tk.scan s.data.toList = Tk.comb (acc ++ [(⟨2, p, (s.data.toList.drop p).take r, 0⟩ : Tk.Tok)]) (Tk.tl f' (nx s.data.toList (p + r)) (s.data.toList.drop (nx s.data.toList (p + r)))))) :
    Code.wp Tryd.prog rbody (Exit.then (fun a' w'' => WI s w a' w'' ∧ Wmu s a' w'' < Wmu s (frame s w.heap.size u) wr) Q0) (frame s w.heap.size u) wr := by
  obtain ⟨i0, hi, hz0, hz1, hz2⟩ := info_parts Tryd.infoTok
  have HSM := hide (fun w => small_any s[p] w)
  conv => arg 2; whnf
  unfold frame
  go_wp2_with fail
  refine (HSM.out _).mono ?_
  rintro e w5 ⟨rfl, hw⟩
  subst w5
  go_wp2_with fail
  refine (HLO.out _).mono ?_
  rintro e w6 ⟨rfl, hw⟩
  subst w6
  go_wp2_with fail
  refine (HIW.out _).mono ?_
  rintro e w7 ⟨rfl, hb7⟩
  have hz7 := hb7.size
  have HO2 := hide (own_below HO.out hb7)
  have HB2 := hide (HB.out.trans (hb7.mono (by omega)))
  clear hb7
  go_wp2_with ((at_builtin; (refine wpList_append_own _ rfl _ _ 23 rfl (w.heap.size + 1) 29 i0 (.agg #[.int .i64 0, .int .i64 0, .string ⟨#[]⟩, .int .i64 0]) 4 40 Tryd.underlying23 hi hz0 hz1 hz2 rfl (by decide) _ _ _ rfl (by exact HO2.out.alloc _) ⟨w7.heap.size, 0, none⟩ 1 1 [.int .i64 2, .int .i64 p, .string X, .int .i64 0] rfl rfl ?c1 ?c2 ?c3 ?c4 ?c5 ?_)))
  case c1 => exact cells_four_new _ _ (by simp) _ _ _ _ _
  case c2 => intro u hu; simp at hu; rcases hu with rfl | rfl | rfl | rfl <;> rfl
  case c3 => unfold maxLen; omega
  case c4 => omega
  case c5 => simp; omega
  · intro v' w3 hown' hgrow _
    obtain ⟨HO3, HB3⟩ := app_step (⟨2, p, (s.data.toList.drop p).take r, 0⟩ : Tk.Tok) HO2.out HB2.out (by omega) (by rw [HXb.out]; exact hown') hgrow
    clear hown' hgrow
    go_wp2
    refine ⟨wi_mk _ _ _ _ rfl ⟨acc ++ [(⟨2, p, (s.data.toList.drop p).take r, 0⟩ : Tk.Tok)], p + r, f', by simp; omega, by omega, by show _ = _; go_num, HF', HR', HO3, HB3⟩, ?_⟩
    simp [Wmu, intOf, hu5]
    omega

set_option maxRecDepth 100000 in
set_option maxHeartbeats 4000000 in
theorem r_digit (s : ByteArray) (w wr : World) (u : Nat → Value) (acc : List Tk.Tok) (p f' : Nat) (Q0 : Exit → Act → World → Prop) (hs : s.size ≤ 12000) (hz : w.heap.size + 1 ≤ wr.heap.size) (hap : acc.length ≤ p) (hlt : p < s.size) (hu5 : u 5 = .int .i64 p) (X : ByteArray) (q32 : ((s[p].toNat : Int) == 32) = false) (q9 : ((s[p].toNat : Int) == 9) = false) (q10 : ((s[p].toNat : Int) == 10) = false) (q13 : ((s[p].toNat : Int) == 13) = false) (q35 : ((s[p].toNat : Int) == 35) = false) (hL : Tk.isL s[p] = false) (hD : Tk.isD s[p] = true) (r : Nat) (hr0 : 0 < r) (hpr : p + r ≤ s.size) (HLO : Hid (∀ w, Calls Tryd.prog 41 #[.string s, .int .i64 p] w fun e w' => e = .returned (.int .i64 ((p + r : Nat) : Int)) ∧ w' = w)) (hX2 : s.extract p (p + r) = X) (n : Int) (dn : decide (n < 0) = false) (HNM : Hid (∀ w, Calls Tryd.prog 44 #[.string X] w fun e w' => e = .returned (.int .i64 n) ∧ w' = w)) (HXb : Hid (bs ((s.data.toList.drop p).take r) = X))
    (HO : Hid (wr.ownsRow (w.heap.size + 1) 29 4 (u 4) acc.length (tcells acc))) (HB : Hid (Below (w.heap.size + 1) (w.alloc (Obj.cells #[Value.int IntKind.i64 0, Value.int IntKind.i64 0] 25)) wr))
    (HF' : Hid (s.size - nx s.data.toList (p + r) < f')) (HR' : Hid (Tk.scan s.data.toList = Tk.comb (acc ++ [(⟨3, p, (s.data.toList.drop p).take r, n⟩ : Tk.Tok)]) (Tk.tl f' (nx s.data.toList (p + r)) (s.data.toList.drop (nx s.data.toList (p + r)))))) :
    Code.wp Tryd.prog rbody (Exit.then (fun a' w'' => WI s w a' w'' ∧ Wmu s a' w'' < Wmu s (frame s w.heap.size u) wr) Q0) (frame s w.heap.size u) wr := by
  obtain ⟨i0, hi, hz0, hz1, hz2⟩ := info_parts Tryd.infoTok
  have HSM := hide (fun w => small_any s[p] w)
  have HDG := hide (fun w => digit_any s[p] w)
  conv => arg 2; whnf
  unfold frame
  go_wp2_with fail
  refine (HSM.out _).mono ?_
  rintro e w5 ⟨rfl, hw⟩
  subst w5
  go_wp2_with fail
  refine (HDG.out _).mono ?_
  rintro e w6 ⟨rfl, hw⟩
  subst w6
  go_wp2_with fail
  refine (HLO.out _).mono ?_
  rintro e w7 ⟨rfl, hw⟩
  subst w7
  go_wp2_with fail
  refine (HNM.out _).mono ?_
  rintro e w8 ⟨rfl, hw⟩
  subst w8
  go_wp2_with ((at_builtin; (refine wpList_append_own _ rfl _ _ 23 rfl (w.heap.size + 1) 29 i0 (.agg #[.int .i64 0, .int .i64 0, .string ⟨#[]⟩, .int .i64 0]) 4 40 Tryd.underlying23 hi hz0 hz1 hz2 rfl (by decide) _ _ _ rfl (by exact HO.out.alloc _) ⟨wr.heap.size, 0, none⟩ 1 1 [.int .i64 3, .int .i64 p, .string X, .int .i64 n] rfl rfl ?c1 ?c2 ?c3 ?c4 ?c5 ?_)))
  case c1 => exact cells_four_new _ _ (by simp) _ _ _ _ _
  case c2 => intro u hu; simp at hu; rcases hu with rfl | rfl | rfl | rfl <;> rfl
  case c3 => unfold maxLen; omega
  case c4 => omega
  case c5 => simp; omega
  · intro v' w3 hown' hgrow _
    obtain ⟨HO3, HB3⟩ := app_step (⟨3, p, (s.data.toList.drop p).take r, n⟩ : Tk.Tok) HO.out HB.out (by omega) (by rw [HXb.out]; exact hown') hgrow
    clear hown' hgrow
    go_wp2
    refine ⟨wi_mk _ _ _ _ rfl ⟨acc ++ [(⟨3, p, (s.data.toList.drop p).take r, n⟩ : Tk.Tok)], p + r, f', by simp; omega, by omega, by show _ = _; go_num, HF', HR', HO3, HB3⟩, ?_⟩
    simp [Wmu, intOf, hu5]
    omega
end Go.Proofs.YtdnlnpdaplonfabDoor
/- The document's own Scan: a round at a blank, at a remark. -/
namespace Go.Proofs.YtdnlnpdaplonfabDoor
open Go.RowKit

set_option maxRecDepth 100000 in
set_option maxHeartbeats 4000000 in
theorem r_blank32 (s : ByteArray) (w wr : World) (u : Nat → Value) (acc : List Tk.Tok) (p f' : Nat) (Q0 : Exit → Act → World → Prop) (hs : s.size ≤ 12000) (_hz : w.heap.size + 1 ≤ wr.heap.size) (hap : acc.length ≤ p) (hlt : p < s.size) (hu5 : u 5 = .int .i64 p) (h : (s[p].toNat : Int) = 32)
    (HO : Hid (wr.ownsRow (w.heap.size + 1) 29 4 (u 4) acc.length (tcells acc))) (HB : Hid (Below (w.heap.size + 1) (w.alloc (Obj.cells #[Value.int IntKind.i64 0, Value.int IntKind.i64 0] 25)) wr))
    (HF2 : Hid (s.size - nx s.data.toList (p + 1) < f')) (HR2 : Hid (Tk.scan s.data.toList = Tk.comb acc (Tk.tl f' (nx s.data.toList (p + 1)) (s.data.toList.drop (nx s.data.toList (p + 1)))))) :
    Code.wp Tryd.prog rbody (Exit.then (fun a' w'' => WI s w a' w'' ∧ Wmu s a' w'' < Wmu s (frame s w.heap.size u) wr) Q0) (frame s w.heap.size u) wr := by
  conv => arg 2; whnf
  unfold frame
  go_wp2
  refine ⟨wi_mk _ _ _ _ rfl ⟨acc, p + 1, f', by omega, by omega, by show _ = _; go_num, HF2, HR2, HO, HB⟩, ?_⟩
  simp [Wmu, intOf, hu5]
  omega

set_option maxRecDepth 100000 in
set_option maxHeartbeats 4000000 in
theorem r_blank9 (s : ByteArray) (w wr : World) (u : Nat → Value) (acc : List Tk.Tok) (p f' : Nat) (Q0 : Exit → Act → World → Prop) (hs : s.size ≤ 12000) (_hz : w.heap.size + 1 ≤ wr.heap.size) (hap : acc.length ≤ p) (hlt : p < s.size) (hu5 : u 5 = .int .i64 p) (h : (s[p].toNat : Int) = 9)
    (HO : Hid (wr.ownsRow (w.heap.size + 1) 29 4 (u 4) acc.length (tcells acc))) (HB : Hid (Below (w.heap.size + 1) (w.alloc (Obj.cells #[Value.int IntKind.i64 0, Value.int IntKind.i64 0] 25)) wr))
    (HF2 : Hid (s.size - nx s.data.toList (p + 1) < f')) (HR2 : Hid (Tk.scan s.data.toList = Tk.comb acc (Tk.tl f' (nx s.data.toList (p + 1)) (s.data.toList.drop (nx s.data.toList (p + 1)))))) :
    Code.wp Tryd.prog rbody (Exit.then (fun a' w'' => WI s w a' w'' ∧ Wmu s a' w'' < Wmu s (frame s w.heap.size u) wr) Q0) (frame s w.heap.size u) wr := by
  conv => arg 2; whnf
  unfold frame
  go_wp2
  refine ⟨wi_mk _ _ _ _ rfl ⟨acc, p + 1, f', by omega, by omega, by show _ = _; go_num, HF2, HR2, HO, HB⟩, ?_⟩
  simp [Wmu, intOf, hu5]
  omega

set_option maxRecDepth 100000 in
set_option maxHeartbeats 4000000 in
theorem r_blank10 (s : ByteArray) (w wr : World) (u : Nat → Value) (acc : List Tk.Tok) (p f' : Nat) (Q0 : Exit → Act → World → Prop) (hs : s.size ≤ 12000) (_hz : w.heap.size + 1 ≤ wr.heap.size) (hap : acc.length ≤ p) (hlt : p < s.size) (hu5 : u 5 = .int .i64 p) (h : (s[p].toNat : Int) = 10)
    (HO : Hid (wr.ownsRow (w.heap.size + 1) 29 4 (u 4) acc.length (tcells acc))) (HB : Hid (Below (w.heap.size + 1) (w.alloc (Obj.cells #[Value.int IntKind.i64 0, Value.int IntKind.i64 0] 25)) wr))
    (HF2 : Hid (s.size - nx s.data.toList (p + 1) < f')) (HR2 : Hid (Tk.scan s.data.toList = Tk.comb acc (Tk.tl f' (nx s.data.toList (p + 1)) (s.data.toList.drop (nx s.data.toList (p + 1)))))) :
    Code.wp Tryd.prog rbody (Exit.then (fun a' w'' => WI s w a' w'' ∧ Wmu s a' w'' < Wmu s (frame s w.heap.size u) wr) Q0) (frame s w.heap.size u) wr := by
  conv => arg 2; whnf
  unfold frame
  go_wp2
  refine ⟨wi_mk _ _ _ _ rfl ⟨acc, p + 1, f', by omega, by omega, by show _ = _; go_num, HF2, HR2, HO, HB⟩, ?_⟩
  simp [Wmu, intOf, hu5]
  omega

set_option maxRecDepth 100000 in
set_option maxHeartbeats 4000000 in
theorem r_blank13 (s : ByteArray) (w wr : World) (u : Nat → Value) (acc : List Tk.Tok) (p f' : Nat) (Q0 : Exit → Act → World → Prop) (hs : s.size ≤ 12000) (_hz : w.heap.size + 1 ≤ wr.heap.size) (hap : acc.length ≤ p) (hlt : p < s.size) (hu5 : u 5 = .int .i64 p) (h : (s[p].toNat : Int) = 13)
    (HO : Hid (wr.ownsRow (w.heap.size + 1) 29 4 (u 4) acc.length (tcells acc))) (HB : Hid (Below (w.heap.size + 1) (w.alloc (Obj.cells #[Value.int IntKind.i64 0, Value.int IntKind.i64 0] 25)) wr))
    (HF2 : Hid (s.size - nx s.data.toList (p + 1) < f')) (HR2 : Hid (Tk.scan s.data.toList = Tk.comb acc (Tk.tl f' (nx s.data.toList (p + 1)) (s.data.toList.drop (nx s.data.toList (p + 1)))))) :
    Code.wp Tryd.prog rbody (Exit.then (fun a' w'' => WI s w a' w'' ∧ Wmu s a' w'' < Wmu s (frame s w.heap.size u) wr) Q0) (frame s w.heap.size u) wr := by
  conv => arg 2; whnf
  unfold frame
  go_wp2
  refine ⟨wi_mk _ _ _ _ rfl ⟨acc, p + 1, f', by omega, by omega, by show _ = _; go_num, HF2, HR2, HO, HB⟩, ?_⟩
  simp [Wmu, intOf, hu5]
  omega

set_option maxRecDepth 100000 in
set_option maxHeartbeats 4000000 in
theorem r_rem (s : ByteArray) (w wr : World) (u : Nat → Value) (acc : List Tk.Tok) (p f' : Nat) (Q0 : Exit → Act → World → Prop) (hs : s.size ≤ 12000) (_hz : w.heap.size + 1 ≤ wr.heap.size) (hap : acc.length ≤ p) (hlt : p < s.size) (hu5 : u 5 = .int .i64 p) (h35 : (s[p].toNat : Int) = 35)
    (HO : Hid (wr.ownsRow (w.heap.size + 1) 29 4 (u 4) acc.length (tcells acc))) (HB : Hid (Below (w.heap.size + 1) (w.alloc (Obj.cells #[Value.int IntKind.i64 0, Value.int IntKind.i64 0] 25)) wr))
    (HF : Hid (s.size - nx s.data.toList p < f')) (HR : Hid (Tk.scan s.data.toList = Tk.comb acc (Tk.tl f' (nx s.data.toList p) (s.data.toList.drop (nx s.data.toList p))))) :
    Code.wp Tryd.prog rbody (Exit.then (fun a' w'' => WI s w a' w'' ∧ Wmu s a' w'' < Wmu s (frame s w.heap.size u) wr) Q0) (frame s w.heap.size u) wr := by
  have HNX := hide (nx_rem s p hlt h35)
  conv => arg 2; whnf
  unfold frame
  go_wp2
  go_loop [5] (fun i => ∃ j : Nat, p ≤ j ∧ j ≤ s.size ∧ i = .int .i64 j ∧ Hid (nx s.data.toList p = j + Tk.skip true (s.data.toList.drop j))) (fun i => s.size - (intOf i).toNat)
  case atStart => exact ⟨p, Nat.le_refl _, by omega, rfl, HNX⟩
  case round =>
    obtain ⟨j, hpj, hjs, rfl, HJ⟩ := hrel
    by_cases hjl : j < s.size
    · cases h10 : ((s[j].toNat : Int) == 10)
      · have HJ2 : Hid (nx s.data.toList p = (j + 1) + Tk.skip true (s.data.toList.drop (j + 1))) := HJ.out.trans (rem_step s j hjl h10).symm
        have h10' : ((s[j].toNat : Int) != 10) = true := by simpa using h10
        go_wp2
        go_round
        case rel => exact ⟨j + 1, by omega, by omega, by go_num, HJ2⟩
        case measure => simp [intOf]; omega
      · have hE := rem_end s j hjl h10
        have hJ := HJ.out
        rw [← hE] at hJ
        have hne : j ≠ p := by
          intro e
          subst e
          rw [h35] at h10
          cases h10
        have HF2 : Hid (s.size - nx s.data.toList j < f') := by rw [← hJ]; exact HF.out
        have HR2 : Hid (Tk.scan s.data.toList = Tk.comb acc (Tk.tl f' (nx s.data.toList j) (s.data.toList.drop (nx s.data.toList j)))) := by rw [← hJ]; exact HR.out
        have h10' : ((s[j].toNat : Int) != 10) = false := by simpa using h10
        clear hE hJ
        go_wp2
        refine ⟨wi_mk _ _ _ _ rfl ⟨acc, j, f', by omega, by omega, rfl, HF2, HR2, HO, HB⟩, ?_⟩
        simp [Wmu, intOf]
        omega
    · have hE := rem_over s j hjl
      have hJ := HJ.out
      rw [← hE] at hJ
      have HF2 : Hid (s.size - nx s.data.toList j < f') := by rw [← hJ]; exact HF.out
      have HR2 : Hid (Tk.scan s.data.toList = Tk.comb acc (Tk.tl f' (nx s.data.toList j) (s.data.toList.drop (nx s.data.toList j)))) := by rw [← hJ]; exact HR.out
      clear hE hJ
      go_wp2
      refine ⟨wi_mk _ _ _ _ rfl ⟨acc, j, f', by omega, by omega, rfl, HF2, HR2, HO, HB⟩, ?_⟩
      simp [Wmu, intOf]
      omega
end Go.Proofs.YtdnlnpdaplonfabDoor
/- The document's own Scan: the whole. -/
namespace Go.Proofs.YtdnlnpdaplonfabDoor
open Go.RowKit

theorem bcell {W w1 : World} (hb : Below W.heap.size W w1) : (∀ b o, b < W.heap.size → w1.cell? ⟨b, o, none⟩ = W.cell? ⟨b, o, none⟩) ∧ (∀ b o, b < W.heap.size → w1.frozen? ⟨b, o, none⟩ = W.frozen? ⟨b, o, none⟩) :=
  ⟨fun b o h => hb.cell (p := ⟨b, o, none⟩) h, fun b o h => hb.frozen (p := ⟨b, o, none⟩) h⟩

set_option maxRecDepth 100000 in
set_option maxHeartbeats 400000 in
theorem rscan_huge (s : ByteArray) (w : World) (hs : s.size ≤ maxLen) (hbig : 12000 < s.size) :
    Calls Tryd.prog 19 #[.string s] w fun e w' => e = .returned (.tuple #[.slice none 0 0, .agg #[.int .i64 1, .int .i64 12000]]) ∧ Below w.heap.size w w' := by
  unfold maxLen at hs
  go_enter Tryd.func19, Tryd.ntmps19
  go_wp2_with (go_at_call 39; refine (rF_any _ _ _).mono ?_; rintro e w1 ⟨rfl, hb⟩; obtain ⟨hc, hf⟩ := bcell hb; have hz : w.heap.size < w1.heap.size := (by have := hb.size; simp at this; omega))
  exact bodyPost_ret (v := .tuple #[.slice none 0 0, .agg #[.int .i64 1, .int .i64 12000]]) (by simp [results, Tryd.results19, go_sem, hc]) rfl ⟨rfl, (((Below.refl _ _).alloc (Nat.le_refl _) _).trans (hb.mono (by simp))).setCell (by simp) _ |>.setCell (by simp) _⟩

set_option maxRecDepth 100000 in
set_option maxHeartbeats 40000000 in
theorem rscan_in (s : ByteArray) (w : World) (hs : s.size ≤ 12000) :
    Calls Tryd.prog 19 #[.string s] w fun e w' => ∃ v, e = .returned (scanV v (Tk.scan s.data.toList)) ∧ w'.ownsRow w.heap.size 29 4 v (Tk.scan s.data.toList).1.length (tcells (Tk.scan s.data.toList).1) ∧ Below w.heap.size w w' := by
  have d1 : decide ((12000 : Int) < (s.size : Int)) = false := by simp; omega
  have HN := hide (Lib.size_eq s)
  go_enter Tryd.func19, Tryd.ntmps19
  go_wp2
  refine wp_loop (c := rbody) (WI s w) (Wmu s) ?_ (fun a wr hI => ?_)
  · refine wi_mk _ _ _ _ rfl ⟨[], 0, s.size + 1, Nat.zero_le _, Nat.zero_le _, rfl, (by show _ < _; omega), ?_, World.ownsRow_nil _ _ _ _, Below.refl _ _⟩
    show _ = _
    rw [Tk.comb_nil _ (Tk.tl_nofault _ _ _)]
    unfold Tk.scan nx
    rw [if_neg (by rw [← HN.out]; omega), HN.out]
    simp
  · obtain ⟨u, ⟨acc, p, f, hap, hps, hu5, HF, HR, HO, HB⟩, rfl⟩ := hI
    have hz := HB.out.size
    simp only [World.size_alloc] at hz
    by_cases hlt : p < s.size
    · by_cases hbl : (s[p].toNat : Int) = 32 ∨ (s[p].toNat : Int) = 9 ∨ (s[p].toNat : Int) = 10 ∨ (s[p].toNat : Int) = 13
      · have hnx := nx_blank s p hlt hbl
        have HF2 : Hid (s.size - nx s.data.toList (p + 1) < f) := by rw [hnx]; exact HF.out
        have HR2 : Hid (Tk.scan s.data.toList = Tk.comb acc (Tk.tl f (nx s.data.toList (p + 1)) (s.data.toList.drop (nx s.data.toList (p + 1))))) := by rw [hnx]; exact HR.out
        rcases hbl with h | h | h | h
        · exact r_blank32 s w wr u acc p f _ hs hz hap hlt hu5 h HO HB HF2 HR2
        · exact r_blank9 s w wr u acc p f _ hs hz hap hlt hu5 h HO HB HF2 HR2
        · exact r_blank10 s w wr u acc p f _ hs hz hap hlt hu5 h HO HB HF2 HR2
        · exact r_blank13 s w wr u acc p f _ hs hz hap hlt hu5 h HO HB HF2 HR2
      · by_cases h35 : (s[p].toNat : Int) = 35
        · exact r_rem s w wr u acc p f _ hs hz hap hlt hu5 h35 HO HB HF HR
        · have q32 : ((s[p].toNat : Int) == 32) = false := by rw [Bool.eq_false_iff]; intro e; have := beq_iff_eq.1 e; omega
          have q9 : ((s[p].toNat : Int) == 9) = false := by rw [Bool.eq_false_iff]; intro e; have := beq_iff_eq.1 e; omega
          have q10 : ((s[p].toNat : Int) == 10) = false := by rw [Bool.eq_false_iff]; intro e; have := beq_iff_eq.1 e; omega
          have q13 : ((s[p].toNat : Int) == 13) = false := by rw [Bool.eq_false_iff]; intro e; have := beq_iff_eq.1 e; omega
          have q35 : ((s[p].toNat : Int) == 35) = false := by rw [Bool.eq_false_iff]; intro e; have := beq_iff_eq.1 e; omega
          have HSM := hide (fun w => small_any s[p] w)
          have HDG := hide (fun w => digit_any s[p] w)
          have HLO := hide (fun w => long_any s p w (by omega) (by omega))
          have hB : Tk.isB s[p] = false := by rw [Tk.isB_int, q32, q9, q10, q13]; rfl
          have hnx := nx_tok s p hlt q10 q35 hB
          have hll : p < s.data.toList.length := by rw [← HN.out]; exact hlt
          have HFl : s.data.toList.length - nx s.data.toList p < f := by rw [← HN.out]; exact HF.out
          have HST := hide (fun A hA hc => rel_step s.data.toList acc p f A hll hnx hA hc HFl HR.out)
          have HBD := hide (fun A hA hc => rel_bad s.data.toList acc p f A hll hnx hA hc HFl HR.out)
          rw [← HN.out] at HST
          clear hnx hll HFl hB hbl h35 HF HR
          cases hL : Tk.isL s[p]
          · cases hD : Tk.isD s[p]
            · have HTS := hide (tok_sign s p hlt hL hD)
              by_cases hee : (s[p].toNat : Int) = 61 ∧ ∃ h2 : p + 1 < s.size, (s[p + 1].toNat : Int) = 61
              · obtain ⟨h61, h2, h61'⟩ := hee
                obtain ⟨hm0, hm1, f', hf', hr'⟩ := HST.out ⟨0, 4, 2, 0⟩ (by rw [HTS.out, sign_two s p h2 h61 h61']; rfl) rfl
                have hXb : bs ((s.data.toList.drop p).take 2) = ⟨#[61, 61]⟩ := by
                  rw [drop_at s p hlt, drop_at s (p + 1) h2]
                  have e1 : s[p] = 61 := UInt8.toNat_inj.1 (by have : s[p].toNat = 61 := by omega
                                                               exact this)
                  have e2 : s[p + 1] = 61 := UInt8.toNat_inj.1 (by have : s[p + 1].toNat = 61 := by omega
                                                                   exact this)
                  rw [e1, e2]
                  rfl
                exact r_eqeq s w wr u acc p f' _ hs hz hap hlt hu5 h61 h2 h61' hL hD hXb HO HB hf' hr'
              · cases hc : Tk.signs.contains s[p]
                · have hE := HBD.out ⟨2, 0, 0, 0⟩ (by rw [HTS.out, sign_none s p hlt hc]; rfl) (by show (2 : Int) ≠ 0; decide)
                  have HE := hide hE
                  have hns := (not_congr (signs_cases s[p])).1 (by rw [hc]; simp)
                  have k40 : ((s[p].toNat : Int) == 40) = false := by rw [Bool.eq_false_iff]; intro e; have := beq_iff_eq.1 e; omega
                  have k41 : ((s[p].toNat : Int) == 41) = false := by rw [Bool.eq_false_iff]; intro e; have := beq_iff_eq.1 e; omega
                  have k123 : ((s[p].toNat : Int) == 123) = false := by rw [Bool.eq_false_iff]; intro e; have := beq_iff_eq.1 e; omega
                  have k125 : ((s[p].toNat : Int) == 125) = false := by rw [Bool.eq_false_iff]; intro e; have := beq_iff_eq.1 e; omega
                  have k44 : ((s[p].toNat : Int) == 44) = false := by rw [Bool.eq_false_iff]; intro e; have := beq_iff_eq.1 e; omega
                  have k59 : ((s[p].toNat : Int) == 59) = false := by rw [Bool.eq_false_iff]; intro e; have := beq_iff_eq.1 e; omega
                  have k43 : ((s[p].toNat : Int) == 43) = false := by rw [Bool.eq_false_iff]; intro e; have := beq_iff_eq.1 e; omega
                  have k45 : ((s[p].toNat : Int) == 45) = false := by rw [Bool.eq_false_iff]; intro e; have := beq_iff_eq.1 e; omega
                  have k42 : ((s[p].toNat : Int) == 42) = false := by rw [Bool.eq_false_iff]; intro e; have := beq_iff_eq.1 e; omega
                  have k60 : ((s[p].toNat : Int) == 60) = false := by rw [Bool.eq_false_iff]; intro e; have := beq_iff_eq.1 e; omega
                  have k61 : ((s[p].toNat : Int) == 61) = false := by rw [Bool.eq_false_iff]; intro e; have := beq_iff_eq.1 e; omega
                  clear hE HBD HST HTS hns hc hee
                  conv => arg 2; whnf
                  unfold frame
                  go_wp2_with fail
                  refine (HSM.out _).mono ?_
                  rintro e w5 ⟨rfl, hw⟩
                  subst w5
                  go_wp2_with fail
                  refine (HDG.out _).mono ?_
                  rintro e w6 ⟨rfl, hw⟩
                  subst w6
                  go_wp2_with fail
                  refine (rF_any _ _ _).mono ?_
                  rintro e w9 ⟨rfl, hb8⟩
                  have hz8 := hb8.size
                  have HB8 := hide (HB.out.trans (hb8.mono (by omega)))
                  obtain ⟨c0, c1, f0, f1⟩ := fltAt_of HB8.out
                  clear hb8
                  have hzz : w.heap.size < w9.heap.size := by omega
                  first
                  | go_wp2
                  | skip
                  refine bodyPost_ret (v := scanV (.slice none 0 0) ([], 2, (p : Int))) (by simp [results, Tryd.results19, go_sem, scanV, c0, c1]) rfl ⟨.slice none 0 0, ?_⟩
                  rw [HE.out]
                  refine ⟨rfl, World.ownsRow_nil _ _ _ _, ?_⟩
                  repeat (first | exact ((Below.refl _ w).alloc (Nat.le_refl _) _).trans (HB8.out.mono (by omega)) | refine Below.drew ?_ | refine Below.alloc ?_ (by simp [World.setCell]; omega) _ | refine Below.setCell ?_ (by simp) _)
                · obtain ⟨hm0, hm1, f', hf', hr'⟩ := HST.out ⟨0, 4, 1, 0⟩ (by rw [HTS.out, sign_one s p hlt hee hc]; rfl) rfl
                  obtain ⟨X, hX2⟩ : ∃ X, s.extract p (p + 1) = X := ⟨_, rfl⟩
                  have hXb : bs ((s.data.toList.drop p).take 1) = X := by rw [← hX2, ext_bs]
                  rcases (signs_cases s[p]).1 hc with h | h | h | h | h | h | h | h | h | h | h
                  · exact r_sign40 s w wr u acc p f' _ hs hz hap hlt hu5 X h hL hD hX2 hXb HO HB hf' hr'
                  · exact r_sign41 s w wr u acc p f' _ hs hz hap hlt hu5 X h hL hD hX2 hXb HO HB hf' hr'
                  · exact r_sign123 s w wr u acc p f' _ hs hz hap hlt hu5 X h hL hD hX2 hXb HO HB hf' hr'
                  · exact r_sign125 s w wr u acc p f' _ hs hz hap hlt hu5 X h hL hD hX2 hXb HO HB hf' hr'
                  · exact r_sign44 s w wr u acc p f' _ hs hz hap hlt hu5 X h hL hD hX2 hXb HO HB hf' hr'
                  · exact r_sign59 s w wr u acc p f' _ hs hz hap hlt hu5 X h hL hD hX2 hXb HO HB hf' hr'
                  · exact r_sign43 s w wr u acc p f' _ hs hz hap hlt hu5 X h hL hD hX2 hXb HO HB hf' hr'
                  · exact r_sign45 s w wr u acc p f' _ hs hz hap hlt hu5 X h hL hD hX2 hXb HO HB hf' hr'
                  · exact r_sign42 s w wr u acc p f' _ hs hz hap hlt hu5 X h hL hD hX2 hXb HO HB hf' hr'
                  · exact r_sign60 s w wr u acc p f' _ hs hz hap hlt hu5 X h hL hD hX2 hXb HO HB hf' hr'
                  · by_cases h2 : p + 1 < s.size
                    · exact r_sign61a s w wr u acc p f' _ hs hz hap hlt hu5 X h h2 (by rw [Bool.eq_false_iff]; intro e; exact hee ⟨h, h2, beq_iff_eq.1 e⟩) hL hD hX2 hXb HO HB hf' hr'
                    · exact r_sign61b s w wr u acc p f' _ hs hz hap hlt hu5 X h (by simp; omega) hL hD hX2 hXb HO HB hf' hr'
            · have hrp := run_pos s p hlt (by rw [hD]; simp)
              have hrl := Tk.run_le (s.data.toList.drop p)
              rw [List.length_drop, ← HN.out] at hrl
              have htk := tok_num s p hlt hD
              unfold Tk.numAns at htk
              have hXs : ((s.data.toList.drop p).take (Tk.run (s.data.toList.drop p))).length = Tk.run (s.data.toList.drop p) := by rw [List.length_take, List.length_drop, ← HN.out]; omega
              rw [hXs] at htk
              clear hXs
              generalize Tk.run (s.data.toList.drop p) = r at *
              obtain ⟨X, hX2⟩ : ∃ X, s.extract p (p + r) = X := ⟨_, rfl⟩
              have hXl : X.data.toList = (s.data.toList.drop p).take r := by rw [← hX2, ext_list, Nat.add_sub_cancel_left]
              have hXb : bs ((s.data.toList.drop p).take r) = X := by rw [← hX2, ext_bs]
              have hXz : X.size ≤ 1099511627776 := by rw [← hX2, ByteArray.size_extract]; omega
              have HNM := hide (fun w => num_any X w hXz)
              rw [hXl] at HNM
              cases hn : Tk.numOf ((s.data.toList.drop p).take r) with
              | none =>
                rw [hn] at HNM htk
                have hE := HBD.out ⟨3, 0, 0, 0⟩ htk (by show (3 : Int) ≠ 0; decide)
                have HE := hide hE
                clear hE HBD HST htk hn hXl hXb hXz
                conv => arg 2; whnf
                unfold frame
                go_wp2_with fail
                refine (HSM.out _).mono ?_
                rintro e w5 ⟨rfl, hw⟩
                subst w5
                go_wp2_with fail
                refine (HDG.out _).mono ?_
                rintro e w6 ⟨rfl, hw⟩
                subst w6
                go_wp2_with fail
                refine (HLO.out _).mono ?_
                rintro e w7 ⟨rfl, hw⟩
                subst w7
                go_wp2_with fail
                refine (HNM.out _).mono ?_
                rintro e w8 ⟨rfl, hw⟩
                subst w8
                go_wp2_with fail
                refine (rF_any _ _ _).mono ?_
                rintro e w9 ⟨rfl, hb8⟩
                have hz8 := hb8.size
                have HB8 := hide (HB.out.trans (hb8.mono (by omega)))
                obtain ⟨c0, c1, f0, f1⟩ := fltAt_of HB8.out
                clear hb8
                have hzz : w.heap.size < w9.heap.size := by omega
                first
                | go_wp2
                | skip
                refine bodyPost_ret (v := scanV (.slice none 0 0) ([], 3, (p : Int))) (by simp [results, Tryd.results19, go_sem, scanV, c0, c1]) rfl ⟨.slice none 0 0, ?_⟩
                rw [HE.out]
                refine ⟨rfl, World.ownsRow_nil _ _ _ _, ?_⟩
                repeat (first | exact ((Below.refl _ w).alloc (Nat.le_refl _) _).trans (HB8.out.mono (by omega)) | refine Below.drew ?_ | refine Below.alloc ?_ (by simp [World.setCell]; omega) _ | refine Below.setCell ?_ (by simp) _)
              | some n =>
                rw [hn] at HNM htk
                have hn0 := numOf_nonneg _ _ hn
                obtain ⟨hm0, hm1, f', hf', hr'⟩ := HST.out ⟨0, 3, r, n⟩ htk rfl
                exact r_digit s w wr u acc p f' _ hs hz hap hlt hu5 X q32 q9 q10 q13 q35 hL hD r hrp (by omega) HLO hX2 n (by simp; omega) HNM hXb HO HB hf' hr'
          · have hrp := run_pos s p hlt (by rw [hL]; rfl)
            have hrl := Tk.run_le (s.data.toList.drop p)
            rw [List.length_drop, ← HN.out] at hrl
            have htk := tok_name s p hlt hL
            unfold Tk.nameAns at htk
            have hXs : ((s.data.toList.drop p).take (Tk.run (s.data.toList.drop p))).length = Tk.run (s.data.toList.drop p) := by rw [List.length_take, List.length_drop, ← HN.out]; omega
            rw [hXs] at htk
            clear hXs HDG
            generalize Tk.run (s.data.toList.drop p) = r at *
            obtain ⟨X, hX2⟩ : ∃ X, s.extract p (p + r) = X := ⟨_, rfl⟩
            have hXl : X.data.toList = (s.data.toList.drop p).take r := by rw [← hX2, ext_list, Nat.add_sub_cancel_left]
            have hXb : bs ((s.data.toList.drop p).take r) = X := by rw [← hX2, ext_bs]
            have HIW := hide (fun w => isWord_any X w)
            rw [hXl] at HIW
            cases hW : Tk.isW ((s.data.toList.drop p).take r)
            · rw [hW] at HIW htk
              by_cases h12 : 12 < r
              · have hE := HBD.out ⟨4, 0, 0, 0⟩ (by rw [htk, if_neg (by simp), if_pos h12]) (by show (4 : Int) ≠ 0; decide)
                have HE := hide hE
                have d12 : decide ((12 : Int) < (r : Int)) = true := by simp; omega
                clear hE HBD HST htk hW hXl hXb
                conv => arg 2; whnf
                unfold frame
                go_wp2_with fail
                refine (HSM.out _).mono ?_
                rintro e w5 ⟨rfl, hw⟩
                subst w5
                go_wp2_with fail
                refine (HLO.out _).mono ?_
                rintro e w6 ⟨rfl, hw⟩
                subst w6
                go_wp2_with fail
                refine (HIW.out _).mono ?_
                rintro e w7 ⟨rfl, hb7⟩
                have hz7 := hb7.size
                have HB7 := hide (HB.out.trans (hb7.mono (by omega)))
                clear hb7
                go_wp2_with fail
                refine (rF_any _ _ _).mono ?_
                rintro e w8 ⟨rfl, hb8⟩
                have hz8 := hb8.size
                have HB8 := hide (HB7.out.trans (hb8.mono (by omega)))
                obtain ⟨c0, c1, f0, f1⟩ := fltAt_of HB8.out
                clear hb8
                have hzz : w.heap.size < w8.heap.size := by omega
                first
                | go_wp2
                | skip
                refine bodyPost_ret (v := scanV (.slice none 0 0) ([], 4, (p : Int))) (by simp [results, Tryd.results19, go_sem, scanV, c0, c1]) rfl ⟨.slice none 0 0, ?_⟩
                rw [HE.out]
                refine ⟨rfl, World.ownsRow_nil _ _ _ _, ?_⟩
                repeat (first | exact ((Below.refl _ w).alloc (Nat.le_refl _) _).trans (HB8.out.mono (by omega)) | refine Below.drew ?_ | refine Below.alloc ?_ (by simp [World.setCell]; omega) _ | refine Below.setCell ?_ (by simp) _)
              · obtain ⟨hm0, hm1, f', hf', hr'⟩ := HST.out ⟨0, 2, r, 0⟩ (by rw [htk, if_neg (by simp), if_neg h12]) rfl
                exact r_name s w wr u acc p f' _ hs hz hap hlt hu5 X q32 q9 q10 q13 q35 hL r hrp (by omega) HLO hX2 h12 HIW hXb HO HB hf' hr'
            · rw [hW] at HIW htk
              obtain ⟨hm0, hm1, f', hf', hr'⟩ := HST.out ⟨0, 1, r, 0⟩ (by rw [htk, if_pos rfl]) rfl
              exact r_word s w wr u acc p f' _ hs hz hap hlt hu5 X q32 q9 q10 q13 q35 hL r hrp (by omega) HLO hX2 HIW hXb HO HB hf' hr'
    · obtain rfl : p = s.size := by omega
      have HE : Hid (Tk.scan s.data.toList = (acc, 0, 0)) := by
        have h1 := HR.out
        have h2 := (nx_le s.data.toList s.size (by rw [← HN.out]; omega)).1
        rw [List.drop_of_length_le (by rw [← HN.out]; omega), Tk.tl_nil] at h1
        show _ = _
        rw [h1]
        simp [Tk.comb]
      obtain ⟨c0, c1, f0, f1⟩ := fltAt_of HB.out
      conv => arg 2; whnf
      unfold frame
      go_wp2
      refine bodyPost_ret (v := scanV (u 4) (acc, 0, 0)) (by simp [results, Tryd.results19, go_sem, scanV, c0, c1]) rfl ⟨u 4, ?_⟩
      rw [HE.out]
      refine ⟨rfl, ?_, ?_⟩
      · exact own_down (ownsRow_setCell_below (ownsRow_setCell_below HO.out (a := ⟨w.heap.size, 0, none⟩) (by simp) _) (a := ⟨w.heap.size, 1, none⟩) (by simp) _) (by omega)
      · exact ((((Below.refl _ w).alloc (Nat.le_refl _) _).trans (HB.out.mono (by omega))).setCell (Nat.le_refl _) _).setCell (Nat.le_refl _) _
end Go.Proofs.YtdnlnpdaplonfabDoor
