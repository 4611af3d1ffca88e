import Derived.Test.YtdnlnpdaplonfabDoorRkA
/- The document's own Scan: a round at a sign. -/
namespace Go.Proofs.YtdnlnpdaplonfabDoor
open Go.RowKit

set_option maxRecDepth 100000 in
set_option maxHeartbeats 4000000 in
theorem r_sign40 (s : ByteArray) (w wr : World) (u : Nat → Value) (acc : List Tk.Tok) (p f' : Nat) (Q0 : Exit → Act → World → Prop) (hs : s.size ≤ 12000) (hz : w.heap.size + 1 ≤ wr.heap.size) (hap : acc.length ≤ p) (hlt : p < s.size) (hu5 : u 5 = .int .i64 p) (X : ByteArray) (h : (s[p].toNat : Int) = 40) (hL : Tk.isL s[p] = false) (hD : Tk.isD s[p] = false) (hX2 : s.extract p (p + 1) = X) (HXb : Hid (bs ((s.data.toList.drop p).take 1) = X))
    (HO : Hid (wr.ownsRow (w.heap.size + 1) 29 4 (u 4) acc.length (tcells acc))) (HB : Hid (Below (w.heap.size + 1) (w.alloc (Obj.cells #[Value.int IntKind.i64 0, Value.int IntKind.i64 0] 25)) wr))
    (HF' : Hid (s.size - nx s.data.toList (p + 1) < f')) (HR' : Hid (Tk.scan s.data.toList = Tk.comb (acc ++ [(⟨4, p, (s.data.toList.drop p).take 1, 0⟩ : Tk.Tok)]) (Tk.tl f' (nx s.data.toList (p + 1)) (s.data.toList.drop (nx s.data.toList (p + 1)))))) :
    Code.wp Tryd.prog rbody (Exit.then (fun a' w'' => WI s w a' w'' ∧ Wmu s a' w'' < Wmu s (frame s w.heap.size u) wr) Q0) (frame s w.heap.size u) wr := by
  obtain ⟨i0, hi, hz0, hz1, hz2⟩ := info_parts Tryd.infoTok
  have HSM2 := fun w => small_any s[p] w
  have HDG2 := fun w => digit_any s[p] w
  simp only [h, hL] at HSM2
  simp only [h, hD] at HDG2
  have HSM3 := hide HSM2
  have HDG3 := hide HDG2
  clear HSM2 HDG2 hL hD
  conv => arg 2; whnf
  unfold frame
  go_wp2_with (first | (go_at_call 40; refine (HSM3.out _).mono ?_; rintro e w5 ⟨rfl, hw⟩; subst w5) | (go_at_call 43; refine (HDG3.out _).mono ?_; rintro e w5 ⟨rfl, hw⟩; subst w5) | (at_builtin; (refine wpList_append_own _ rfl _ _ 23 rfl (w.heap.size + 1) 29 i0 (.agg #[.int .i64 0, .int .i64 0, .string ⟨#[]⟩, .int .i64 0]) 4 40 Tryd.underlying23 hi hz0 hz1 hz2 rfl (by decide) _ _ _ rfl (by exact HO.out.alloc _) ⟨wr.heap.size, 0, none⟩ 1 1 [.int .i64 4, .int .i64 p, .string X, .int .i64 0] rfl rfl ?c1 ?c2 ?c3 ?c4 ?c5 ?_)))
  case c1 => exact cells_four_new _ _ (by simp) _ _ _ _ _
  case c2 => intro u hu; simp at hu; rcases hu with rfl | rfl | rfl | rfl <;> rfl
  case c3 => unfold maxLen; omega
  case c4 => omega
  case c5 => simp; omega
  · intro v' w3 hown' hgrow _
    obtain ⟨HO3, HB3⟩ := app_step (⟨4, p, (s.data.toList.drop p).take 1, 0⟩ : Tk.Tok) HO.out HB.out (by omega) (by rw [HXb.out]; exact hown') hgrow
    clear hown' hgrow
    go_wp2
    refine ⟨wi_mk _ _ _ _ rfl ⟨acc ++ [(⟨4, p, (s.data.toList.drop p).take 1, 0⟩ : Tk.Tok)], p + 1, f', by simp; omega, by omega, by show _ = _; go_num, HF', HR', HO3, HB3⟩, ?_⟩
    simp [Wmu, intOf, hu5]
    omega

set_option maxRecDepth 100000 in
set_option maxHeartbeats 4000000 in
theorem r_sign41 (s : ByteArray) (w wr : World) (u : Nat → Value) (acc : List Tk.Tok) (p f' : Nat) (Q0 : Exit → Act → World → Prop) (hs : s.size ≤ 12000) (hz : w.heap.size + 1 ≤ wr.heap.size) (hap : acc.length ≤ p) (hlt : p < s.size) (hu5 : u 5 = .int .i64 p) (X : ByteArray) (h : (s[p].toNat : Int) = 41) (hL : Tk.isL s[p] = false) (hD : Tk.isD s[p] = false) (hX2 : s.extract p (p + 1) = X) (HXb : Hid (bs ((s.data.toList.drop p).take 1) = X))
    (HO : Hid (wr.ownsRow (w.heap.size + 1) 29 4 (u 4) acc.length (tcells acc))) (HB : Hid (Below (w.heap.size + 1) (w.alloc (Obj.cells #[Value.int IntKind.i64 0, Value.int IntKind.i64 0] 25)) wr))
    (HF' : Hid (s.size - nx s.data.toList (p + 1) < f')) (HR' : Hid (Tk.scan s.data.toList = Tk.comb (acc ++ [(⟨4, p, (s.data.toList.drop p).take 1, 0⟩ : Tk.Tok)]) (Tk.tl f' (nx s.data.toList (p + 1)) (s.data.toList.drop (nx s.data.toList (p + 1)))))) :
    Code.wp Tryd.prog rbody (Exit.then (fun a' w'' => WI s w a' w'' ∧ Wmu s a' w'' < Wmu s (frame s w.heap.size u) wr) Q0) (frame s w.heap.size u) wr := by
  obtain ⟨i0, hi, hz0, hz1, hz2⟩ := info_parts Tryd.infoTok
  have HSM2 := fun w => small_any s[p] w
  have HDG2 := fun w => digit_any s[p] w
  simp only [h, hL] at HSM2
  simp only [h, hD] at HDG2
  have HSM3 := hide HSM2
  have HDG3 := hide HDG2
  clear HSM2 HDG2 hL hD
  conv => arg 2; whnf
  unfold frame
  go_wp2_with (first | (go_at_call 40; refine (HSM3.out _).mono ?_; rintro e w5 ⟨rfl, hw⟩; subst w5) | (go_at_call 43; refine (HDG3.out _).mono ?_; rintro e w5 ⟨rfl, hw⟩; subst w5) | (at_builtin; (refine wpList_append_own _ rfl _ _ 23 rfl (w.heap.size + 1) 29 i0 (.agg #[.int .i64 0, .int .i64 0, .string ⟨#[]⟩, .int .i64 0]) 4 40 Tryd.underlying23 hi hz0 hz1 hz2 rfl (by decide) _ _ _ rfl (by exact HO.out.alloc _) ⟨wr.heap.size, 0, none⟩ 1 1 [.int .i64 4, .int .i64 p, .string X, .int .i64 0] rfl rfl ?c1 ?c2 ?c3 ?c4 ?c5 ?_)))
  case c1 => exact cells_four_new _ _ (by simp) _ _ _ _ _
  case c2 => intro u hu; simp at hu; rcases hu with rfl | rfl | rfl | rfl <;> rfl
  case c3 => unfold maxLen; omega
  case c4 => omega
  case c5 => simp; omega
  · intro v' w3 hown' hgrow _
    obtain ⟨HO3, HB3⟩ := app_step (⟨4, p, (s.data.toList.drop p).take 1, 0⟩ : Tk.Tok) HO.out HB.out (by omega) (by rw [HXb.out]; exact hown') hgrow
    clear hown' hgrow
    go_wp2
    refine ⟨wi_mk _ _ _ _ rfl ⟨acc ++ [(⟨4, p, (s.data.toList.drop p).take 1, 0⟩ : Tk.Tok)], p + 1, f', by simp; omega, by omega, by show _ = _; go_num, HF', HR', HO3, HB3⟩, ?_⟩
    simp [Wmu, intOf, hu5]
    omega

set_option maxRecDepth 100000 in
set_option maxHeartbeats 4000000 in
theorem r_sign123 (s : ByteArray) (w wr : World) (u : Nat → Value) (acc : List Tk.Tok) (p f' : Nat) (Q0 : Exit → Act → World → Prop) (hs : s.size ≤ 12000) (hz : w.heap.size + 1 ≤ wr.heap.size) (hap : acc.length ≤ p) (hlt : p < s.size) (hu5 : u 5 = .int .i64 p) (X : ByteArray) (h : (s[p].toNat : Int) = 123) (hL : Tk.isL s[p] = false) (hD : Tk.isD s[p] = false) (hX2 : s.extract p (p + 1) = X) (HXb : Hid (bs ((s.data.toList.drop p).take 1) = X))
    (HO : Hid (wr.ownsRow (w.heap.size + 1) 29 4 (u 4) acc.length (tcells acc))) (HB : Hid (Below (w.heap.size + 1) (w.alloc (Obj.cells #[Value.int IntKind.i64 0, Value.int IntKind.i64 0] 25)) wr))
    (HF' : Hid (s.size - nx s.data.toList (p + 1) < f')) (HR' : Hid (Tk.scan s.data.toList = Tk.comb (acc ++ [(⟨4, p, (s.data.toList.drop p).take 1, 0⟩ : Tk.Tok)]) (Tk.tl f' (nx s.data.toList (p + 1)) (s.data.toList.drop (nx s.data.toList (p + 1)))))) :
    Code.wp Tryd.prog rbody (Exit.then (fun a' w'' => WI s w a' w'' ∧ Wmu s a' w'' < Wmu s (frame s w.heap.size u) wr) Q0) (frame s w.heap.size u) wr := by
  obtain ⟨i0, hi, hz0, hz1, hz2⟩ := info_parts Tryd.infoTok
  have HSM2 := fun w => small_any s[p] w
  have HDG2 := fun w => digit_any s[p] w
  simp only [h, hL] at HSM2
  simp only [h, hD] at HDG2
  have HSM3 := hide HSM2
  have HDG3 := hide HDG2
  clear HSM2 HDG2 hL hD
  conv => arg 2; whnf
  unfold frame
  go_wp2_with (first | (go_at_call 40; refine (HSM3.out _).mono ?_; rintro e w5 ⟨rfl, hw⟩; subst w5) | (go_at_call 43; refine (HDG3.out _).mono ?_; rintro e w5 ⟨rfl, hw⟩; subst w5) | (at_builtin; (refine wpList_append_own _ rfl _ _ 23 rfl (w.heap.size + 1) 29 i0 (.agg #[.int .i64 0, .int .i64 0, .string ⟨#[]⟩, .int .i64 0]) 4 40 Tryd.underlying23 hi hz0 hz1 hz2 rfl (by decide) _ _ _ rfl (by exact HO.out.alloc _) ⟨wr.heap.size, 0, none⟩ 1 1 [.int .i64 4, .int .i64 p, .string X, .int .i64 0] rfl rfl ?c1 ?c2 ?c3 ?c4 ?c5 ?_)))
  case c1 => exact cells_four_new _ _ (by simp) _ _ _ _ _
  case c2 => intro u hu; simp at hu; rcases hu with rfl | rfl | rfl | rfl <;> rfl
  case c3 => unfold maxLen; omega
  case c4 => omega
  case c5 => simp; omega
  · intro v' w3 hown' hgrow _
    obtain ⟨HO3, HB3⟩ := app_step (⟨4, p, (s.data.toList.drop p).take 1, 0⟩ : Tk.Tok) HO.out HB.out (by omega) (by rw [HXb.out]; exact hown') hgrow
    clear hown' hgrow
    go_wp2
    refine ⟨wi_mk _ _ _ _ rfl ⟨acc ++ [(⟨4, p, (s.data.toList.drop p).take 1, 0⟩ : Tk.Tok)], p + 1, f', by simp; omega, by omega, by show _ = _; go_num, HF', HR', HO3, HB3⟩, ?_⟩
    simp [Wmu, intOf, hu5]
    omega

set_option maxRecDepth 100000 in
set_option maxHeartbeats 4000000 in
theorem r_sign125 (s : ByteArray) (w wr : World) (u : Nat → Value) (acc : List Tk.Tok) (p f' : Nat) (Q0 : Exit → Act → World → Prop) (hs : s.size ≤ 12000) (hz : w.heap.size + 1 ≤ wr.heap.size) (hap : acc.length ≤ p) (hlt : p < s.size) (hu5 : u 5 = .int .i64 p) (X : ByteArray) (h : (s[p].toNat : Int) = 125) (hL : Tk.isL s[p] = false) (hD : Tk.isD s[p] = false) (hX2 : s.extract p (p + 1) = X) (HXb : Hid (bs ((s.data.toList.drop p).take 1) = X))
    (HO : Hid (wr.ownsRow (w.heap.size + 1) 29 4 (u 4) acc.length (tcells acc))) (HB : Hid (Below (w.heap.size + 1) (w.alloc (Obj.cells #[Value.int IntKind.i64 0, Value.int IntKind.i64 0] 25)) wr))
    (HF' : Hid (s.size - nx s.data.toList (p + 1) < f')) (HR' : Hid (Tk.scan s.data.toList = Tk.comb (acc ++ [(⟨4, p, (s.data.toList.drop p).take 1, 0⟩ : Tk.Tok)]) (Tk.tl f' (nx s.data.toList (p + 1)) (s.data.toList.drop (nx s.data.toList (p + 1)))))) :
    Code.wp Tryd.prog rbody (Exit.then (fun a' w'' => WI s w a' w'' ∧ Wmu s a' w'' < Wmu s (frame s w.heap.size u) wr) Q0) (frame s w.heap.size u) wr := by
  obtain ⟨i0, hi, hz0, hz1, hz2⟩ := info_parts Tryd.infoTok
  have HSM2 := fun w => small_any s[p] w
  have HDG2 := fun w => digit_any s[p] w
  simp only [h, hL] at HSM2
  simp only [h, hD] at HDG2
  have HSM3 := hide HSM2
  have HDG3 := hide HDG2
  clear HSM2 HDG2 hL hD
  conv => arg 2; whnf
  unfold frame
  go_wp2_with (first | (go_at_call 40; refine (HSM3.out _).mono ?_; rintro e w5 ⟨rfl, hw⟩; subst w5) | (go_at_call 43; refine (HDG3.out _).mono ?_; rintro e w5 ⟨rfl, hw⟩; subst w5) | (at_builtin; (refine wpList_append_own _ rfl _ _ 23 rfl (w.heap.size + 1) 29 i0 (.agg #[.int .i64 0, .int .i64 0, .string ⟨#[]⟩, .int .i64 0]) 4 40 Tryd.underlying23 hi hz0 hz1 hz2 rfl (by decide) _ _ _ rfl (by exact HO.out.alloc _) ⟨wr.heap.size, 0, none⟩ 1 1 [.int .i64 4, .int .i64 p, .string X, .int .i64 0] rfl rfl ?c1 ?c2 ?c3 ?c4 ?c5 ?_)))
  case c1 => exact cells_four_new _ _ (by simp) _ _ _ _ _
  case c2 => intro u hu; simp at hu; rcases hu with rfl | rfl | rfl | rfl <;> rfl
  case c3 => unfold maxLen; omega
  case c4 => omega
  case c5 => simp; omega
  · intro v' w3 hown' hgrow _
    obtain ⟨HO3, HB3⟩ := app_step (⟨4, p, (s.data.toList.drop p).take 1, 0⟩ : Tk.Tok) HO.out HB.out (by omega) (by rw [HXb.out]; exact hown') hgrow
    clear hown' hgrow
    go_wp2
    refine ⟨wi_mk _ _ _ _ rfl ⟨acc ++ [(⟨4, p, (s.data.toList.drop p).take 1, 0⟩ : Tk.Tok)], p + 1, f', by simp; omega, by omega, by show _ = _; go_num, HF', HR', HO3, HB3⟩, ?_⟩
    simp [Wmu, intOf, hu5]
    omega

set_option maxRecDepth 100000 in
set_option maxHeartbeats 4000000 in
theorem r_sign44 (s : ByteArray) (w wr : World) (u : Nat → Value) (acc : List Tk.Tok) (p f' : Nat) (Q0 : Exit → Act → World → Prop) (hs : s.size ≤ 12000) (hz : w.heap.size + 1 ≤ wr.heap.size) (hap : acc.length ≤ p) (hlt : p < s.size) (hu5 : u 5 = .int .i64 p) (X : ByteArray) (h : (s[p].toNat : Int) = 44) (hL : Tk.isL s[p] = false) (hD : Tk.isD s[p] = false) (hX2 : s.extract p (p + 1) = X) (HXb : Hid (bs ((s.data.toList.drop p).take 1) = X))
    (HO : Hid (wr.ownsRow (w.heap.size + 1) 29 4 (u 4) acc.length (tcells acc))) (HB : Hid (Below (w.heap.size + 1) (w.alloc (Obj.cells #[Value.int IntKind.i64 0, Value.int IntKind.i64 0] 25)) wr))
    (HF' : Hid (s.size - nx s.data.toList (p + 1) < f')) (HR' : Hid (Tk.scan s.data.toList = Tk.comb (acc ++ [(⟨4, p, (s.data.toList.drop p).take 1, 0⟩ : Tk.Tok)]) (Tk.tl f' (nx s.data.toList (p + 1)) (s.data.toList.drop (nx s.data.toList (p + 1)))))) :
    Code.wp Tryd.prog rbody (Exit.then (fun a' w'' => WI s w a' w'' ∧ Wmu s a' w'' < Wmu s (frame s w.heap.size u) wr) Q0) (frame s w.heap.size u) wr := by
  obtain ⟨i0, hi, hz0, hz1, hz2⟩ := info_parts Tryd.infoTok
  have HSM2 := fun w => small_any s[p] w
  have HDG2 := fun w => digit_any s[p] w
  simp only [h, hL] at HSM2
  simp only [h, hD] at HDG2
  have HSM3 := hide HSM2
  have HDG3 := hide HDG2
  clear HSM2 HDG2 hL hD
  conv => arg 2; whnf
  unfold frame
  go_wp2_with (first | (go_at_call 40; refine (HSM3.out _).mono ?_; rintro e w5 ⟨rfl, hw⟩; subst w5) | (go_at_call 43; refine (HDG3.out _).mono ?_; rintro e w5 ⟨rfl, hw⟩; subst w5) | (at_builtin; (refine wpList_append_own _ rfl _ _ 23 rfl (w.heap.size + 1) 29 i0 (.agg #[.int .i64 0, .int .i64 0, .string ⟨#[]⟩, .int .i64 0]) 4 40 Tryd.underlying23 hi hz0 hz1 hz2 rfl (by decide) _ _ _ rfl (by exact HO.out.alloc _) ⟨wr.heap.size, 0, none⟩ 1 1 [.int .i64 4, .int .i64 p, .string X, .int .i64 0] rfl rfl ?c1 ?c2 ?c3 ?c4 ?c5 ?_)))
  case c1 => exact cells_four_new _ _ (by simp) _ _ _ _ _
  case c2 => intro u hu; simp at hu; rcases hu with rfl | rfl | rfl | rfl <;> rfl
  case c3 => unfold maxLen; omega
  case c4 => omega
  case c5 => simp; omega
  · intro v' w3 hown' hgrow _
    obtain ⟨HO3, HB3⟩ := app_step (⟨4, p, (s.data.toList.drop p).take 1, 0⟩ : Tk.Tok) HO.out HB.out (by omega) (by rw [HXb.out]; exact hown') hgrow
    clear hown' hgrow
    go_wp2
    refine ⟨wi_mk _ _ _ _ rfl ⟨acc ++ [(⟨4, p, (s.data.toList.drop p).take 1, 0⟩ : Tk.Tok)], p + 1, f', by simp; omega, by omega, by show _ = _; go_num, HF', HR', HO3, HB3⟩, ?_⟩
    simp [Wmu, intOf, hu5]
    omega
end Go.Proofs.YtdnlnpdaplonfabDoor
/- The document's own Scan: a round at a sign. -/
namespace Go.Proofs.YtdnlnpdaplonfabDoor
open Go.RowKit

set_option maxRecDepth 100000 in
set_option maxHeartbeats 4000000 in
theorem r_sign59 (s : ByteArray) (w wr : World) (u : Nat → Value) (acc : List Tk.Tok) (p f' : Nat) (Q0 : Exit → Act → World → Prop) (hs : s.size ≤ 12000) (hz : w.heap.size + 1 ≤ wr.heap.size) (hap : acc.length ≤ p) (hlt : p < s.size) (hu5 : u 5 = .int .i64 p) (X : ByteArray) (h : (s[p].toNat : Int) = 59) (hL : Tk.isL s[p] = false) (hD : Tk.isD s[p] = false) (hX2 : s.extract p (p + 1) = X) (HXb : Hid (bs ((s.data.toList.drop p).take 1) = X))
    (HO : Hid (wr.ownsRow (w.heap.size + 1) 29 4 (u 4) acc.length (tcells acc))) (HB : Hid (Below (w.heap.size + 1) (w.alloc (Obj.cells #[Value.int IntKind.i64 0, Value.int IntKind.i64 0] 25)) wr))
    (HF' : Hid (s.size - nx s.data.toList (p + 1) < f')) (HR' : Hid (Tk.scan s.data.toList = Tk.comb (acc ++ [(⟨4, p, (s.data.toList.drop p).take 1, 0⟩ : Tk.Tok)]) (Tk.tl f' (nx s.data.toList (p + 1)) (s.data.toList.drop (nx s.data.toList (p + 1)))))) :
    Code.wp Tryd.prog rbody (Exit.then (fun a' w'' => WI s w a' w'' ∧ Wmu s a' w'' < Wmu s (frame s w.heap.size u) wr) Q0) (frame s w.heap.size u) wr := by
  obtain ⟨i0, hi, hz0, hz1, hz2⟩ := info_parts Tryd.infoTok
  have HSM2 := fun w => small_any s[p] w
  have HDG2 := fun w => digit_any s[p] w
  simp only [h, hL] at HSM2
  simp only [h, hD] at HDG2
  have HSM3 := hide HSM2
  have HDG3 := hide HDG2
  clear HSM2 HDG2 hL hD
  conv => arg 2; whnf
  unfold frame
  go_wp2_with (first | (go_at_call 40; refine (HSM3.out _).mono ?_; rintro e w5 ⟨rfl, hw⟩; subst w5) | (go_at_call 43; refine (HDG3.out _).mono ?_; rintro e w5 ⟨rfl, hw⟩; subst w5) | (at_builtin; (refine wpList_append_own _ rfl _ _ 23 rfl (w.heap.size + 1) 29 i0 (.agg #[.int .i64 0, .int .i64 0, .string ⟨#[]⟩, .int .i64 0]) 4 40 Tryd.underlying23 hi hz0 hz1 hz2 rfl (by decide) _ _ _ rfl (by exact HO.out.alloc _) ⟨wr.heap.size, 0, none⟩ 1 1 [.int .i64 4, .int .i64 p, .string X, .int .i64 0] rfl rfl ?c1 ?c2 ?c3 ?c4 ?c5 ?_)))
  case c1 => exact cells_four_new _ _ (by simp) _ _ _ _ _
  case c2 => intro u hu; simp at hu; rcases hu with rfl | rfl | rfl | rfl <;> rfl
  case c3 => unfold maxLen; omega
  case c4 => omega
  case c5 => simp; omega
  · intro v' w3 hown' hgrow _
    obtain ⟨HO3, HB3⟩ := app_step (⟨4, p, (s.data.toList.drop p).take 1, 0⟩ : Tk.Tok) HO.out HB.out (by omega) (by rw [HXb.out]; exact hown') hgrow
    clear hown' hgrow
    go_wp2
    refine ⟨wi_mk _ _ _ _ rfl ⟨acc ++ [(⟨4, p, (s.data.toList.drop p).take 1, 0⟩ : Tk.Tok)], p + 1, f', by simp; omega, by omega, by show _ = _; go_num, HF', HR', HO3, HB3⟩, ?_⟩
    simp [Wmu, intOf, hu5]
    omega

set_option maxRecDepth 100000 in
set_option maxHeartbeats 4000000 in
theorem r_sign43 (s : ByteArray) (w wr : World) (u : Nat → Value) (acc : List Tk.Tok) (p f' : Nat) (Q0 : Exit → Act → World → Prop) (hs : s.size ≤ 12000) (hz : w.heap.size + 1 ≤ wr.heap.size) (hap : acc.length ≤ p) (hlt : p < s.size) (hu5 : u 5 = .int .i64 p) (X : ByteArray) (h : (s[p].toNat : Int) = 43) (hL : Tk.isL s[p] = false) (hD : Tk.isD s[p] = false) (hX2 : s.extract p (p + 1) = X) (HXb : Hid (bs ((s.data.toList.drop p).take 1) = X))
    (HO : Hid (wr.ownsRow (w.heap.size + 1) 29 4 (u 4) acc.length (tcells acc))) (HB : Hid (Below (w.heap.size + 1) (w.alloc (Obj.cells #[Value.int IntKind.i64 0, Value.int IntKind.i64 0] 25)) wr))
    (HF' : Hid (s.size - nx s.data.toList (p + 1) < f')) (HR' : Hid (Tk.scan s.data.toList = Tk.comb (acc ++ [(⟨4, p, (s.data.toList.drop p).take 1, 0⟩ : Tk.Tok)]) (Tk.tl f' (nx s.data.toList (p + 1)) (s.data.toList.drop (nx s.data.toList (p + 1)))))) :
    Code.wp Tryd.prog rbody (Exit.then (fun a' w'' => WI s w a' w'' ∧ Wmu s a' w'' < Wmu s (frame s w.heap.size u) wr) Q0) (frame s w.heap.size u) wr := by
  obtain ⟨i0, hi, hz0, hz1, hz2⟩ := info_parts Tryd.infoTok
  have HSM2 := fun w => small_any s[p] w
  have HDG2 := fun w => digit_any s[p] w
  simp only [h, hL] at HSM2
  simp only [h, hD] at HDG2
  have HSM3 := hide HSM2
  have HDG3 := hide HDG2
  clear HSM2 HDG2 hL hD
  conv => arg 2; whnf
  unfold frame
  go_wp2_with (first | (go_at_call 40; refine (HSM3.out _).mono ?_; rintro e w5 ⟨rfl, hw⟩; subst w5) | (go_at_call 43; refine (HDG3.out _).mono ?_; rintro e w5 ⟨rfl, hw⟩; subst w5) | (at_builtin; (refine wpList_append_own _ rfl _ _ 23 rfl (w.heap.size + 1) 29 i0 (.agg #[.int .i64 0, .int .i64 0, .string ⟨#[]⟩, .int .i64 0]) 4 40 Tryd.underlying23 hi hz0 hz1 hz2 rfl (by decide) _ _ _ rfl (by exact HO.out.alloc _) ⟨wr.heap.size, 0, none⟩ 1 1 [.int .i64 4, .int .i64 p, .string X, .int .i64 0] rfl rfl ?c1 ?c2 ?c3 ?c4 ?c5 ?_)))
  case c1 => exact cells_four_new _ _ (by simp) _ _ _ _ _
  case c2 => intro u hu; simp at hu; rcases hu with rfl | rfl | rfl | rfl <;> rfl
  case c3 => unfold maxLen; omega
  case c4 => omega
  case c5 => simp; omega
  · intro v' w3 hown' hgrow _
    obtain ⟨HO3, HB3⟩ := app_step (⟨4, p, (s.data.toList.drop p).take 1, 0⟩ : Tk.Tok) HO.out HB.out (by omega) (by rw [HXb.out]; exact hown') hgrow
    clear hown' hgrow
    go_wp2
    refine ⟨wi_mk _ _ _ _ rfl ⟨acc ++ [(⟨4, p, (s.data.toList.drop p).take 1, 0⟩ : Tk.Tok)], p + 1, f', by simp; omega, by omega, by show _ = _; go_num, HF', HR', HO3, HB3⟩, ?_⟩
    simp [Wmu, intOf, hu5]
    omega

set_option maxRecDepth 100000 in
set_option maxHeartbeats 4000000 in
theorem r_sign45 (s : ByteArray) (w wr : World) (u : Nat → Value) (acc : List Tk.Tok) (p f' : Nat) (Q0 : Exit → Act → World → Prop) (hs : s.size ≤ 12000) (hz : w.heap.size + 1 ≤ wr.heap.size) (hap : acc.length ≤ p) (hlt : p < s.size) (hu5 : u 5 = .int .i64 p) (X : ByteArray) (h : (s[p].toNat : Int) = 45) (hL : Tk.isL s[p] = false) (hD : Tk.isD s[p] = false) (hX2 : s.extract p (p + 1) = X) (HXb : Hid (bs ((s.data.toList.drop p).take 1) = X))
    (HO : Hid (wr.ownsRow (w.heap.size + 1) 29 4 (u 4) acc.length (tcells acc))) (HB : Hid (Below (w.heap.size + 1) (w.alloc (Obj.cells #[Value.int IntKind.i64 0, Value.int IntKind.i64 0] 25)) wr))
    (HF' : Hid (s.size - nx s.data.toList (p + 1) < f')) (HR' : Hid (Tk.scan s.data.toList = Tk.comb (acc ++ [(⟨4, p, (s.data.toList.drop p).take 1, 0⟩ : Tk.Tok)]) (Tk.tl f' (nx s.data.toList (p + 1)) (s.data.toList.drop (nx s.data.toList (p + 1)))))) :
    Code.wp Tryd.prog rbody (Exit.then (fun a' w'' => WI s w a' w'' ∧ Wmu s a' w'' < Wmu s (frame s w.heap.size u) wr) Q0) (frame s w.heap.size u) wr := by
  obtain ⟨i0, hi, hz0, hz1, hz2⟩ := info_parts Tryd.infoTok
  have HSM2 := fun w => small_any s[p] w
  have HDG2 := fun w => digit_any s[p] w
  simp only [h, hL] at HSM2
  simp only [h, hD] at HDG2
  have HSM3 := hide HSM2
  have HDG3 := hide HDG2
  clear HSM2 HDG2 hL hD
  conv => arg 2; whnf
  unfold frame
  go_wp2_with (first | (go_at_call 40; refine (HSM3.out _).mono ?_; rintro e w5 ⟨rfl, hw⟩; subst w5) | (go_at_call 43; refine (HDG3.out _).mono ?_; rintro e w5 ⟨rfl, hw⟩; subst w5) | (at_builtin; (refine wpList_append_own _ rfl _ _ 23 rfl (w.heap.size + 1) 29 i0 (.agg #[.int .i64 0, .int .i64 0, .string ⟨#[]⟩, .int .i64 0]) 4 40 Tryd.underlying23 hi hz0 hz1 hz2 rfl (by decide) _ _ _ rfl (by exact HO.out.alloc _) ⟨wr.heap.size, 0, none⟩ 1 1 [.int .i64 4, .int .i64 p, .string X, .int .i64 0] rfl rfl ?c1 ?c2 ?c3 ?c4 ?c5 ?_)))
  case c1 => exact cells_four_new _ _ (by simp) _ _ _ _ _
  case c2 => intro u hu; simp at hu; rcases hu with rfl | rfl | rfl | rfl <;> rfl
  case c3 => unfold maxLen; omega
  case c4 => omega
  case c5 => simp; omega
  · intro v' w3 hown' hgrow _
    obtain ⟨HO3, HB3⟩ := app_step (⟨4, p, (s.data.toList.drop p).take 1, 0⟩ : Tk.Tok) HO.out HB.out (by omega) (by rw [HXb.out]; exact hown') hgrow
    clear hown' hgrow
    go_wp2
    refine ⟨wi_mk _ _ _ _ rfl ⟨acc ++ [(⟨4, p, (s.data.toList.drop p).take 1, 0⟩ : Tk.Tok)], p + 1, f', by simp; omega, by omega, by show _ = _; go_num, HF', HR', HO3, HB3⟩, ?_⟩
    simp [Wmu, intOf, hu5]
    omega

set_option maxRecDepth 100000 in
set_option maxHeartbeats 4000000 in
theorem r_sign42 (s : ByteArray) (w wr : World) (u : Nat → Value) (acc : List Tk.Tok) (p f' : Nat) (Q0 : Exit → Act → World → Prop) (hs : s.size ≤ 12000) (hz : w.heap.size + 1 ≤ wr.heap.size) (hap : acc.length ≤ p) (hlt : p < s.size) (hu5 : u 5 = .int .i64 p) (X : ByteArray) (h : (s[p].toNat : Int) = 42) (hL : Tk.isL s[p] = false) (hD : Tk.isD s[p] = false) (hX2 : s.extract p (p + 1) = X) (HXb : Hid (bs ((s.data.toList.drop p).take 1) = X))
    (HO : Hid (wr.ownsRow (w.heap.size + 1) 29 4 (u 4) acc.length (tcells acc))) (HB : Hid (Below (w.heap.size + 1) (w.alloc (Obj.cells #[Value.int IntKind.i64 0, Value.int IntKind.i64 0] 25)) wr))
    (HF' : Hid (s.size - nx s.data.toList (p + 1) < f')) (HR' : Hid (Tk.scan s.data.toList = Tk.comb (acc ++ [(⟨4, p, (s.data.toList.drop p).take 1, 0⟩ : Tk.Tok)]) (Tk.tl f' (nx s.data.toList (p + 1)) (s.data.toList.drop (nx s.data.toList (p + 1)))))) :
    Code.wp Tryd.prog rbody (Exit.then (fun a' w'' => WI s w a' w'' ∧ Wmu s a' w'' < Wmu s (frame s w.heap.size u) wr) Q0) (frame s w.heap.size u) wr := by
  obtain ⟨i0, hi, hz0, hz1, hz2⟩ := info_parts Tryd.infoTok
  have HSM2 := fun w => small_any s[p] w
  have HDG2 := fun w => digit_any s[p] w
  simp only [h, hL] at HSM2
  simp only [h, hD] at HDG2
  have HSM3 := hide HSM2
  have HDG3 := hide HDG2
  clear HSM2 HDG2 hL hD
  conv => arg 2; whnf
  unfold frame
  go_wp2_with (first | (go_at_call 40; refine (HSM3.out _).mono ?_; rintro e w5 ⟨rfl, hw⟩; subst w5) | (go_at_call 43; refine (HDG3.out _).mono ?_; rintro e w5 ⟨rfl, hw⟩; subst w5) | (at_builtin; (refine wpList_append_own _ rfl _ _ 23 rfl (w.heap.size + 1) 29 i0 (.agg #[.int .i64 0, .int .i64 0, .string ⟨#[]⟩, .int .i64 0]) 4 40 Tryd.underlying23 hi hz0 hz1 hz2 rfl (by decide) _ _ _ rfl (by exact HO.out.alloc _) ⟨wr.heap.size, 0, none⟩ 1 1 [.int .i64 4, .int .i64 p, .string X, .int .i64 0] rfl rfl ?c1 ?c2 ?c3 ?c4 ?c5 ?_)))
  case c1 => exact cells_four_new _ _ (by simp) _ _ _ _ _
  case c2 => intro u hu; simp at hu; rcases hu with rfl | rfl | rfl | rfl <;> rfl
  case c3 => unfold maxLen; omega
  case c4 => omega
  case c5 => simp; omega
  · intro v' w3 hown' hgrow _
    obtain ⟨HO3, HB3⟩ := app_step (⟨4, p, (s.data.toList.drop p).take 1, 0⟩ : Tk.Tok) HO.out HB.out (by omega) (by rw [HXb.out]; exact hown') hgrow
    clear hown' hgrow
    go_wp2
    refine ⟨wi_mk _ _ _ _ rfl ⟨acc ++ [(⟨4, p, (s.data.toList.drop p).take 1, 0⟩ : Tk.Tok)], p + 1, f', by simp; omega, by omega, by show _ = _; go_num, HF', HR', HO3, HB3⟩, ?_⟩
    simp [Wmu, intOf, hu5]
    omega

set_option maxRecDepth 100000 in
set_option maxHeartbeats 4000000 in
theorem r_sign60 (s : ByteArray) (w wr : World) (u : Nat → Value) (acc : List Tk.Tok) (p f' : Nat) (Q0 : Exit → Act → World → Prop) (hs : s.size ≤ 12000) (hz : w.heap.size + 1 ≤ wr.heap.size) (hap : acc.length ≤ p) (hlt : p < s.size) (hu5 : u 5 = .int .i64 p) (X : ByteArray) (h : (s[p].toNat : Int) = 60) (hL : Tk.isL s[p] = false) (hD : Tk.isD s[p] = false) (hX2 : s.extract p (p + 1) = X) (HXb : Hid (bs ((s.data.toList.drop p).take 1) = X))
    (HO : Hid (wr.ownsRow (w.heap.size + 1) 29 4 (u 4) acc.length (tcells acc))) (HB : Hid (Below (w.heap.size + 1) (w.alloc (Obj.cells #[Value.int IntKind.i64 0, Value.int IntKind.i64 0] 25)) wr))
    (HF' : Hid (s.size - nx s.data.toList (p + 1) < f')) (HR' : Hid (Tk.scan s.data.toList = Tk.comb (acc ++ [(⟨4, p, (s.data.toList.drop p).take 1, 0⟩ : Tk.Tok)]) (Tk.tl f' (nx s.data.toList (p + 1)) (s.data.toList.drop (nx s.data.toList (p + 1)))))) :
    Code.wp Tryd.prog rbody (Exit.then (fun a' w'' => WI s w a' w'' ∧ Wmu s a' w'' < Wmu s (frame s w.heap.size u) wr) Q0) (frame s w.heap.size u) wr := by
  obtain ⟨i0, hi, hz0, hz1, hz2⟩ := info_parts Tryd.infoTok
  have HSM2 := fun w => small_any s[p] w
  have HDG2 := fun w => digit_any s[p] w
  simp only [h, hL] at HSM2
  simp only [h, hD] at HDG2
  have HSM3 := hide HSM2
  have HDG3 := hide HDG2
  clear HSM2 HDG2 hL hD
  conv => arg 2; whnf
  unfold frame
  go_wp2_with (first | (go_at_call 40; refine (HSM3.out _).mono ?_; rintro e w5 ⟨rfl, hw⟩; subst w5) | (go_at_call 43; refine (HDG3.out _).mono ?_; rintro e w5 ⟨rfl, hw⟩; subst w5) | (at_builtin; (refine wpList_append_own _ rfl _ _ 23 rfl (w.heap.size + 1) 29 i0 (.agg #[.int .i64 0, .int .i64 0, .string ⟨#[]⟩, .int .i64 0]) 4 40 Tryd.underlying23 hi hz0 hz1 hz2 rfl (by decide) _ _ _ rfl (by exact HO.out.alloc _) ⟨wr.heap.size, 0, none⟩ 1 1 [.int .i64 4, .int .i64 p, .string X, .int .i64 0] rfl rfl ?c1 ?c2 ?c3 ?c4 ?c5 ?_)))
  case c1 => exact cells_four_new _ _ (by simp) _ _ _ _ _
  case c2 => intro u hu; simp at hu; rcases hu with rfl | rfl | rfl | rfl <;> rfl
  case c3 => unfold maxLen; omega
  case c4 => omega
  case c5 => simp; omega
  · intro v' w3 hown' hgrow _
    obtain ⟨HO3, HB3⟩ := app_step (⟨4, p, (s.data.toList.drop p).take 1, 0⟩ : Tk.Tok) HO.out HB.out (by omega) (by rw [HXb.out]; exact hown') hgrow
    clear hown' hgrow
    go_wp2
    refine ⟨wi_mk _ _ _ _ rfl ⟨acc ++ [(⟨4, p, (s.data.toList.drop p).take 1, 0⟩ : Tk.Tok)], p + 1, f', by simp; omega, by omega, by show _ = _; go_num, HF', HR', HO3, HB3⟩, ?_⟩
    simp [Wmu, intOf, hu5]
    omega
end Go.Proofs.YtdnlnpdaplonfabDoor
