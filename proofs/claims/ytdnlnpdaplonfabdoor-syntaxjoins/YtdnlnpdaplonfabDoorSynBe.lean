import Derived.Test.YtdnlnpdaplonfabDoorSnL
import Derived.Test.YtdnlnpdaplonfabDoorSynCo
/- That the package has begun: a program of one statement. -/
namespace Go.Proofs.YtdnlnpdaplonfabDoor
open Go.RowKit

def bgt : List UInt8 := [115, 116, 97, 103, 101, 32, 97, 40, 41, 32, 123, 32, 101, 109, 105, 116, 32, 49, 32, 45, 32, 50, 32, 45, 32, 51, 59, 32, 125]
def bgE : Sx.Tr := Sx.tE 5 [] 0 [Sx.tE 5 [] 0 [Sx.tE 1 [] 1 [], Sx.tE 1 [] 2 []], Sx.tE 1 [] 3 []]
theorem begun_parsed : Sx.parsed bgt = .inl ([Sx.tG [97] 0 [] [Sx.tS 3 12 [] [] [] 0 [bgE] [] []]], ⟨1, 0, 0, 5⟩, []) := by kernel_rfl

theorem cnt_nil (n : Nat) : Sx.cnt n [] = 0 := by cases n <;> rfl
set_option maxRecDepth 100000 in
set_option maxHeartbeats 1000000 in
theorem sbegun_any (hP : ∀ (s : ByteArray) (w : World), WTab w → s.size ≤ 12000 → Calls Tryd.prog 11 #[.string s] w (Told w [] (Sx.parsed s.data.toList))) (w : World) (hw : WTab w) :
    Calls Tryd.prog 10 #[] w fun e w' => e = .returned (.bool true) ∧ Kp [] w w' := by
  have HP : Hid (∀ w, WTab w → Calls Tryd.prog 11 #[.string ⟨#[115, 116, 97, 103, 101, 32, 97, 40, 41, 32, 123, 32, 101, 109, 105, 116, 32, 49, 32, 45, 32, 50, 32, 45, 32, 51, 59, 32, 125]⟩] w fun e w' => ∃ m a cap, e = .returned (.tuple #[.agg #[.slice a 1 cap], .agg #[.int .i64 0, .int .i64 0]]) ∧ Sl (RG w' (fun b => w.heap.size ≤ b) m) w' (fun b => w.heap.size ≤ b) [Sx.tG [97] 0 [] [Sx.tS 3 12 [] [] [] 0 [bgE] [] []]] (.slice a 1 cap) ∧ Kp [] w w') := fun w hw => by
    have h := hP ⟨#[115, 116, 97, 103, 101, 32, 97, 40, 41, 32, 123, 32, 101, 109, 105, 116, 32, 49, 32, 45, 32, 50, 32, 45, 32, 51, 59, 32, 125]⟩ w hw (by decide)
    rw [show (⟨#[115, 116, 97, 103, 101, 32, 97, 40, 41, 32, 123, 32, 101, 109, 105, 116, 32, 49, 32, 45, 32, 50, 32, 45, 32, 51, 59, 32, 125]⟩ : ByteArray).data.toList = bgt from rfl, begun_parsed] at h
    exact h
  have HW := hide hw
  clear hP hw
  go_enter Tryd.func10, Tryd.ntmps10
  go_wp2_with fail
  refine (HP.out _ HW.out).mono ?_
  rintro e w1 ⟨m, a, cap, rfl, hSl, hk⟩
  obtain ⟨b, off, nm, at', ps, body, uP, uB, rfl, -, hd, -, -, -, m3, -, hB⟩ := GL.nth (l := [Sx.tG [97] 0 [] [Sx.tS 3 12 [] [] [] 0 [bgE] [] []]]) hSl 0 (by simp)
  have hbody : body = [Sx.tS 3 12 [] [] [] 0 [bgE] [] []] := by
    simp [Sx.tG] at hd
    exact hd.2.2.2.symm
  subst hbody
  obtain ⟨aB, cB, rfl⟩ := hB.slice
  obtain ⟨m', rfl⟩ : ∃ m', m = m' + 1 := by
    cases m with
    | zero => cases hB
    | succ m' => exact ⟨m', rfl⟩
  obtain ⟨b2, off2, D, at2, A, B, T, N, E, body2, els, uE, uB2, uL, rfl, -, hd2, n0, -⟩ := hB.nth 0 (by simp)
  have hD : D = 3 := by
    simp [Sx.tS] at hd2
    exact hd2.1.symm
  subst hD
  have hcn : Sx.cntG (m' + 1) [Sx.tG [97] 0 [] [Sx.tS 3 12 [] [] [] 0 [bgE] [] []]] = 1 := by
    simp [Sx.cntG, Sx.sum, Sx.gB, Sx.tG, Sx.cnt, Sx.tS, Sx.sB, Sx.sO, cnt_nil]
  have HC : Hid (∀ w2, Kp [] w1 w2 → Calls Tryd.prog 14 #[.agg #[.slice (some ⟨b, off, none⟩) 1 cap]] w2 fun e w' => e = .returned (.int .i64 1) ∧ Kp [] w2 w') := fun w2 h2 => by
    have := count_any (m' + 1) (countBlock_any _) w2 _ _ _ cap (hSl.keep h2 (by simp) (fun d c h => h.keep h2 (by simp))) (by rw [hcn]; decide) (by decide)
    rw [hcn] at this
    exact this
  have HK := hide hk
  clear hd hd2 hB hSl hcn hk
  have hlt1 := World.block_lt_of_cell? _ _ m3
  have hlt2 := World.block_lt_of_cell? _ _ n0
  simp only [Nat.zero_mul, Nat.add_zero, List.length_cons, List.length_nil, Nat.zero_add] at m3 n0
  go_wp2_with (go_at_call 14; refine (HC.out _ (((Kp.refl [] _).alloc _).alloc _)).mono ?_; rintro e w2 ⟨rfl, hk2⟩; have K2 : Hid (Kp [] w1 w2) := (((Kp.refl [] _).alloc _).alloc _).trans hk2; clear hk2)
  go_ret
  exact ⟨rfl, HK.out.trans K2.out⟩
end Go.Proofs.YtdnlnpdaplonfabDoor
