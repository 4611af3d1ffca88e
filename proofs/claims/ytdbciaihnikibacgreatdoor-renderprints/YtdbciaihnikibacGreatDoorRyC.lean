import Derived.Test.YtdbciaihnikibacGreatDoorRxZ
/- Texts of statements: kind 9. -/
namespace Go.Proofs.YtdbciaihnikibacGreatDoor
open Go.RowKit

set_option linter.unusedSimpArgs false in
set_option maxRecDepth 100000 in
set_option maxHeartbeats 2000000 in
theorem stmtText_9 (n : Nat) : STt n 9 := by
  intro w P at' A B T N E body els aE aB aL cE cB cL k hT hE hB hL hf ob ol hk hwb hwl
  obtain rfl : B = [] := hf.nilB rfl
  obtain ⟨rfl, rfl⟩ := hf.nil rfl
  obtain rfl : E = [] := List.length_eq_zero_iff.1 (hf.one (by decide))
  have qA := Rn.isN_ne (hf.naA rfl)
  have lA := Rn.isN_len (hf.naA rfl)
  have zA : (bs A).size ≤ 12 := by rw [bsz]; exact Rn.isN_len (hf.naA rfl)
  have zk : (bs (Rn.tabs k)).size ≤ 1500000 := by rw [bsz, Rn.tabs, List.length_replicate]; omega
  have e0 : (bs []).toList = [] := bs0
  clear hE hB hL hf ob ol hT
  have ET : Hid (Rn.st1 n k (Sx.tS 9 at' A [] T N [] [] []) = (Rn.tabs k ++ [100, 114, 97, 105, 110] ++ ([32] ++ A)) ++ [59, 10]) := by
    show _ = _
    simp [Rn.st1, Rn.ahead, Rn.hasS, Sx.sH, Sx.sE, Sx.sB, Sx.sO, Sx.tS, Rn.com]
  generalize Rn.st1 n k (Sx.tS 9 at' A [] T N [] [] []) = Z at *
  go_enter Tryz.func63, Tryz.ntmps63
  go_wp2_with fail
  go_loopw [6, 7] (fun ov iv wr => iv = .int .i64 0 ∧ ov = .string (bs (Rn.tabs k ++ [100, 114, 97, 105, 110] ++ ([32] ++ A))) ∧ Hid (Kp [] w wr) ∧ wr.cell? ⟨w.heap.size, 0, none⟩ = some (.int .i64 9) ∧ wr.cell? ⟨w.heap.size, 6, none⟩ = some (.slice aE 0 cE)) (fun _ _ _ => 0)
  case atStart => exact ⟨rfl, by first | rfl | (congr 1; apply ByteArray.ext; simp [bs, Rn.el, Rn.com]; done), ((Kp.refl _ _).alloc _).alloc _, by simp [go_sem], by simp [go_sem]⟩
  case round =>
    obtain ⟨rfl, rfl, HK, u0, u6⟩ := hrel
    have zO : (bs (Rn.tabs k ++ [100, 114, 97, 105, 110] ++ ([32] ++ A))).size ≤ 3000000 := by
      rw [bsz]
      simp only [List.length_append, Rn.tabs, List.length_replicate, List.length_cons, List.length_nil]
      omega
    generalize (Rn.tabs k ++ [100, 114, 97, 105, 110] ++ ([32] ++ A)) = Y at *
    go_wp2
    go_ret
    exact ⟨by rw [ET.out, ← bs_append]; rfl, HK.out⟩
end Go.Proofs.YtdbciaihnikibacGreatDoor


/- Texts of statements: kind 10. -/
namespace Go.Proofs.YtdbciaihnikibacGreatDoor
open Go.RowKit

set_option linter.unusedSimpArgs false in
set_option maxRecDepth 100000 in
set_option maxHeartbeats 2000000 in
theorem stmtText_10 (n : Nat) : STt n 10 := by
  intro w P at' A B T N E body els aE aB aL cE cB cL k hT hE hB hL hf ob ol hk hwb hwl
  obtain rfl : B = [] := hf.nilB rfl
  obtain ⟨rfl, rfl⟩ := hf.nil rfl
  have qA := Rn.isN_ne (hf.naA rfl)
  have lA := Rn.isN_len (hf.naA rfl)
  have zA : (bs A).size ≤ 12 := by rw [bsz]; exact Rn.isN_len (hf.naA rfl)
  have zk : (bs (Rn.tabs k)).size ≤ 1500000 := by rw [bsz, Rn.tabs, List.length_replicate]; omega
  have hE6 := hf.few
  have HEl := hide hE
  have HTt := hide hT
  have HXs := hide hf.xs
  have HPr := hide hf.prt
  have HCf := hide (Rn.com_few hf)
  have e0 : (bs []).toList = [] := bs0
  clear hE hB hL hf ob ol hT
  have ET : Hid (Rn.st1 n k (Sx.tS 10 at' A [] T N E [] []) = (Rn.tabs k ++ [115, 112, 97, 119, 110] ++ ([32] ++ A) ++ [40] ++ Rn.el true (E.map (Rn.xt n 0)) ++ [41]) ++ [59, 10]) := by
    show _ = _
    unfold Rn.el
    simp [Rn.st1, Rn.ahead, Rn.hasS, Sx.sH, Sx.sE, Sx.sB, Sx.sO, Sx.tS, Rn.com]
  generalize Rn.st1 n k (Sx.tS 10 at' A [] T N E [] []) = Z at *
  go_enter Tryz.func63, Tryz.ntmps63
  go_wp2_with fail
  go_loopw [6, 7] (fun ov iv wr => ∃ i : Nat, i ≤ E.length ∧ iv = .int .i64 i ∧ ov = .string (bs (Rn.tabs k ++ [115, 112, 97, 119, 110] ++ ([32] ++ A) ++ [40] ++ Rn.el true ((E.map (Rn.xt n 0)).take i))) ∧ Hid (Kp [] w wr) ∧ wr.cell? ⟨w.heap.size, 0, none⟩ = some (.int .i64 10) ∧ wr.cell? ⟨w.heap.size, 6, none⟩ = some (.slice aE E.length cE) ∧ wr.cell? ⟨w.heap.size, 7, none⟩ = some (.slice aB 0 cB) ∧ wr.cell? ⟨w.heap.size, 8, none⟩ = some (.slice aL 0 cL)) (fun _ iv _ => E.length - (intOf iv).toNat)
  case atStart => exact ⟨0, Nat.zero_le _, rfl, by first | rfl | (congr 1; apply ByteArray.ext; simp [bs, Rn.el, Rn.com]; done), ((Kp.refl _ _).alloc _).alloc _, by simp [go_sem], by simp [go_sem], by simp [go_sem], by simp [go_sem]⟩
  case round =>
    obtain ⟨i, hi, rfl, rfl, HK, u0, u6, u7, u8⟩ := hrel
    have hel := Rn.el_len true ((E.map (Rn.xt n 0)).take i)
    have hcf := HCf.out i
    have zO : (bs (Rn.tabs k ++ [115, 112, 97, 119, 110] ++ ([32] ++ A) ++ [40] ++ Rn.el true ((E.map (Rn.xt n 0)).take i))).size ≤ 3000000 := by
      rw [bsz]
      simp only [List.length_append, Rn.tabs, List.length_replicate, List.length_cons, List.length_nil]
      omega
    clear hel hcf
    by_cases hlt : i < E.length
    · have d1 : decide ((i : Int) < (E.length : Int)) = true := by simp; omega
      cases n with
      | zero => cases HEl.out
      | succ n =>
        obtain ⟨b, off, op1, nm1, z1, L1, aL1, cL1, rfl, -, hd1, m0, m1, m2, m3, hL1⟩ := (HEl.out.keep HK.out (by simp)).nth i hlt
        have f1 := HXs.out i _ hd1
        have p1 := HPr.out i _ hd1
        have HX := hide (exprText_any n wr P op1 z1 nm1 L1 aL1 cL1 0 (HTt.out.kp HK.out) hL1 f1 (by omega) (by omega))
        change Hid (Calls _ _ #[_, .int .i64 0] _ _) at HX
        have hm : (E.map (Rn.xt (n + 1) 0))[i]? = some (Rn.xt (n + 1) 0 (Sx.tE op1 nm1 z1 L1)) := by rw [List.getElem?_map, hd1]; rfl
        have e1 := Rn.el_take (sp := true) hm
        generalize hO : (Rn.tabs k ++ [115, 112, 97, 119, 110] ++ ([32] ++ A) ++ [40] ++ Rn.el true ((E.map (Rn.xt (n + 1) 0)).take i)) = O at *
        have E1 : Hid (Rn.tabs k ++ [115, 112, 97, 119, 110] ++ ([32] ++ A) ++ [40] ++ Rn.el true ((E.map (Rn.xt (n + 1) 0)).take (i + 1)) = O ++ ((if i = 0 then [] else [44]) ++ (if i = 0 ∧ true = true then [] else [32]) ++ Rn.xt (n + 1) 0 (Sx.tE op1 nm1 z1 L1))) := hide (by rw [e1, ← hO]; simp only [List.append_assoc])
        clear e1 hO
        have hxl := Rn.xt_len (n + 1) 0 _ f1
        have zX : (bs (Rn.xt (n + 1) 0 (Sx.tE op1 nm1 z1 L1))).size ≤ 600 := by rw [bsz]; omega
        have hk0 : (0 : Int) ≤ (i : Int) := by omega
        have hk1 : (i : Int) < (E.length : Int) := by omega
        clear hd1 hL1 f1 p1 hm hxl
        generalize Rn.xt (n + 1) 0 (Sx.tE op1 nm1 z1 L1) = X1 at *
        by_cases h0 : i = 0
        · subst h0
          rw [Nat.zero_mul, Nat.add_zero] at m0 m1 m2 m3
          go_wp2_with fail
          refine HX.out.mono ?_
          rintro e w3 ⟨rfl, hk3⟩
          have K3 := hide (HK.out.trans hk3)
          have v0 := hk3.some u0 (by simp)
          have v6 := hk3.some u6 (by simp)
          have v7 := hk3.some u7 (by simp)
          have v8 := hk3.some u8 (by simp)
          clear hk3
          go_wp2
          go_roundw
          case rel => exact ⟨1, by omega, by go_num, by rw [E1.out]; first | (congr 1; done) | (congr 1; apply ByteArray.ext; simp [bs]; done), K3.out, v0, v6, v7, v8⟩
          case measure => first | (simp [intOf]; done) | (simp [intOf]; omega)
        · have d2 : decide ((0 : Int) < (i : Int)) = true := decide_eq_true (by omega)
          go_wp2_with fail
          refine HX.out.mono ?_
          rintro e w3 ⟨rfl, hk3⟩
          have K3 := hide (HK.out.trans hk3)
          have v0 := hk3.some u0 (by simp)
          have v6 := hk3.some u6 (by simp)
          have v7 := hk3.some u7 (by simp)
          have v8 := hk3.some u8 (by simp)
          clear hk3
          go_wp2
          go_roundw
          case rel => exact ⟨i + 1, by omega, by go_num, by rw [E1.out]; first | (congr 1; done) | (congr 1; apply ByteArray.ext; simp [bs, h0]; done), K3.out, v0, v6, v7, v8⟩
          case measure => first | (simp [intOf]; done) | (simp [intOf]; omega)
    · obtain rfl : i = E.length := by omega
      have d1 : decide ((E.length : Int) < (E.length : Int)) = false := by simp
      rw [List.take_of_length_le (by simp)] at zO ⊢
      generalize (Rn.tabs k ++ [115, 112, 97, 119, 110] ++ ([32] ++ A) ++ [40] ++ Rn.el true (E.map (Rn.xt n 0))) = Y at *
      go_wp2
      go_ret
      exact ⟨by rw [ET.out, ← bs_append, ← bs_append]; rfl, HK.out⟩
end Go.Proofs.YtdbciaihnikibacGreatDoor


/- Texts of statements: kind 11. -/
namespace Go.Proofs.YtdbciaihnikibacGreatDoor
open Go.RowKit

set_option linter.unusedSimpArgs false in
set_option maxRecDepth 100000 in
set_option maxHeartbeats 2000000 in
theorem stmtText_11 (n : Nat) (ih : BTt n) : STt n 11 := by
  intro w P at' A B T N E body els aE aB aL cE cB cL k hT hE hB hL hf ob ol hk hwb hwl
  obtain rfl : E = [] := List.length_eq_zero_iff.1 (hf.one (by decide))
  have qA := Rn.isN_ne (hf.naA rfl)
  have lA := Rn.isN_len (hf.naA rfl)
  have zA : (bs A).size ≤ 12 := by rw [bsz]; exact Rn.isN_len (hf.naA rfl)
  have qB := Rn.isN_ne (hf.naB rfl)
  have lB := Rn.isN_len (hf.naB rfl)
  have zB : (bs B).size ≤ 12 := by rw [bsz]; exact Rn.isN_len (hf.naB rfl)
  have zk : (bs (Rn.tabs k)).size ≤ 1500000 := by rw [bsz, Rn.tabs, List.length_replicate]; omega
  have hbb := Rn.blt_small hB ob hk hwb
  have zb : (bs ([32] ++ Rn.blt n k body)).size ≤ 5000000000001 := by rw [bsz, List.length_append]; simp; omega
  have HBt := hide (fun W (hk' : Kp [] w W) => ih W P body aB cB k (hT.kp hk') (hB.keep hk' (by simp)) ob hk hwb)
  have hbl := Rn.blt_small hL ol hk hwl
  have zl : (bs ([32] ++ Rn.blt n k els)).size ≤ 5000000000001 := by rw [bsz, List.length_append]; simp; omega
  have HLt := hide (fun W (hk' : Kp [] w W) => ih W P els aL cL k (hT.kp hk') (hL.keep hk' (by simp)) ol hk hwl)
  have e0 : (bs []).toList = [] := bs0
  clear hE hB hL hf ob ol hT ih hbb hbl
  have ET : Hid (Rn.st1 n k (Sx.tS 11 at' A B T N [] body els) = (Rn.tabs k ++ [116, 97, 107, 101] ++ ([32] ++ A) ++ [32, 102, 114, 111, 109] ++ ([32] ++ B)) ++ ([32] ++ Rn.blt n k body) ++ (if els.isEmpty then [] else [32, 101, 108, 115, 101] ++ ([32] ++ Rn.blt n k els)) ++ [10]) := by
    show _ = _
    cases els with
    | nil => simp [Rn.st1, Rn.ahead, Rn.hasS, Sx.sH, Sx.sE, Sx.sB, Sx.sO, Sx.tS, Rn.com]
    | cons d r => simp [Rn.st1, Rn.ahead, Rn.hasS, Sx.sH, Sx.sE, Sx.sB, Sx.sO, Sx.tS, Rn.com]
  generalize Rn.st1 n k (Sx.tS 11 at' A B T N [] body els) = Z at *
  generalize [32] ++ Rn.blt n k body = BB at *
  generalize [32] ++ Rn.blt n k els = BL at *
  go_enter Tryz.func63, Tryz.ntmps63
  go_wp2_with fail
  go_loopw [6, 7] (fun ov iv wr => iv = .int .i64 0 ∧ ov = .string (bs (Rn.tabs k ++ [116, 97, 107, 101] ++ ([32] ++ A) ++ [32, 102, 114, 111, 109] ++ ([32] ++ B))) ∧ Hid (Kp [] w wr) ∧ wr.cell? ⟨w.heap.size, 0, none⟩ = some (.int .i64 11) ∧ wr.cell? ⟨w.heap.size, 6, none⟩ = some (.slice aE 0 cE) ∧ wr.cell? ⟨w.heap.size, 7, none⟩ = some (.slice aB body.length cB) ∧ wr.cell? ⟨w.heap.size, 8, none⟩ = some (.slice aL els.length cL)) (fun _ _ _ => 0)
  case atStart => exact ⟨rfl, by first | rfl | (congr 1; apply ByteArray.ext; simp [bs, Rn.el, Rn.com]; done), ((Kp.refl _ _).alloc _).alloc _, by simp [go_sem], by simp [go_sem], by simp [go_sem], by simp [go_sem]⟩
  case round =>
    obtain ⟨rfl, rfl, HK, u0, u6, u7, u8⟩ := hrel
    have zO : (bs (Rn.tabs k ++ [116, 97, 107, 101] ++ ([32] ++ A) ++ [32, 102, 114, 111, 109] ++ ([32] ++ B))).size ≤ 3000000 := by
      rw [bsz]
      simp only [List.length_append, Rn.tabs, List.length_replicate, List.length_cons, List.length_nil]
      omega
    generalize (Rn.tabs k ++ [116, 97, 107, 101] ++ ([32] ++ A) ++ [32, 102, 114, 111, 109] ++ ([32] ++ B)) = Y at *
    go_wp2_with fail
    refine (HBt.out _ HK.out).mono ?_
    rintro e w4 ⟨rfl, hk4⟩
    have K4 := hide (HK.out.trans hk4)
    have x8 := hk4.some u8 (by simp)
    clear hk4
    cases els with
    | nil =>
      go_wp2
      go_ret
      have ET' : Hid (Z = Y ++ BB ++ [10]) := hide (ET.out.trans (by simp))
      exact ⟨by rw [ET'.out, ← bs_append, ← bs_append]; rfl, K4.out⟩
    | cons dd rr =>
      have d8 : decide ((0 : Int) < (((dd :: rr).length : Nat) : Int)) = true := decide_eq_true (by simp)
      go_wp2_with fail
      refine (HLt.out _ K4.out).mono ?_
      rintro e w5 ⟨rfl, hk5⟩
      have K5 := hide (K4.out.trans hk5)
      clear hk5
      go_wp2
      go_ret
      exact ⟨by rw [ET.out, if_neg (by simp), ← bs_append, ← bs_append, ← bs_append, ← bs_append]; rfl, K5.out⟩
end Go.Proofs.YtdbciaihnikibacGreatDoor
