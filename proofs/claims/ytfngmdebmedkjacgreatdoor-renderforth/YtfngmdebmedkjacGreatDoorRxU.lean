import Derived.Test.YtfngmdebmedkjacGreatDoorRxT
import Derived.Test.YtfngmdebmedkjacGreatDoorRxH
/- A page: blocks, walked. -/
namespace Go.Proofs.YtfngmdebmedkjacGreatDoor
open Go.RowKit

theorem Rn.cat_take {g : Sx.Tr → List UInt8} {l : List Sx.Tr} {i : Nat} {d : Sx.Tr} (h : l[i]? = some d) : Rn.cat g (l.take (i + 1)) = Rn.cat g (l.take i) ++ g d := by
  rw [List.take_add_one, h, Rn.cat_append]
  simp [Rn.cat]
theorem Rn.cat_le (g : Sx.Tr → List UInt8) (l : List Sx.Tr) (i : Nat) : (Rn.cat g (l.take i)).length ≤ (Rn.cat g l).length := by
  have := congrArg List.length (congrArg (Rn.cat g) (List.take_append_drop i l))
  rw [Rn.cat_append, List.length_append] at this
  omega
theorem Rn.cat_ge {g : Sx.Tr → List UInt8} (hg : ∀ d, 1 ≤ (g d).length) (l : List Sx.Tr) : l.length ≤ (Rn.cat g l).length := by
  induction l with
  | nil => simp
  | cons d r ih =>
    have := hg d
    simp only [Rn.cat, List.length_append, List.length_cons]
    omega
theorem Rn.st1_pos (n k : Nat) (t : Sx.Tr) : 1 ≤ (Rn.st1 n k t).length := by
  unfold Rn.st1
  rw [List.length_append]
  simp
theorem PG.up {w0 w : World} {pb k : Nat} {x : List UInt8} (h : PG w0 pb x k w) : PG w0 pb x (k + 1) (w.setCell ⟨pb, 2, none⟩ (.int .i64 ((k : Int) + 1))) := h.deep (k' := k + 1)

set_option maxRecDepth 100000 in
set_option maxHeartbeats 1000000 in
theorem pBlock_step (n : Nat) (ih : BPt n) : BPt (n + 1) := by
  intro w0 pb k x w P l a c h hT hS hb hlen
  rw [Rn.blt_st] at hlen ⊢
  have HE := hide (Rn.okB_each hb)
  have hcg := Rn.cat_ge (Rn.st1_pos n (k + 1)) l
  simp only [List.length_append, Rn.tabs, List.length_replicate] at hlen
  have hk9 : k ≤ 140737488355328 := by omega
  have hl9 : l.length ≤ 140737488355328 := by omega
  have H := hide h
  have HT := hide hT
  have HS := hide hS
  have IH := hide (pStmt n ih)
  have HC := hide (pAdd [[123, 10]] (some ⟨w.heap.size, 0, none⟩) 1 (h.alloc _) (TX.new [[123, 10]] w h.lt) (by simp at hlen ⊢; omega) (by simp))
  have HL := h.lt
  clear h hT hS hb ih
  go_enter Tryz.func58, Tryz.ntmps58
  go_wp2_with fail
  refine HC.out.mono ?_
  rintro e w2 ⟨rfl, h2, hf2⟩
  have H2 : Hid (PG w0 pb (x ++ [123, 10]) k w2) := hide (by simpa using h2)
  have F2 := hide (((Fr.refl pb w).alloc _).trans hf2)
  have b2 := H2.out.blocks
  have z2 := H2.out.loose 2
  clear h2 hf2 HC
  go_wp2_with fail
  go_loopw [18] (fun iv wr => ∃ (i : Nat), i ≤ l.length ∧ iv = .int .i64 i ∧ Hid (PG w0 pb (x ++ [123, 10] ++ Rn.cat (Rn.st1 n (k + 1)) (l.take i)) (k + 1) wr) ∧ Hid (Fr pb w wr)) (fun iv _ => l.length - (intOf iv).toNat)
  case atStart => exact ⟨0, Nat.zero_le _, rfl, hide (by have := H2.out.up; simpa [Rn.cat] using this), F2.out.page _ _⟩
  case round =>
    obtain ⟨i, hi, rfl, HP, HF⟩ := hrel
    by_cases hlt : i < l.length
    · have d1 : decide ((i : Int) < (l.length : Int)) = true := by simp; omega
      obtain ⟨b, off, D, at', A, B, T, N, E, body, els, uE, uB, uL, rfl, _, hd, m0, m1, m2, m3, m4, m5, m6, m7, m8, hE, hB, hL⟩ := HS.out.nth i hlt
      obtain ⟨aE, cE, rfl⟩ := hE.slice
      obtain ⟨aB, cB, rfl⟩ := hB.slice
      obtain ⟨aL, cL, rfl⟩ := hL.slice
      obtain ⟨⟨deep, o1⟩, o2, o3⟩ := HE.out _ (List.mem_of_getElem? hd)
      have M0 := (HP.out.kp []).some m0 (by simp)
      have M1 := (HP.out.kp []).some m1 (by simp)
      have M2 := (HP.out.kp []).some m2 (by simp)
      have M3 := (HP.out.kp []).some m3 (by simp)
      have M4 := (HP.out.kp []).some m4 (by simp)
      have M5 := (HP.out.kp []).some m5 (by simp)
      have M6 := (HP.out.kp []).some m6 (by simp)
      have M7 := (HP.out.kp []).some m7 (by simp)
      have M8 := (HP.out.kp []).some m8 (by simp)
      have hk0 : (0 : Int) ≤ (i : Int) := by omega
      have hk1 : (i : Int) < (l.length : Int) := by omega
      have e1 := Rn.cat_take (g := Rn.st1 n (k + 1)) hd
      have hle := Rn.cat_le (Rn.st1 n (k + 1)) l (i + 1)
      rw [e1, List.length_append] at hle
      have E1 := hide e1
      have HX := hide (IH.out w0 pb (k + 1) _ _ P D at' A B T N E body els aE aB aL cE cB cL (HP.out.alloc (.cells #[.int .i64 D, .int .i64 at', .string (bs A), .string (bs B), .string (bs T), .int .i64 N, .slice aE E.length cE, .slice aB body.length cB, .slice aL els.length cL] 97)) HT.out hE hB hL (Rn.okf o1) o2 o3 (by simp only [List.length_append, List.length_cons, List.length_nil] at hlen ⊢; omega))
      clear hE hB hL o1 o2 o3 m0 m1 m2 m3 m4 m5 m6 m7 m8 e1 hle hd
      go_wp2_with fail
      refine HX.out.mono ?_
      rintro e w4 ⟨rfl, h4, hf4⟩
      have H4 := hide h4
      have F4 := hide (HF.out.trans (((Fr.refl pb wr).alloc _).trans hf4))
      clear h4 hf4 HX
      go_wp2
      go_roundw
      case rel => exact ⟨i + 1, by omega, by go_num, by rw [E1.out, ← List.append_assoc]; exact H4, F4⟩
      case measure => simp [intOf]; omega
    · obtain rfl : i = l.length := by omega
      have d1 : decide ((l.length : Int) < (l.length : Int)) = false := by simp
      rw [List.take_length] at HP
      have b3 := HP.out.blocks
      have z3 := HP.out.loose 2
      have H5 := hide (HP.out.deep (k' := k))
      have HC := hide (pBegin [[125]] (some ⟨(wr.setCell ⟨pb, 2, none⟩ (.int .i64 k)).heap.size, 0, none⟩) 1 (H5.out.alloc _) (TX.new [[125]] _ H5.out.lt) (by simp only [List.length_append, List.length_cons, List.length_nil, List.flatten_cons, List.flatten_nil] at hlen ⊢; omega) (by simp))
      rw [show (wr.setCell ⟨pb, 2, none⟩ (.int .i64 k)).heap.size = wr.heap.size from by simp [World.setCell]] at HC
      go_wp2_with fail
      refine HC.out.mono ?_
      rintro e w4 ⟨rfl, h4, hf4⟩
      go_wp2
      go_end0
      exact ⟨rfl, by simpa [Rn.tabs] using h4, (HF.out.page _ _).trans (((Fr.refl _ _).alloc _).trans hf4)⟩
theorem pBlock_any (n : Nat) : BPt n := by
  induction n with
  | zero => intro w0 pb k x w P l a c _ _ hS; cases hS
  | succ n ih => exact pBlock_step n ih
end Go.Proofs.YtfngmdebmedkjacGreatDoor


/- A page: stages; and what was written, as a text. -/
namespace Go.Proofs.YtfngmdebmedkjacGreatDoor
open Go.RowKit

/-- A parameter as a text. -/
def Rn.par1 (p : Sx.Tr) : List UInt8 := (Sx.pH p).1 ++ [32] ++ Rn.tyw (Sx.pH p).2
theorem Rn.stt_is (n : Nat) (nm : List UInt8) (at' : Int) (ps body : List Sx.Tr) : Rn.stt n (Sx.tG nm at' ps body) = [115, 116, 97, 103, 101, 32] ++ nm ++ [40] ++ Rn.com (ps.map Rn.par1) ++ [41, 32] ++ Rn.blt n 0 body ++ [10] := rfl
set_option maxRecDepth 100000 in
set_option maxHeartbeats 1000000 in
theorem pStage (n : Nat) (w0 : World) (pb : Nat) (x : List UInt8) (w : World) (P : Nat → Prop) (nm : List UInt8) (at' : Int) (ps body : List Sx.Tr) (aP aB : Option Addr) (cP cB : Nat) (h : PG w0 pb x 0 w) (hT : Tb w0) (hP : Sl RP w0 P ps (.slice aP ps.length cP)) (hB : SL w0 P n body (.slice aB body.length cB)) (ob : Rn.okB n body) (hps : ps.length ≤ 1000000)
    (hlen : x.length + (Rn.stt n (Sx.tG nm at' ps body)).length ≤ 140737488355328) :
    Calls Tryz.prog 28 #[.pointer (some ⟨pb, 0, none⟩), .agg #[.string (bs nm), .int .i64 at', .slice aP ps.length cP, .slice aB body.length cB]] w fun e w' => e = .returned (.tuple #[]) ∧ PG w0 pb (x ++ Rn.stt n (Sx.tG nm at' ps body)) 0 w' ∧ Fr pb w w' := by
  rw [Rn.stt_is] at hlen ⊢
  simp only [List.length_append] at hlen
  have H := hide h
  have HP := hide hP
  have HB := hide (fun W y (hp : PG w0 pb y 0 W) => pBlock_any n w0 pb 0 y W P body aB cB hp hT hB ob)
  have HL := h.lt
  have HC := hide (pBegin [[115, 116, 97, 103, 101, 32], nm, [40]] (some ⟨w.heap.size + 1, 0, none⟩) 3 ((h.alloc (.cells #[.string (bs nm), .int .i64 at', .slice aP ps.length cP, .slice aB body.length cB] 50)).alloc _) (TX.new' [[115, 116, 97, 103, 101, 32], nm, [40]] _ _ (by simp) (h.alloc _).lt) (by simp at hlen ⊢; omega) (by simp))
  clear h hT hP hB ob
  generalize Rn.blt n 0 body = X at *
  go_enter Tryz.func28, Tryz.ntmps28
  go_wp2_with fail
  refine HC.out.mono ?_
  rintro e w2 ⟨rfl, h2, hf2⟩
  have H2 : Hid (PG w0 pb (x ++ ([115, 116, 97, 103, 101, 32] ++ nm ++ [40])) 0 w2) := hide (by simpa [Rn.tabs] using h2)
  have F2 := hide ((((Fr.refl pb w).alloc _).alloc _).trans hf2)
  have G2 : w2.heap[w.heap.size]? = some (.cells #[.string (bs nm), .int .i64 at', .slice aP ps.length cP, .slice aB body.length cB] 50 (0, 0)) := hf2.heap (by rw [Below.heap_alloc _ _ _ (by simp)]; exact heap_alloc_new w _) (by omega) (by decide)
  have g22 : w2.cell? ⟨w.heap.size, 2, none⟩ = some (.slice aP ps.length cP) := by rw [Lib.cell_of_heap G2]; rfl
  clear h2 hf2 HC
  go_wp2_with fail
  go_loopw [14] (fun iv wr => ∃ (i : Nat), i ≤ ps.length ∧ iv = .int .i64 i ∧ Hid (PG w0 pb (x ++ ([115, 116, 97, 103, 101, 32] ++ nm ++ [40]) ++ Rn.com ((ps.map Rn.par1).take i)) 0 wr) ∧ Hid (Fr pb w2 wr)) (fun iv _ => ps.length - (intOf iv).toNat)
  case atStart => exact ⟨0, Nat.zero_le _, rfl, hide (by simpa [Rn.com] using H2.out), Fr.refl _ _⟩
  case round =>
    obtain ⟨i, hi, rfl, HQ, HF⟩ := hrel
    have HLr := HQ.out.lt
    by_cases hlt : i < ps.length
    · have d1 : decide ((i : Int) < (ps.length : Int)) = true := by simp; omega
      obtain ⟨b, off, pn, pT, rfl, hd, m0, m1⟩ := HP.out.nth' i hlt
      have hk0 : (0 : Int) ≤ (i : Int) := by omega
      have hk1 : (i : Int) < (ps.length : Int) := by omega
      have M0 := (HQ.out.kp []).some m0 (by simp)
      have M1 := (HQ.out.kp []).some m1 (by simp)
      have hm : (ps.map Rn.par1)[i]? = some (pn ++ [32] ++ Rn.tyw pT) := by rw [List.getElem?_map, hd]; rfl
      have e1 := Rn.com_take hm
      have e2 := Rn.com_take_le (ps.map Rn.par1) (i + 1)
      rw [e1, List.length_append, List.length_append, List.length_append, List.length_append] at e2
      have HC := hide (pComma i (HQ.out.alloc (.cells #[.string (bs pn), .string (bs pT)] 51)) (by simp only [List.length_append] at hlen ⊢; omega))
      have E1 := hide e1
      clear e1 hd hm m0 m1
      generalize (if i = 0 then [] else [44, 32] : List UInt8) = q at *
      generalize Rn.com ((ps.map Rn.par1).take i) = Y at *
      go_wp2_with fail
      refine HC.out.mono ?_
      rintro e w3 ⟨rfl, h3, hf3⟩
      have G3 : w3.heap[wr.heap.size]? = some (.cells #[.string (bs pn), .string (bs pT)] 51 (0, 0)) := hf3.heap (heap_alloc_new wr _) (by omega) (by decide)
      have F3 := hide (HF.out.trans (((Fr.refl pb wr).alloc _).trans hf3))
      have H3 := hide h3
      clear h3 hf3 HC
      have g0 : w3.cell? ⟨wr.heap.size, 0, none⟩ = some (.string (bs pn)) := by rw [Lib.cell_of_heap G3]; rfl
      have HC := hide (pAdd [pn, [32]] (some ⟨w3.heap.size, 0, none⟩) 2 (H3.out.alloc _) (TX.new [pn, [32]] w3 H3.out.lt) (by simp at hlen e2 ⊢; omega) (by simp))
      go_wp2_with fail
      refine HC.out.mono ?_
      rintro e w4 ⟨rfl, h4, hf4⟩
      have F4' := hide (((Fr.refl pb w3).alloc _).trans hf4)
      have G4 := F4'.out.heap G3 (by omega) (by decide)
      have F4 := hide (F3.out.trans F4'.out)
      have H4 : Hid (PG w0 pb (x ++ ([115, 116, 97, 103, 101, 32] ++ nm ++ [40]) ++ Y ++ q ++ (pn ++ [32])) 0 w4) := hide (by simpa using h4)
      clear h4 hf4 HC F4'
      have g1 : w4.cell? ⟨wr.heap.size, 1, none⟩ = some (.string (bs pT)) := by rw [Lib.cell_of_heap G4]; rfl
      go_wp2_with fail
      refine (pTypeWords pT H4.out (by simp at hlen e2 ⊢; omega)).mono ?_
      rintro e w5 ⟨rfl, h5, hf5⟩
      have H5 := hide h5
      have F5 := hide (F4.out.trans hf5)
      clear h5 hf5
      go_wp2
      go_roundw
      case rel => exact ⟨i + 1, by omega, by go_num, hide (by rw [E1.out]; simpa using H5.out), F5⟩
      case measure => simp [intOf]; omega
    · obtain rfl : i = ps.length := by omega
      have d1 : decide ((ps.length : Int) < (ps.length : Int)) = false := by simp
      rw [List.take_of_length_le (by simp)] at HQ
      have G3 := HF.out.heap G2 (by omega) (by decide)
      have HC := hide (pAdd [[41, 32]] (some ⟨wr.heap.size, 0, none⟩) 1 (HQ.out.alloc _) (TX.new [[41, 32]] wr HQ.out.lt) (by simp at hlen ⊢; omega) (by simp))
      go_wp2_with fail
      refine HC.out.mono ?_
      rintro e w3 ⟨rfl, h3, hf3⟩
      have F3' := hide (((Fr.refl pb wr).alloc _).trans hf3)
      have G4 := F3'.out.heap G3 (by omega) (by decide)
      have F3 := hide (HF.out.trans F3'.out)
      have H3 := hide h3
      clear h3 hf3 F3' HC
      have g3 : w3.cell? ⟨w.heap.size, 3, none⟩ = some (.slice aB body.length cB) := by rw [Lib.cell_of_heap G4]; rfl
      go_wp2_with fail
      refine (HB.out _ _ H3.out (by simp at hlen ⊢; omega)).mono ?_
      rintro e w4 ⟨rfl, h4, hf4⟩
      have H4 := hide h4
      have F4 := hide (F3.out.trans hf4)
      clear h4 hf4
      have HC := hide (pAdd [[10]] (some ⟨w4.heap.size, 0, none⟩) 1 (H4.out.alloc _) (TX.new [[10]] w4 H4.out.lt) (by simp at hlen ⊢; omega) (by simp))
      go_wp2_with fail
      refine HC.out.mono ?_
      rintro e w5 ⟨rfl, h5, hf5⟩
      go_wp2
      go_end0
      exact ⟨rfl, by simpa using h5, F2.out.trans (F4.out.trans (((Fr.refl _ _).alloc _).trans hf5))⟩
set_option maxHeartbeats 1000000 in
set_option maxRecDepth 100000 in
theorem pString {w0 w : World} {pb k : Nat} {x : List UInt8} (h : PG w0 pb x k w) (h0 : x ≠ []) :
    Calls Tryz.prog 30 #[.pointer (some ⟨pb, 0, none⟩)] w fun e w' => e = .returned (.string (bs x)) ∧ Below w0.heap.size w0 w' ∧ Fr pb w w' := by
  obtain ⟨p, v, hp, hbk, hown, hne⟩ := h.is
  have hl0 : x.length ≠ 0 := by simpa using h0
  obtain ⟨g, cap, cur, rfl, hbg, hg, hnc, hcm, hcs, htake⟩ : ∃ g cap cur, v = .slice (some ⟨g, 0, none⟩) x.length cap ∧ w0.heap.size ≤ g ∧ w.heap[g]? = some (.cells cur 5 (0, 0)) ∧ x.length ≤ cap ∧ cap ≤ maxLen ∧ cur.size = cap * 1 ∧ cur.toList.take (x.length * 1) = Lib.byteCells x := by
    rcases hown.2 with ⟨_, hz⟩ | ⟨g, cap, cur, hv, r⟩
    · exact absurd hz hl0
    · exact ⟨g, cap, cur, hv, r⟩
  have c1 : w.drew.cell? ⟨pb, 1, none⟩ = some (.slice (some ⟨g, 0, none⟩) x.length cap) := by
    have : w.drew.heap[pb]? = _ := hbk
    rw [Lib.cell_of_heap this]; rfl
  have hSD : (Builtin.unsafeSliceData_ #[60] 111 #[.slice (some ⟨g, 0, none⟩) x.length cap]).run Tryz.prog w.drew = .ok (.pointer (some ⟨g, 0, none⟩)) w.drew :=
    Lib.run_unsafeSliceData_row _ _ _ _ _ _ (by omega)
  have hUS : (Builtin.unsafeString_ #[111, 3] 9 #[.pointer (some ⟨g, 0, none⟩), .int .i64 x.length]).run Tryz.prog w.drew = .ok (.string (bs x)) (w.drew.freeze ⟨g, 0, none⟩ x.length) := by
    refine Lib.run_unsafeString_row w.drew 111 3 9 5 Tryz.underlying111 Tryz.cellsByte g cur.size (by have hg' : w.drew.heap[g]? = some (.cells cur 5 (0, 0)) := hg; simp [World.shape?, hg']) x h0 (by omega) (by unfold maxLen at hcm; omega) ?_
    intro j u hu
    exact hown.cells (g := g) rfl j (.int .u8 u.toNat) (by simp [Lib.byteCells, hu])
  have HB := hide h.below
  clear h hp hown hne htake hcs hnc hcm
  go_enter Tryz.func30, Tryz.ntmps30
  go_wp2
  go_region
  all_goals (go_wp2; go_ret; exact ⟨rfl, Lib.below_freeze (Below.drew HB.out) (p := ⟨g, 0, none⟩) hbg _, Lib.OthersKept.freeze (Lib.OthersKept.drew (Fr.refl pb w)) ⟨g, 0, none⟩ _ ⟨cur, (0, 0), hg⟩⟩)
end Go.Proofs.YtfngmdebmedkjacGreatDoor
