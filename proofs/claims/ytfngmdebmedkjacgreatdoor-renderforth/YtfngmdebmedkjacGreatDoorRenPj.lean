import Derived.Test.YtfngmdebmedkjacGreatDoorRxV
/- Print, walked. -/
namespace Go.Proofs.YtfngmdebmedkjacGreatDoor
open Go.RowKit

/-- What Print answers. -/
def Rn.ptx (n : Nat) (l : List Sx.Tr) : List UInt8 := if (Rn.told n l).1 ≠ 0 then [] else Rn.pt n l

set_option maxRecDepth 100000 in
set_option maxHeartbeats 2000000 in
theorem print_any (n : Nat) (w : World) (P : Nat → Prop) (l : List Sx.Tr) (a : Option Addr) (c : Nat) (hT : Tb w) (h : Sl (RG w P n) w P l (.slice a l.length c)) (hN : Nm n l) :
    Calls Tryz.prog 11 #[.agg #[.slice a l.length c]] w fun e w' => e = .returned (.tuple #[.string (bs (Rn.ptx n l)), .agg #[.int .i64 (Rn.told n l).1, .int .i64 (Rn.told n l).2]]) ∧ Kp [] w w' := by
  have hg : Sl (RG w (fun b => b < w.heap.size) n) w (fun b => b < w.heap.size) l (.slice a l.length c) := h.base (fun b hb _ => hb) (fun d c h => ⟨h.base (fun b hb _ => hb), by obtain ⟨nm, at', ps, body, uP, uB, _, rfl, _⟩ := h; simp⟩)
  clear h
  have HK3 : Hid (Kp [] w (((w.alloc (.cells #[.slice a l.length c] 24)).alloc (.cells #[.int .i64 0, .int .i64 0] 29)).alloc (.cells #[.int .i64 0] 58))) := hide ((((Kp.refl _ _).alloc _).alloc _).alloc _)
  have hsz := hT.size
  have HC := hide (rprogram_any n _ (fun b => b < w.heap.size) l a c (w.heap.size + 1 + 1) (hT.kp HK3.out) (hg.keep HK3.out (by simp) (fun d c h => h.keep HK3.out (by simp))) hN (by omega) (by omega) (by simp [go_sem]) (by simp [go_sem]))
  have HT := hide hT
  have HG := hide hg
  have HN := hide hN
  clear hT hg hN
  by_cases hf : (Rn.pf n l).1 = 0
  · obtain ⟨p1, p2, p3, p4⟩ := Rn.pf_ok hf
    have hpl := Rn.pt_len HG.out HN.out p3 p4
    have HP4 := hide p4
    rw [p1] at HC
    have et : Rn.told n l = if 12000 < (Rn.pt n l).length then (1, -1) else (0, 0) := by unfold Rn.told; rw [if_neg (by rw [hf]; simp)]
    have ET := hide et
    clear et p1 hf p4
    go_enter Tryz.func11, Tryz.ntmps11
    go_wp2_with fail
    refine HC.out.mono ?_
    rintro e w4 ⟨rfl, hk4⟩
    have K4 : Hid (Kp [] w w4) := hide ((Kp.trans (Kp.of_nil HK3.out) hk4).new (by omega))
    have g0 : w4.cell? ⟨w.heap.size, 0, none⟩ = some (.slice a l.length c) := hk4.some (by simp [go_sem]) (by simp; omega)
    have g1 : w4.heap[w.heap.size + 1]? = some (.cells #[.int .i64 0, .int .i64 0] 29 (0, 0)) := by
      rw [hk4.block _ (by simp) (by simp), Below.heap_alloc _ _ _ (by simp)]
      have := heap_alloc_new (w.alloc (.cells #[.slice a l.length c] 24)) (.cells #[.int .i64 0, .int .i64 0] 29)
      simpa using this
    have hb0 := World.block_lt_of_cell? _ _ g0
    have hb1 : w.heap.size + 1 < w4.heap.size := (Array.getElem?_eq_some_iff.1 g1).1
    clear hk4 HC HK3
    go_wp2_with fail
    generalize hW : w4.alloc (.cells #[.int .i64 0, .int .i64 0] 29) = W0
    have hpb : W0.heap.size = w4.heap.size + 1 := by rw [← hW]; simp
    have KW : Hid (Kp [] w W0) := hide (by rw [← hW]; exact K4.out.alloc _)
    have G1 : W0.heap[w.heap.size + 1]? = some (.cells #[.int .i64 0, .int .i64 0] 29 (0, 0)) := by rw [← hW, Below.heap_alloc _ _ _ hb1]; exact g1
    have HS := hide (HG.out.keep KW.out (by simp) (fun d c h => h.keep KW.out (by simp)))
    have HT0 := hide (HT.out.kp KW.out)
    have HP0 : Hid (PG W0 (w4.heap.size + 1) [] 0 (W0.alloc (.cells #[.pointer none, .slice none 0 0, .int .i64 0] 64))) := hide (by have := PG.new W0; rw [hpb] at this; exact this)
    have hcl := Rn.cat_ge (g := Rn.stt n) (fun d => by unfold Rn.stt; simp) l
    clear hW g0 g1 hb0 K4
    have hpl' : (Rn.cat (Rn.stt n) l).length ≤ 100000000000000 := hpl
    go_loopw [18] (fun iv wr => ∃ (i : Nat), i ≤ l.length ∧ iv = .int .i64 i ∧ Hid (PG W0 (w4.heap.size + 1) (Rn.cat (Rn.stt n) (l.take i)) 0 wr)) (fun iv _ => l.length - (intOf iv).toNat)
    case atStart => exact ⟨0, Nat.zero_le _, rfl, HP0⟩
    case round =>
      obtain ⟨i, hi, rfl, HQ⟩ := hrel
      by_cases hlt : i < l.length
      · have d1 : decide ((i : Int) < (l.length : Int)) = true := by simp; omega
        obtain ⟨b, off, nm, at', ps, body, uP, uB, rfl, -, hd, m0, m1, m2, m3, hP, hB⟩ := GL.nth HS.out i hlt
        obtain ⟨aP, cP, rfl, -⟩ := id hP
        obtain ⟨aB, cB, rfl⟩ := hB.slice
        obtain ⟨o1, o2⟩ := HP4.out _ (List.mem_of_getElem? hd)
        have n5 : ps.length ≤ 1000000 := HN.out.ps i _ hd
        have M0 := (HQ.out.kp []).some m0 (by simp)
        have M1 := (HQ.out.kp []).some m1 (by simp)
        have M2 := (HQ.out.kp []).some m2 (by simp)
        have M3 := (HQ.out.kp []).some m3 (by simp)
        have hk0 : (0 : Int) ≤ (i : Int) := by omega
        have hk1 : (i : Int) < (l.length : Int) := by omega
        have e1 := Rn.cat_take (g := Rn.stt n) hd
        have hle := Rn.cat_le (Rn.stt n) l (i + 1)
        rw [e1, List.length_append] at hle
        have E1 := hide e1
        have HX := hide (pStage n W0 (w4.heap.size + 1) _ _ _ nm at' ps body aP aB cP cB (HQ.out.alloc (.cells #[.string (bs nm), .int .i64 at', .slice aP ps.length cP, .slice aB body.length cB] 50)) HT0.out hP hB o2 n5 (by omega))
        clear hP hB o1 o2 n5 m0 m1 m2 m3 hd e1 hle
        go_wp2_with fail
        refine HX.out.mono ?_
        rintro e w6 ⟨rfl, h6, -⟩
        have H6 := hide h6
        clear h6
        go_wp2
        go_roundw
        case rel => exact ⟨i + 1, by omega, by go_num, by rw [E1.out]; exact H6⟩
        case measure => simp [intOf]; omega
      · obtain rfl : i = l.length := by omega
        have d1 : decide ((l.length : Int) < (l.length : Int)) = false := by simp
        rw [List.take_length] at HQ
        change Hid (PG W0 (w4.heap.size + 1) (Rn.pt n l) 0 wr) at HQ
        have HLn := hide (pLen HQ.out)
        have G2 : wr.heap[w.heap.size + 1]? = some (.cells #[.int .i64 0, .int .i64 0] 29 (0, 0)) := ((HQ.out.kp []).block _ (by omega) (by simp)).trans G1
        have y0 : wr.cell? ⟨w.heap.size + 1, 0, none⟩ = some (.int .i64 0) := by rw [Lib.cell_of_heap G2]; rfl
        have y1 : wr.cell? ⟨w.heap.size + 1, 1, none⟩ = some (.int .i64 0) := by rw [Lib.cell_of_heap G2]; rfl
        have f0 := Lib.frozen_of_heap G2 0
        have f1 := Lib.frozen_of_heap G2 1
        by_cases hlg : 12000 < (Rn.pt n l).length
        · have d2 : decide ((12000 : Int) < ((Rn.pt n l).length : Int)) = true := by simp; omega
          have ex : Rn.ptx n l = [] := by unfold Rn.ptx; rw [ET.out, if_pos hlg]; rfl
          go_wp2_with fail
          refine HLn.out.mono ?_
          rintro e w7 ⟨rfl, rfl⟩
          go_wp2
          refine bodyPost_ret (v := .tuple #[.string (bs []), .agg #[.int .i64 1, .int .i64 (-1)]]) (by simp [results, Tryz.results11, go_sem, y0, y1]; rfl) rfl ⟨by rw [ex, ET.out, if_pos hlg], ?_⟩
          exact ((KW.out.trans (HQ.out.kp [])).nb (by omega) _ _).nb (by omega) _ _
        · have d2 : decide ((12000 : Int) < ((Rn.pt n l).length : Int)) = false := by simp; omega
          have ex : Rn.ptx n l = Rn.pt n l := by unfold Rn.ptx; rw [ET.out, if_neg hlg]; rfl
          have hnn : Rn.pt n l ≠ [] := by
            intro e
            have h1 : 0 < l.length := List.length_pos_iff.2 p2
            have h2 : (Rn.cat (Rn.stt n) l) = [] := e
            rw [h2] at hcl
            simp at hcl
            exact p2 hcl
          have HSt := hide (pString HQ.out hnn)
          go_wp2_with fail
          refine HLn.out.mono ?_
          rintro e w7 ⟨rfl, rfl⟩
          go_wp2_with fail
          refine HSt.out.mono ?_
          rintro e w8 ⟨rfl, hb8, hf8⟩
          have G8 := hf8.heap G2 (by omega) (by decide)
          have x0 : w8.cell? ⟨w.heap.size + 1, 0, none⟩ = some (.int .i64 0) := by rw [Lib.cell_of_heap G8]; rfl
          have x1 : w8.cell? ⟨w.heap.size + 1, 1, none⟩ = some (.int .i64 0) := by rw [Lib.cell_of_heap G8]; rfl
          have u0 := Lib.frozen_of_heap G8 0
          have u1 := Lib.frozen_of_heap G8 1
          go_wp2
          refine bodyPost_ret (v := .tuple #[.string (bs (Rn.pt n l)), .agg #[.int .i64 0, .int .i64 0]]) (by simp [results, Tryz.results11, go_sem, x0, x1]) rfl ⟨by rw [ex, ET.out, if_neg hlg], ?_⟩
          exact ((KW.out.trans (Kp.of_below hb8)).nb (by omega) _ _).nb (by omega) _ _
  · have et : Rn.told n l = Rn.pf n l := by unfold Rn.told; rw [if_pos hf]
    have ex : Rn.ptx n l = [] := by unfold Rn.ptx; rw [et, if_pos hf]
    rw [ex, et]
    have q1 : ((Rn.pf n l).1 != 0) = true := by simpa using hf
    clear et ex hf
    generalize Rn.pf n l = F at *
    go_enter Tryz.func11, Tryz.ntmps11
    go_wp2_with fail
    refine HC.out.mono ?_
    rintro e w4 ⟨rfl, hk4⟩
    have K4 : Hid (Kp [] w w4) := hide ((Kp.trans (Kp.of_nil HK3.out) hk4).new (by omega))
    have g1 : w4.heap[w.heap.size + 1]? = some (.cells #[.int .i64 0, .int .i64 0] 29 (0, 0)) := by
      rw [hk4.block _ (by simp) (by simp), Below.heap_alloc _ _ _ (by simp)]
      have := heap_alloc_new (w.alloc (.cells #[.slice a l.length c] 24)) (.cells #[.int .i64 0, .int .i64 0] 29)
      simpa using this
    have hb1 : w.heap.size + 1 < w4.heap.size := (Array.getElem?_eq_some_iff.1 g1).1
    have x0 : w4.cell? ⟨w.heap.size + 1, 0, none⟩ = some (.int .i64 0) := by rw [Lib.cell_of_heap g1]; rfl
    have x1 : w4.cell? ⟨w.heap.size + 1, 1, none⟩ = some (.int .i64 0) := by rw [Lib.cell_of_heap g1]; rfl
    have u0 := Lib.frozen_of_heap g1 0
    have u1 := Lib.frozen_of_heap g1 1
    have hne : ¬ w4.heap.size = w.heap.size + 1 := by omega
    clear hk4 HC HK3
    go_wp2
    go_region
    go_wp2
    refine bodyPost_ret (v := .tuple #[.string (bs []), .agg #[.int .i64 F.1, .int .i64 F.2]]) (by simp [results, Tryz.results11, go_sem, x0, x1, hb1]; rfl) rfl ⟨rfl, ?_⟩
    exact (((K4.out.nb (by omega) _ _).nb (by omega) _ _).alloc _).drew
end Go.Proofs.YtfngmdebmedkjacGreatDoor
