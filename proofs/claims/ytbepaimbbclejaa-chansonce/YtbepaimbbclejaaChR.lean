import Derived.Test.YtbepaimbbclejaaChOp
import Derived.Test.YtbepaimbbclejaaChF
import Derived.Deep.RegionHeld3
import Derived.Deep.LoopGhost
/- The document's book: Chans. -/
namespace Go.Proofs.Ytbepaimbbclejaa
open Go.RowKit

theorem Try.infoCv : (Try.prog.info? 54).map (fun i => (i.zero, i.size, i.bytes)) = some (some (.agg #[.int .i64 0, .int .i64 0, .bool false, .slice none 0 0]), 4, 48) := by kernel_rfl
/-- Channels as cells. -/
def qcl (Q : List (Int × Int × Bool × Value)) : List Value := Q.flatMap fun x => [.int .i64 x.1, .int .i64 x.2.1, .bool x.2.2.1, x.2.2.2]
theorem qcl_app (A B : List (Int × Int × Bool × Value)) : qcl (A ++ B) = qcl A ++ qcl B := by simp [qcl]
theorem qcl_cons (x : Int × Int × Bool × Value) (L : List (Int × Int × Bool × Value)) : qcl (x :: L) = .int .i64 x.1 :: .int .i64 x.2.1 :: .bool x.2.2.1 :: x.2.2.2 :: qcl L := rfl
theorem qcl_at (L : List (Int × Int × Bool × Value)) : ∀ (k : Nat) x, L[k]? = some x → (qcl L)[k * 4]? = some (.int .i64 x.1) ∧ (qcl L)[k * 4 + 1]? = some (.int .i64 x.2.1) ∧ (qcl L)[k * 4 + 2]? = some (.bool x.2.2.1) ∧ (qcl L)[k * 4 + 3]? = some x.2.2.2 := by
  induction L with
  | nil => intro k x h; simp at h
  | cons y L ih =>
    intro k x h
    cases k with
    | zero => simp at h; subst h; rw [qcl_cons]; simp
    | succ k =>
      obtain ⟨h1, h2, h3, h4⟩ := ih k x (by simpa using h)
      rw [qcl_cons, show (k + 1) * 4 = k * 4 + 4 by omega]
      exact ⟨h1, h2, h3, h4⟩
/-- What is told of the channel k. -/
def Bk.cv (E : List En) (S : List Int) (I : List (List (Int × Int))) (G : List Bool) (k : Nat) : Cv := ⟨S.getD k 0, (Bk.send E (k : Int) : Int), G.getD k false, I.getD k []⟩
def Bk.cvs (E : List En) (S : List Int) (I : List (List (Int × Int))) (G : List Bool) : List Cv := (List.range S.length).map (Bk.cv E S I G)
def Bk.qv (E : List En) (S : List Int) (G : List Bool) (iv : List Value) (k : Nat) : Int × Int × Bool × Value := (S.getD k 0, (Bk.send E (k : Int) : Int), G.getD k false, iv.getD k (.slice none 0 0))
set_option maxRecDepth 100000
set_option maxHeartbeats 4000000
theorem bchans_any {B : Nat} {w : World} {q : Nat} {ve vs vi vg : Value} {iv : List Value} {E : List En} {S : List Int} {I : List (List (Int × Int))} {G : List Bool} (h : BK B w q ve vs vi vg iv E S I G) (o : BOk E S I G) :
    Calls Try.prog 12 #[.pointer (some ⟨q, 0, none⟩)] w fun r w' => ∃ u, r = .returned u ∧ CvR w' u (Bk.cvs E S I G) ∧ Below w.heap.size w w' := by
  obtain ⟨ic, hic, hz0, hz1, hz2⟩ := info_parts Try.infoCv
  have HH := hide h
  have HOK := hide o
  have hlS := o.ls
  obtain ⟨asl, cs, hvs⟩ := own_slicei h.os
  subst hvs
  have hlE := o.le
  clear h o
  go_enter Try.func12, Try.ntmps12
  go_wp2
  go_loopg [3, 4] S.length (fun gh ov jv wr => ∃ (j : Nat), gh = S.length - j ∧ j ≤ S.length ∧ jv = .int .i64 j ∧ Hid (wr.ownsRow w.heap.size 54 4 ov j (qcl ((List.range j).map (Bk.qv E S G iv)))) ∧ Hid (Below w.heap.size w wr))
  case atStart => exact ⟨0, rfl, Nat.zero_le _, rfl, hide (World.ownsRow_nil _ _ _ _), hide (Below.refl _ _)⟩
  case round =>
    obtain ⟨j, rfl, hj, rfl, HO, HB⟩ := hrel
    have H1 := hide (HH.out.keep HB.out)
    have q1 := H1.out.c1
    by_cases hjl : j < S.length
    · have dj : decide ((j : Int) < (S.length : Int)) = true := by simp; omega
      have hjI : j < I.length := by rw [HOK.out.lI]; exact hjl
      have hjG : j < G.length := by rw [HOK.out.lG]; exact hjl
      obtain ⟨sl, hS⟩ : ∃ x, S[j]? = some x := ⟨_, List.getElem?_eq_getElem hjl⟩
      obtain ⟨M, hI⟩ : ∃ x, I[j]? = some x := ⟨_, List.getElem?_eq_getElem hjI⟩
      obtain ⟨g0, hG⟩ : ∃ x, G[j]? = some x := ⟨_, List.getElem?_eq_getElem hjG⟩
      obtain ⟨gs, cs', hvs, d1⟩ := HH.out.atS hS
      obtain ⟨rfl, rfl⟩ : asl = some ⟨gs, 0, none⟩ ∧ cs = cs' := by simpa using hvs
      obtain ⟨gi, ci, a, ca, hvi, hiv, d2, -, -⟩ := HH.out.atI hI
      obtain ⟨gg, cg, hvg, d3, -⟩ := HH.out.atG hG
      subst hvi hvg
      have q2 := H1.out.c2
      have q3 := H1.out.c3
      have e1 := bsome HB.out d1
      have e2 := bsome HB.out d2
      have e3 := bsome HB.out d3
      have HALL : Hid (∀ w7, Below w.heap.size w w7 → w7.cell? ⟨q, 1, none⟩ = some (.slice (some ⟨gs, 0, none⟩) S.length cs) ∧ w7.cell? ⟨q, 2, none⟩ = some (.slice (some ⟨gi, 0, none⟩) I.length ci) ∧ w7.cell? ⟨q, 3, none⟩ = some (.slice (some ⟨gg, 0, none⟩) G.length cg) ∧ w7.cell? ⟨gs, j, none⟩ = some (.int .i64 sl) ∧ w7.cell? ⟨gi, j, none⟩ = some (.slice a M.length ca) ∧ w7.cell? ⟨gg, j, none⟩ = some (.bool g0)) := hide (fun w7 hb => ⟨bsome hb HH.out.c1, bsome hb HH.out.c2, bsome hb HH.out.c3, bsome hb d1, bsome hb d2, bsome hb d3⟩)
      clear d1 d2 d3
      have j0 : (0 : Int) ≤ (j : Int) := by omega
      have j1 : (j : Int) < (S.length : Int) := by omega
      have j2 : (j : Int) < (I.length : Int) := by omega
      have j3 : (j : Int) < (G.length : Int) := by omega
      have CS : Hid (∀ X, Below wr.heap.size wr X → Calls Try.prog 26 #[.pointer (some ⟨q, 0, none⟩), .int .i64 (j : Int)] X fun e w' => ∃ v, e = .returned v ∧ (v = .int .i64 (Bk.send E (j : Int) : Int) ∧ w' = X)) := hide (fun X hX => (bsend_any (H1.out.keep hX).lg (j : Int) (by omega)).mono (fun e w' h => ⟨_, h.1, rfl, h.2⟩))
      have HQ : Hid (qcl ((List.range (j + 1)).map (Bk.qv E S G iv)) = qcl ((List.range j).map (Bk.qv E S G iv)) ++ [.int .i64 sl, .int .i64 (Bk.send E (j : Int) : Int), .bool g0, .slice a M.length ca]) := hide (by
        rw [List.range_succ, List.map_append, qcl_app]
        congr 1
        simp [qcl, Bk.qv, hS, hG, hiv])
      generalize (Bk.send E (j : Int)) = sn at CS HQ
      obtain ⟨av, cv, hov⟩ := own_slicei HO.out
      subst hov
      have hsz := HB.out.size
      have HO2 : Hid ((wr.alloc (.cells #[.int .i64 sl, .int .i64 (sn : Int), .bool g0, .slice a M.length ca] 54)).drew.ownsRow w.heap.size 54 4 (.slice av j cv) j (qcl ((List.range j).map (Bk.qv E S G iv)))) := hide (HO.out.alloc _)
      have HCN : Hid (∀ jj u, [Value.int .i64 sl, .int .i64 (sn : Int), .bool g0, .slice a M.length ca][jj]? = some u → (wr.alloc (.cells #[.int .i64 sl, .int .i64 (sn : Int), .bool g0, .slice a M.length ca] 54)).drew.cell? ((⟨wr.heap.size, 0, none⟩ : Addr).add jj) = some u) := hide (fun jj u hu => cell4new wr _ _ _ _ _ jj u hu)
      have HBA : Hid (Below w.heap.size w (wr.alloc (.cells #[.int .i64 sl, .int .i64 (sn : Int), .bool g0, .slice a M.length ca] 54)).drew) := hide (below_drewN (HB.out.alloc HB.out.size _) 1)
      have kc : Hid (Below wr.heap.size wr wr.drew) := hide (below_drewN (Below.refl _ _) 1)
      have HSZ : Hid (w.heap.size ≤ (wr.alloc (.cells #[.int .i64 sl, .int .i64 (sn : Int), .bool g0, .slice a M.length ca] 54)).drew.heap.size) := hide (by show w.heap.size ≤ (wr.alloc _).heap.size; simp; omega)
      have HKC : Hid (∀ w7, (wr.alloc (.cells #[.int .i64 sl, .int .i64 (sn : Int), .bool g0, .slice a M.length ca] 54)).drew.grownBy w7 (Value.slice av j cv).ownBlock → Below w.heap.size w w7) := hide (fun w7 hg => HBA.out.grown hg HSZ.out (fun k hk => (HO2.out.lt k hk).1))
      clear HO H1 hS hI hG hvs hiv HOK
      go_wp2
      go_region_held3 (fun w' => w'.cell? ⟨q, 1, none⟩ = some (.slice (some ⟨gs, 0, none⟩) S.length cs) ∧ w'.cell? ⟨q, 2, none⟩ = some (.slice (some ⟨gi, 0, none⟩) I.length ci) ∧ w'.cell? ⟨q, 3, none⟩ = some (.slice (some ⟨gg, 0, none⟩) G.length cg) ∧ w'.cell? ⟨gs, j, none⟩ = some (.int .i64 sl) ∧ w'.cell? ⟨gi, j, none⟩ = some (.slice a M.length ca) ∧ w'.cell? ⟨gg, j, none⟩ = some (.bool g0)) ((first | exact HALL.out _ HB7.out | exact HALL.out _ HBA.out | exact HALL.out _ (HB.out.trans (kc.out.mono HB.out.size)) | go_keep)) ((first
        | (refine step_call_w (by rfl) 26 #[.pointer (some ⟨q, 0, none⟩), .int .i64 (j : Int)] ?_ (CS.out _ kc.out) ?_; (focus (go_simp; done)); rintro vA wA ⟨rfl, hwA⟩; subst wA)
        | (refine step_append_lies _ rfl _ _ 38 rfl w.heap.size 54 ic (.agg #[.int .i64 0, .int .i64 0, .bool false, .slice none 0 0]) 4 48 Try.underlying38 hic hz0 hz1 hz2 rfl (by decide) (.slice av j cv) j (qcl ((List.range j).map (Bk.qv E S G iv))) (by rfl) (by exact HO2.out) ⟨wr.heap.size, 0, none⟩ 1 1 [.int .i64 sl, .int .i64 (sn : Int), .bool g0, .slice a M.length ca] (by rfl) rfl (by exact HCN.out) (by intro u hu; simp at hu; rcases hu with rfl | rfl | rfl | rfl <;> rfl) (by decide) (by unfold maxLen; omega) (by omega) HSZ.out _ rfl ?_; intro gn cap2 w7 hown hgrow hat hlt7; have HB7 := hide (HKC.out w7 hgrow); have HOWN := hide hown; clear hown hgrow hat hlt7)))
      all_goals
        have HO7 : Hid (w7.ownsRow w.heap.size 54 4 (.slice (some ⟨gn, 0, none⟩) (j + 1) cap2) (j + 1) (qcl ((List.range (j + 1)).map (Bk.qv E S G iv)))) := hide (by rw [HQ.out]; exact HOWN.out)
        go_wp2
        go_roundg (S.length - (j + 1))
        case measure => omega
        case rel => exact ⟨j + 1, rfl, by omega, by go_num, HO7, HB7⟩
    · obtain rfl : j = S.length := by omega
      have dj : decide ((S.length : Int) < (S.length : Int)) = false := by simp
      obtain ⟨av, cv, hov⟩ := own_slicei HO.out
      subst hov
      have HF : Hid (CvR wr (.slice av S.length cv) (Bk.cvs E S I G)) := hide (by
        have hl : (Bk.cvs E S I G).length = S.length := by simp [Bk.cvs]
        refine ⟨av, cv, by rw [hl], fun hn => ?_⟩
        have h0 : 0 < S.length := by rw [← hl]; exact List.length_pos_iff.2 hn
        have ho := HO.out
        obtain ⟨g, cap, hv, -⟩ := ho.form h0
        obtain ⟨rfl, rfl⟩ : av = some ⟨g, 0, none⟩ ∧ cv = cap := by simpa using hv
        refine ⟨g, 0, rfl, fun k x hx => ?_⟩
        have hk : k < S.length := by rw [← hl]; exact (List.getElem?_eq_some_iff.1 hx).1
        have hkI : k < I.length := by rw [HOK.out.lI]; exact hk
        have hxx : x = Bk.cv E S I G k := by
          unfold Bk.cvs at hx
          rw [List.getElem?_map, List.getElem?_range hk] at hx
          injection hx with hx
          exact hx.symm
        have hq : ((List.range S.length).map (Bk.qv E S G iv))[k]? = some (Bk.qv E S G iv k) := by rw [List.getElem?_map, List.getElem?_range hk]; rfl
        obtain ⟨e1, e2, e3, e4⟩ := qcl_at _ k _ hq
        subst hxx
        rw [Nat.zero_add]
        refine ⟨by rw [ho.cellAt _ (by omega)]; exact e1, by rw [ho.cellAt _ (by omega)]; exact e2, by rw [ho.cellAt _ (by omega)]; exact e3, iv.getD k (.slice none 0 0), by rw [ho.cellAt _ (by omega)]; exact e4, ?_⟩
        have h' := HH.out.keep HB.out
        have hiv : iv[k]? = some (iv.getD k (.slice none 0 0)) := by rw [List.getD_eq_getElem?_getD, List.getElem?_eq_getElem (by rw [h'.ivl]; exact hkI)]; rfl
        have hIk : I[k]? = some (I.getD k []) := by rw [List.getD_eq_getElem?_getD, List.getElem?_eq_getElem hkI]; rfl
        exact (h'.it k _ _ hIk hiv).itr)
      go_wp2
      go_ret
      exact ⟨_, rfl, HF.out, HB.out⟩
end Go.Proofs.Ytbepaimbbclejaa
