import Derived.Test.YtbepaimbbclejaaChF
import Derived.Deep.RegionLaw
import Derived.Deep.RegionHeld3
import Derived.BigRegion
/- The document's book: Clone. -/
namespace Go.Proofs.Ytbepaimbbclejaa
open Go.RowKit

set_option maxRecDepth 100000
set_option maxHeartbeats 2000000
theorem bclone_no {B : Nat} {w : World} {q : Nat} {ve vs vi vg : Value} {iv : List Value} {E : List En} {S : List Int} {I : List (List (Int × Int))} {G : List Bool} (h : BK B w q ve vs vi vg iv E S I G) (e tk : Int) (hn : Bk.there E e true = false ∨ tk < 0) :
    Calls Try.prog 29 #[.pointer (some ⟨q, 0, none⟩), .int .i64 e, .int .i64 tk] w fun r w' => r = .returned (.int .i64 (-1)) ∧ Below w.heap.size w w' := by
  have HT := hide (bthere_any h.lg e true)
  cases h1 : Bk.there E e true with
  | false =>
    rw [h1] at HT
    clear h
    go_enter Try.func29, Try.ntmps29
    go_wp2_with fail
    refine HT.out.mono ?_
    rintro r w1 ⟨rfl, hb⟩
    go_wp2
    go_ret
    exact ⟨rfl, hb⟩
  | true =>
    rw [h1] at HT hn
    have ht : tk < 0 := hn.elim (fun h => by cases h) id
    have d0 : decide (tk < 0) = true := decide_eq_true ht
    clear h ht hn
    go_enter Try.func29, Try.ntmps29
    go_wp2_with fail
    refine HT.out.mono ?_
    rintro r w1 ⟨rfl, hb⟩
    go_wp2
    go_ret
    exact ⟨rfl, hb⟩
theorem bclone_yes {B : Nat} {w : World} {q : Nat} {ve vs vi vg : Value} {iv : List Value} {E : List En} {S : List Int} {I : List (List (Int × Int))} {G : List Bool} (h : BK B w q ve vs vi vg iv E S I G) (hlE : E.length ≤ 100000) (e tk : Int) (hB : B ≤ w.heap.size) (h1 : Bk.there E e true = true) (ht : 0 ≤ tk) :
    Calls Try.prog 29 #[.pointer (some ⟨q, 0, none⟩), .int .i64 e, .int .i64 tk] w fun r w' => r = .returned (.int .i64 (E.length : Int)) ∧ ∃ ve', BK B w' q ve' vs vi vg iv (E ++ [⟨(Ld.at E e).c, true, tk, 0⟩]) S I G ∧ BC w w' (obs q ve vs vi vg iv) (obs q ve' vs vi vg iv) := by
      have HT := hide (bthere_any h.lg e true)
      rw [h1] at HT
      have d0 : decide (tk < 0) = false := decide_eq_false (by omega)
      obtain ⟨k, x, rfl, hx, ha, hs, hh, hk⟩ := Bk.there_some h1
      rw [ha]
      obtain ⟨ie, hie, hze0, hze1, hze2⟩ := info_parts Try.infoEn
      have HH := hide h
      have HX := hide hx
      have k0 : (0 : Int) ≤ (k : Int) := by omega
      have k1 : (k : Int) < (E.length : Int) := by omega
      clear h hx h1 ha hs hh ht
      go_enter Try.func29, Try.ntmps29
      go_wp2_with fail
      refine HT.out.mono ?_
      rintro r w1 ⟨rfl, hb⟩
      have HB := hide hb
      have H1 := hide (HH.out.keep hb)
      obtain ⟨ge, ce, hve, hgq, c1, -⟩ := H1.out.lg.at HX.out
      subst hve
      have q0 := H1.out.c0
      have hs1 := hb.size
      have hq := H1.out.ql
      have H2 := hide (H1.out.keep (below_drewN ((Below.refl _ _).alloc (Nat.le_refl _) (.cells #[.int .i64 x.c, .bool true, .int .i64 tk, .int .i64 0] 48)) 1 : Below w1.heap.size w1 (w1.alloc (.cells #[.int .i64 x.c, .bool true, .int .i64 tk, .int .i64 0] 48)).drew))
      have HOW := hide H2.out.oe
      have HCN : Hid (∀ j u, [Value.int .i64 x.c, .bool true, .int .i64 tk, .int .i64 0][j]? = some u → (w1.alloc (.cells #[.int .i64 x.c, .bool true, .int .i64 tk, .int .i64 0] 48)).drew.cell? ((⟨w1.heap.size, 0, none⟩ : Addr).add j) = some u) := hide (fun j u hu => cell4new w1 _ _ _ _ _ j u hu)
      have HQN := hide H2.out.qn.1
      have HQL := hide H2.out.ql
      have qc6 := H2.out.c0
      have qt6 := H2.out.t 0
      clear hb
      go_wp2
      go_region_law ((refine step_append_lies _ rfl _ _ 27 rfl B 48 ie (.agg #[.int .i64 0, .bool false, .int .i64 0, .int .i64 0]) 4 32 Try.underlying27 hie hze0 hze1 hze2 rfl (by decide) (.slice (some ⟨ge, 0, none⟩) E.length ce) E.length (ecl E) (by rfl) (by exact HOW.out) ⟨w1.heap.size, 0, none⟩ 1 1 [.int .i64 x.c, .bool true, .int .i64 tk, .int .i64 0] (by rfl) rfl (by exact HCN.out) (by intro u hu; simp at hu; rcases hu with rfl | rfl | rfl | rfl <;> rfl) (by decide) (by unfold maxLen; omega) (by omega) (by simp; omega) _ rfl ?_; intro gn cap2 w7 hown hgrow hat hlt7; have c7 : w7.cell? ⟨q, 0, none⟩ = some (.slice (some ⟨ge, 0, none⟩) E.length ce) := (hgrow.cell_far ⟨q, 0, none⟩ HQL.out HQN.out).trans qc6; have f7 : w7.frozen? ⟨q, 0, none⟩ = false := (hgrow.frozen_far ⟨q, 0, none⟩ HQL.out HQN.out).trans qt6; have HOWN := hide hown; have HGRO := hide hgrow; have HAT := hide hat; clear hown hgrow hat))
      all_goals
        have HK7 : Hid (Kx (fun b => some b ≠ (Value.slice (some ⟨ge, 0, none⟩) E.length ce).ownBlock) (w1.alloc (.cells #[.int .i64 x.c, .bool true, .int .i64 tk, .int .i64 0] 48)).drew w7) := hide ((Kx.refl _ _).grown HGRO.out (fun k hk => .inr (fun e => e hk.symm)))
        have HF7 := hide (H2.out.pushE (ve' := .slice (some ⟨gn, 0, none⟩) (E.length + 1) cap2) (E' := E ++ [⟨x.c, true, tk, 0⟩]) HK7.out (by rw [ecl_app, List.length_append]; exact HOWN.out) (HAT.out.imp (fun e => e.symm) (fun e => ⟨gn, rfl, Nat.le_of_eq e.symm⟩)))
        have HBC := hide ((BC.of_below HB.out (obs q (.slice (some ⟨ge, 0, none⟩) E.length ce) vs vi vg iv)).trans ((BC.of_below (below_drewN ((Below.refl _ _).alloc (Nat.le_refl _) (.cells #[.int .i64 x.c, .bool true, .int .i64 tk, .int .i64 0] 48)) 1 : Below w1.heap.size w1 (w1.alloc (.cells #[.int .i64 x.c, .bool true, .int .i64 tk, .int .i64 0] 48)).drew) _).trans HF7.out.2))
        go_wp2
        go_ret
        exact ⟨by go_num, _, HF7.out.1, HBC.out⟩
end Go.Proofs.Ytbepaimbbclejaa
