import Derived.Test.YtbepaimbbclejaaChM
import Derived.Deep.RegionHeld3
import Derived.Test.YtbepaimbbclejaaChG
/- The document's book: Put of a number. -/
namespace Go.Proofs.Ytbepaimbbclejaa
open Go.RowKit

set_option maxRecDepth 100000
set_option maxHeartbeats 4000000
theorem bput_num {B : Nat} {w : World} {q : Nat} {ve vs vi vg : Value} {iv : List Value} {E : List En} {S : List Int} {I : List (List (Int × Int))} {G : List Bool} (h : BK B w q ve vs vi vg iv E S I G) (o : BOk E S I G) (e n en : Int) (ht : Bk.there E e true = true) (hw : Bk.waits E S I G e = false) (hen : en < 0) (hg : G[(Ld.at E e).c.toNat]? = some false) (M0 : List (Int × Int)) (hM : I[(Ld.at E e).c.toNat]? = some M0) (hB : B ≤ w.heap.size) :
    Calls Try.prog 30 #[.pointer (some ⟨q, 0, none⟩), .int .i64 e, .agg #[.int .i64 n, .int .i64 en]] w fun r w' => r = .returned (.bool true) ∧ ∃ iv', BK B w' q ve vs vi vg iv' E S (I.set (Ld.at E e).c.toNat (M0 ++ [(n, -1)])) G ∧ BC w w' (obs q ve vs vi vg iv) (obs q ve vs vi vg iv') := by
  have hb0 : Below w.heap.size w (w.alloc (.cells #[.int .i64 n, .int .i64 en] 59)) := (Below.refl _ _).alloc (Nat.le_refl _) _
  have HT := hide (bthere_any (h.keep hb0).lg e true)
  have HWt := hide (fun w' (hb : Below w.heap.size w w') => bwaits_any (h.keep hb) o e)
  have HB0 := hide hb0
  have HH := hide h
  rw [ht] at HT
  rw [hw] at HWt
  obtain ⟨k, x, rfl, hx, ha, -, -, hk⟩ := Bk.there_some ht
  obtain ⟨c, sl, M, g0, hc, hS, hI, hG, hcl, hMl⟩ := o.chan hx
  have k0 : (0 : Int) ≤ (k : Int) := by omega
  have k1 : (k : Int) < (E.length : Int) := by omega
  have c0' : (0 : Int) ≤ (c : Int) := by omega
  have c1' : (c : Int) < (I.length : Int) := by rw [o.lI]; omega
  have c2' : (c : Int) < (G.length : Int) := by rw [o.lG]; omega
  have hlE := o.le
  have hlI : I.length ≤ 100000 := by rw [o.lI]; exact o.ls
  have hlG : G.length ≤ 100000 := by rw [o.lG]; exact o.ls
  have hcn : (Ld.at E (k : Int)).c.toNat = c := by rw [ha, hc, Int.toNat_natCast]
  have HX := hide (And.intro hx (And.intro hc (And.intro hI hG)))
  rw [hcn] at hg hM ⊢
  rw [hG] at hg
  rw [hI] at hM
  obtain rfl : g0 = false := by injection hg
  obtain rfl : M = M0 := by injection hM
  have d0 : decide (en < 0) = true := decide_eq_true hen
  clear h o hb0 ht hw hx ha hc hI hG hS hg hcn hen hM
  go_enter Try.func30, Try.ntmps30
  go_wp2_with fail
  refine HT.out.mono ?_
  rintro r w1 ⟨rfl, hb⟩
  have xb0 := bsome hb (p := ⟨w.heap.size, 0, none⟩) (v := .int .i64 n) (by simp [go_sem])
  have xb1 := bsome hb (p := ⟨w.heap.size, 1, none⟩) (v := .int .i64 en) (by simp [go_sem])
  have HB1 := hide (btrans HB0.out hb)
  clear hb
  go_wp2_with fail
  refine (HWt.out _ HB1.out).mono ?_
  rintro r w2 ⟨rfl, hb⟩
  have xb0 := bsome hb xb0
  have xb1 := bsome hb xb1
  have HB2 := hide (btrans HB1.out hb)
  clear hb
  have H2 := hide (HH.out.keep HB2.out)
  obtain ⟨p1, p2, p3, p4⟩ := HX.out
  obtain ⟨ge, ce, hve, -, g1, -⟩ := H2.out.lg.at p1
  obtain ⟨gi, ci, al, cal, hvi, hiv, g2, gf, hio⟩ := H2.out.atI p3
  obtain ⟨gg, cg, hvg, g3, -⟩ := H2.out.atG p4
  subst hve hvi hvg
  rw [p2] at g1
  have q0 := H2.out.c0
  have q2 := H2.out.c2
  have q3 := H2.out.c3
  have HI0 := hide p3
  have HIV := hide hiv
  have HIO := hide hio
  have gfc := gf c
  have HNB : Hid (∀ j : Nat, (obs q (.slice (some ⟨ge, 0, none⟩) E.length ce) vs (.slice (some ⟨gi, 0, none⟩) I.length ci) (.slice (some ⟨gg, 0, none⟩) G.length cg) iv)[j]? ≠ some (some w.heap.size)) := hide (HH.out.new (Nat.le_refl _))
  clear p1 p2 p3 p4 hiv hio gf
  have hs2 := HB2.out.size
  have H4 := hide (H2.out.keep (w' := (w2.alloc (.cells #[.int .i64 n, .int .i64 (-1)] 59)).drew) (below_drewN ((Below.refl _ _).alloc (Nat.le_refl _) _) 1))
  have HIO4 : Hid (IO B (w2.alloc (.cells #[.int .i64 n, .int .i64 (-1)] 59)).drew (.slice al M.length cal) M) := hide (HIO.out.keep (fun g hg => Below.heap_alloc _ _ _ (HIO.out.lt g hg).2))
  have HCN : Hid (∀ j u, [Value.int .i64 n, .int .i64 (-1)][j]? = some u → (w2.alloc (.cells #[.int .i64 n, .int .i64 (-1)] 59)).drew.cell? ((⟨w2.heap.size, 0, none⟩ : Addr).add j) = some u) := hide (fun j u hu => by
    match j, hu with
    | 0, hu => simp at hu; subst hu; simp [go_sem, Addr.add]
    | 1, hu => simp at hu; subst hu; simp [go_sem, Addr.add])
  have GF4 : Hid ((w2.alloc (.cells #[.int .i64 n, .int .i64 (-1)] 59)).drew.frozen? ⟨gi, c, none⟩ = false) := hide ((Below.frozen ((Below.refl w2.heap.size w2).alloc (Nat.le_refl _) (.cells #[.int .i64 n, .int .i64 (-1)] 59)) (p := ⟨gi, c, none⟩) (World.block_lt_of_cell? _ _ g2)).trans gfc)
  have hnl : ¬ (some gi = (Value.slice al M.length cal).ownBlock) := fun e => absurd (H2.out.dj 3 (5 + c) gi rfl (by rw [obs_it HIV.out, ← e])) (by omega)
  have hql : ¬ (some q = (Value.slice al M.length cal).ownBlock) := fun e => absurd (H2.out.dj 0 (5 + c) q rfl (by rw [obs_it HIV.out, ← e])) (by omega)
  have hgi : gi < w2.heap.size := World.block_lt_of_cell? _ _ g2
  have hqq : q < w2.heap.size := H2.out.ql
  have HHV := hide (And.intro hnl hql)
  clear hnl hql
  have GC4 : (w2.alloc (.cells #[.int .i64 n, .int .i64 (-1)] 59)).drew.cell? ⟨gi, c, none⟩ = some (.slice al M.length cal) := (Below.cell ((Below.refl w2.heap.size w2).alloc (Nat.le_refl _) (.cells #[.int .i64 n, .int .i64 (-1)] 59)) (p := ⟨gi, c, none⟩) hgi).trans g2
  have QC4 : (w2.alloc (.cells #[.int .i64 n, .int .i64 (-1)] 59)).drew.cell? ⟨q, 2, none⟩ = some (.slice (some ⟨gi, 0, none⟩) I.length ci) := (Below.cell ((Below.refl w2.heap.size w2).alloc (Nat.le_refl _) (.cells #[.int .i64 n, .int .i64 (-1)] 59)) (p := ⟨q, 2, none⟩) hqq).trans q2
  have HGI4 : Hid ((⟨gi, c, none⟩ : Addr).block < (w2.alloc (.cells #[.int .i64 n, .int .i64 (-1)] 59)).drew.heap.size) := hide (by show gi < (w2.alloc _).heap.size; simp; omega)
  have HBB4 : Hid (B ≤ (w2.alloc (.cells #[.int .i64 n, .int .i64 (-1)] 59)).drew.heap.size) := hide (by show B ≤ (w2.alloc _).heap.size; simp; omega)
  have hxw : w.heap.size < w2.heap.size := World.block_lt_of_cell? _ _ xb0
  have XB4 : (w2.alloc (.cells #[.int .i64 n, .int .i64 (-1)] 59)).drew.cell? ⟨w.heap.size, 0, none⟩ = some (.int .i64 n) := (Below.cell ((Below.refl w2.heap.size w2).alloc (Nat.le_refl _) (.cells #[.int .i64 n, .int .i64 (-1)] 59)) (p := ⟨w.heap.size, 0, none⟩) hxw).trans xb0
  have HXL : Hid (¬ (some w.heap.size = (Value.slice al M.length cal).ownBlock)) := hide (fun e => HNB.out (5 + c) (by rw [obs_it HIV.out, ← e]))
  have hxg : ¬ w.heap.size = gi := fun e => HNB.out 3 (by rw [e]; rfl)
  have hxq : ¬ w.heap.size = q := fun e => HNB.out 0 (by rw [e]; rfl)
  have hqg : ¬ q = gi := fun e => H2.out.qn.2.2.1 (by rw [e]; rfl)
  go_wp2
  refine wp_region_noPanic ?_
  refine wp_region_held_drew (S := fun w' => w'.cell? ⟨q, 2, none⟩ = some (.slice (some ⟨gi, 0, none⟩) I.length ci) ∧ w'.cell? ⟨w.heap.size, 0, none⟩ = some (.int .i64 n)) (by kernel_rfl) ⟨q2, xb0⟩ (fun hH => ?_)
  refine wpAnyH_take (i := 0) (oi := _) (v := ?_) rfl (by kernel_rfl) (by kernel_rfl) (by kernel_rfl) (fun _ _ _ h => h) (Or.inl ⟨by rfl, ?_⟩) (by assumption) ?_
  rotate_left
  focus (intro w' hSw; (try dsimp only at hSw); go_simp; (first | done | with_reducible rfl))
  try simp only [Act.put]
  refine wpAnyH_take (i := 1) (oi := _) (v := ?_) rfl (by kernel_rfl) (by kernel_rfl) (by kernel_rfl) (fun _ _ _ h => h) (Or.inl ⟨by rfl, ?_⟩) (by assumption) ?_
  rotate_left
  focus (intro w' hSw; (try dsimp only at hSw); go_simp; (first | done | with_reducible rfl))
  try simp only [Act.put]
  refine wpAnyH_take (i := 2) (oi := _) (v := ?_) rfl (by kernel_rfl) (by kernel_rfl) (by kernel_rfl) (fun _ _ _ h => h) (Or.inl ⟨by rfl, ?_⟩) (by assumption) ?_
  rotate_left
  focus (intro w' hSw; (try dsimp only at hSw); go_simp; (first | done | with_reducible rfl))
  try simp only [Act.put]
  refine wpAnyH_take (i := 3) (oi := _) (v := ?_) rfl (by kernel_rfl) (by kernel_rfl) (by kernel_rfl) (fun _ _ _ h => h) (Or.inl ⟨by rfl, ?_⟩) (by assumption) ?_
  rotate_left
  focus (intro w' hSw; (try dsimp only at hSw); go_simp; (first | done | with_reducible rfl))
  try simp only [Act.put]
  refine wpAnyH_take (i := 4) (oi := _) (v := ?_) rfl (by kernel_rfl) (by kernel_rfl) (by kernel_rfl) (fun _ _ _ h => h) (Or.inl ⟨by rfl, ?_⟩) (by assumption) ?_
  rotate_left
  focus (intro w' hSw; (try dsimp only at hSw); go_simp; (first | done | with_reducible rfl))
  try simp only [Act.put]
  refine wpAnyH_take (i := 5) (oi := _) (v := ?_) rfl (by kernel_rfl) (by kernel_rfl) (by kernel_rfl) (fun _ _ _ h => h) (Or.inl ⟨by rfl, ?_⟩) (by assumption) ?_
  rotate_left
  focus (intro w' hSw; (try dsimp only at hSw); go_simp; (first | done | with_reducible rfl))
  try simp only [Act.put]
  refine wpAnyH_take (i := 6) (oi := _) (v := ?_) rfl (by kernel_rfl) (by kernel_rfl) (by kernel_rfl) (fun _ _ _ h => h) (Or.inl ⟨by rfl, ?_⟩) (by assumption) ?_
  rotate_left
  focus (intro w' hSw; (try dsimp only at hSw); go_simp; (first | done | with_reducible rfl))
  try simp only [Act.put]
  refine wpAnyH_take (i := 7) (oi := _) (v := ?_) rfl (by kernel_rfl) (by kernel_rfl) (by kernel_rfl) (fun _ _ _ h => h) (Or.inl ⟨by rfl, ?_⟩) (by assumption) ?_
  rotate_left
  focus (intro w' hSw; (try dsimp only at hSw); go_simp; (first | done | with_reducible rfl))
  try simp only [Act.put]
  refine wpAnyH_take (i := 8) (oi := _) (v := ?_) rfl (by kernel_rfl) (by kernel_rfl) (by kernel_rfl) (fun _ _ _ h => h) (Or.inl ⟨by rfl, ?_⟩) (by assumption) ?_
  rotate_left
  focus (intro w' hSw; (try dsimp only at hSw); go_simp; (first | done | with_reducible rfl))
  try simp only [Act.put]
  refine wpAnyH_take (i := 9) (oi := _) (v := ?_) rfl (by kernel_rfl) (by kernel_rfl) (by kernel_rfl) (fun _ _ _ h => h) (Or.inl ⟨by rfl, ?_⟩) (by assumption) ?_
  rotate_left
  focus (intro w' hSw; (try dsimp only at hSw); go_simp; (first | done | with_reducible rfl))
  try simp only [Act.put]
  refine wpAnyH_take (i := 10) (oi := _) (v := ?_) rfl (by kernel_rfl) (by kernel_rfl) (by kernel_rfl) (fun _ _ _ h => h) (Or.inl ⟨by rfl, ?_⟩) (by assumption) ?_
  rotate_left
  focus (intro w' hSw; (try dsimp only at hSw); go_simp; (first | done | with_reducible rfl))
  try simp only [Act.put]
  refine wpAnyH_take (i := 12) (oi := _) (v := ?_) rfl (by kernel_rfl) (by kernel_rfl) (by kernel_rfl) (fun _ _ _ h => h) (Or.inl ⟨by rfl, ?_⟩) (by assumption) ?_
  rotate_left
  focus (intro w' hSw; (try dsimp only at hSw); go_simp; (first | done | with_reducible rfl))
  try simp only [Act.put]
  refine wpAnyH_take (i := 13) (oi := _) (v := ?_) rfl (by kernel_rfl) (by kernel_rfl) (by kernel_rfl) (fun _ _ _ h => h) (Or.inl ⟨by rfl, ?_⟩) (by assumption) ?_
  rotate_left
  focus (intro w' hSw; (try dsimp only at hSw); go_simp; (first | done | with_reducible rfl))
  try simp only [Act.put]
  refine wpAnyH_take (i := 14) (oi := _) (v := ?_) rfl (by kernel_rfl) (by kernel_rfl) (by kernel_rfl) (fun _ _ _ h => h) (Or.inl ⟨by rfl, ?_⟩) (by assumption) ?_
  rotate_left
  focus (intro w' hSw; (try dsimp only at hSw); go_simp; (first | done | with_reducible rfl))
  try simp only [Act.put]
  refine wpAnyH_ready (rs := [11, 15]) (by kernel_rfl) (by simp) ?_
  refine AllReadyH.cons rfl (fun K hK => ?_) (AllReadyH.cons rfl (fun K hK => ?_) AllReadyH.nil)
  · go_simp
    refine hK.out _ _ ⟨q2, xb0⟩ (fun hH2 => ?_)
    clear hK K
    try simp only [Act.put]
    refine wpAnyH_ready (rs := [15]) (by kernel_rfl) (by simp) ?_
    refine AllReadyH.cons rfl (fun K hK => ?_) AllReadyH.nil
    go_simp
    refine hK.out _ _ ⟨QC4, XB4⟩ (fun hH2 => ?_)
    clear hK K
    try simp only [Act.put]
    refine wpAnyH_ready (rs := [16]) (by kernel_rfl) (by simp) ?_
    refine AllReadyH.cons rfl (fun K hK => ?_) AllReadyH.nil
    (refine step_pushI rfl _ _ rfl rfl HIO4.out (by rfl) (n, -1) ⟨w2.heap.size, 0, none⟩ (by rfl) HCN.out HBB4.out (by omega) ?_; intro v7 w7 hio7 hk7 hv7; obtain ⟨a7, ca7, e7⟩ := hio7.form; have e8 : v7 = .slice a7 (M.length + 1) ca7 := (by rw [e7, List.length_append, List.length_singleton]); clear e7; subst e8; have HI7 := hide hio7; have HK7 := hide hk7; have HV7 := hide hv7; have g7 : w7.cell? ⟨gi, c, none⟩ = some (.slice al M.length cal) := hk7.cell (p := ⟨gi, c, none⟩) GC4 HHV.out.1; have f7 : w7.frozen? ⟨gi, c, none⟩ = false := (hk7.frozen (p := ⟨gi, c, none⟩) HGI4.out HHV.out.1).trans GF4.out; have q7 : w7.cell? ⟨q, 2, none⟩ = some (.slice (some ⟨gi, 0, none⟩) I.length ci) := hk7.cell (p := ⟨q, 2, none⟩) QC4 HHV.out.2; have x7 : w7.cell? ⟨w.heap.size, 0, none⟩ = some (.int .i64 n) := hk7.cell (p := ⟨w.heap.size, 0, none⟩) XB4 HXL.out; clear hio7 hk7 hv7)
    refine hK.out _ _ ⟨q7, x7⟩ (fun hH2 => ?_)
    clear hK K
    try simp only [Act.put]
    refine wpAnyH_take (i := 17) (oi := _) (v := ?_) rfl (by kernel_rfl) (by kernel_rfl) (by kernel_rfl) (fun _ _ _ h => h) (Or.inl ⟨by rfl, ?_⟩) (by assumption) ?_
    rotate_left
    focus (intro w' hSw; (try dsimp only at hSw); go_simp; (first | done | with_reducible rfl))
    try simp only [Act.put]
    refine wpAnyH_ready (rs := [18]) (by kernel_rfl) (by simp) ?_
    refine AllReadyH.cons rfl (fun K hK => ?_) AllReadyH.nil
    go_simp
    refine hK.out _ _ ⟨cset hqg q7, cset hxg x7⟩ (fun hH2 => ?_)
    clear hK K
    try simp only [Act.put]
    refine wpAnyH_done (by kernel_rfl) (NoPanic.normal ?_) _
    have HF := hide (H4.out.setit HI0.out HIV.out rfl HK7.out HI7.out (.inr HV7.out))
    have HC := hide ((BC.of_below HB2.out _).trans ((BC.of_below (w' := (w2.alloc (.cells #[.int .i64 n, .int .i64 (-1)] 59)).drew) (below_drewN ((Below.refl _ _).alloc (Nat.le_refl _) _) 1) _).trans HF.out.2))
    go_wp2
    go_ret
    exact ⟨rfl, _, HF.out.1, HC.out⟩
  · go_simp
    refine hK.out _ _ ⟨QC4, XB4⟩ (fun hH2 => ?_)
    clear hK K
    try simp only [Act.put]
    refine wpAnyH_ready (rs := [11]) (by kernel_rfl) (by simp) ?_
    refine AllReadyH.cons rfl (fun K hK => ?_) AllReadyH.nil
    go_simp
    refine hK.out _ _ ⟨QC4, XB4⟩ (fun hH2 => ?_)
    clear hK K
    try simp only [Act.put]
    refine wpAnyH_ready (rs := [16]) (by kernel_rfl) (by simp) ?_
    refine AllReadyH.cons rfl (fun K hK => ?_) AllReadyH.nil
    (refine step_pushI rfl _ _ rfl rfl HIO4.out (by rfl) (n, -1) ⟨w2.heap.size, 0, none⟩ (by rfl) HCN.out HBB4.out (by omega) ?_; intro v7 w7 hio7 hk7 hv7; obtain ⟨a7, ca7, e7⟩ := hio7.form; have e8 : v7 = .slice a7 (M.length + 1) ca7 := (by rw [e7, List.length_append, List.length_singleton]); clear e7; subst e8; have HI7 := hide hio7; have HK7 := hide hk7; have HV7 := hide hv7; have g7 : w7.cell? ⟨gi, c, none⟩ = some (.slice al M.length cal) := hk7.cell (p := ⟨gi, c, none⟩) GC4 HHV.out.1; have f7 : w7.frozen? ⟨gi, c, none⟩ = false := (hk7.frozen (p := ⟨gi, c, none⟩) HGI4.out HHV.out.1).trans GF4.out; have q7 : w7.cell? ⟨q, 2, none⟩ = some (.slice (some ⟨gi, 0, none⟩) I.length ci) := hk7.cell (p := ⟨q, 2, none⟩) QC4 HHV.out.2; have x7 : w7.cell? ⟨w.heap.size, 0, none⟩ = some (.int .i64 n) := hk7.cell (p := ⟨w.heap.size, 0, none⟩) XB4 HXL.out; clear hio7 hk7 hv7)
    refine hK.out _ _ ⟨q7, x7⟩ (fun hH2 => ?_)
    clear hK K
    try simp only [Act.put]
    refine wpAnyH_take (i := 17) (oi := _) (v := ?_) rfl (by kernel_rfl) (by kernel_rfl) (by kernel_rfl) (fun _ _ _ h => h) (Or.inl ⟨by rfl, ?_⟩) (by assumption) ?_
    rotate_left
    focus (intro w' hSw; (try dsimp only at hSw); go_simp; (first | done | with_reducible rfl))
    try simp only [Act.put]
    refine wpAnyH_ready (rs := [18]) (by kernel_rfl) (by simp) ?_
    refine AllReadyH.cons rfl (fun K hK => ?_) AllReadyH.nil
    go_simp
    refine hK.out _ _ ⟨cset hqg q7, cset hxg x7⟩ (fun hH2 => ?_)
    clear hK K
    try simp only [Act.put]
    refine wpAnyH_done (by kernel_rfl) (NoPanic.normal ?_) _
    have HF := hide (H4.out.setit HI0.out HIV.out rfl HK7.out HI7.out (.inr HV7.out))
    have HC := hide ((BC.of_below HB2.out _).trans ((BC.of_below (w' := (w2.alloc (.cells #[.int .i64 n, .int .i64 (-1)] 59)).drew) (below_drewN ((Below.refl _ _).alloc (Nat.le_refl _) _) 1) _).trans HF.out.2))
    go_wp2
    go_ret
    exact ⟨rfl, _, HF.out.1, HC.out⟩
end Go.Proofs.Ytbepaimbbclejaa
