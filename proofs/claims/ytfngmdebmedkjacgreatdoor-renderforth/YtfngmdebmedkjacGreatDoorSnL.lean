import Derived.Test.YtfngmdebmedkjacGreatDoorSnK
import Derived.Test.YtfngmdebmedkjacGreatDoorTkC
import Derived.Test.YtfngmdebmedkjacGreatDoorPlA
import Derived.Test.YtfngmdebmedkjacGreatDoorPlB
/- Parse, walked. -/
namespace Go.Proofs.YtfngmdebmedkjacGreatDoor
open Go.RowKit

/-- What Parse tells of a text, with fuel. -/
def Sx.parse (f q : Nat) (l : List UInt8) : Sx.Rs (List Sx.Tr) :=
  if (Tk.scan l).2.1 ≠ 0 then .inr ((Tk.scan l).2.1, (Tk.scan l).2.2, []) else Sx.prog l.length f q (Tk.scan l).1
theorem cov_at (l : List UInt8) (a : Nat) (ts : List Tk.Tok) (h : Tk.Cov l a ts) : ∀ (i : Nat) t, ts[i]? = some t → t.at' ≤ l.length := by
  induction ts generalizing a with
  | nil => intro i t hi; simp at hi
  | cons x r ih =>
    intro i t hi
    obtain ⟨_, h2, h3, _, h5⟩ := h
    cases i with
    | zero => simp at hi; subst hi; omega
    | succ i => exact ih _ h5 i t (by simpa using hi)
theorem rd_start {w : World} {B : Nat} {v : Value} {ts : List Tk.Tok} {e : Nat} (h : w.ownsRow B 118 4 v ts.length (tcells ts)) (hl : ts.length ≤ 12000) (he : e ≤ 12000) (hat : ∀ (i : Nat) t, ts[i]? = some t → t.at' ≤ 12000) (hv : ∃ a n cap, v = .slice a n cap) :
    ∃ c : Cx, c.rb = w.heap.size ∧ c.full = ts ∧ c.e = e ∧ v = .slice c.a c.full.length c.cap ∧ RD c (w.alloc (.cells #[v, .int .i64 0, .int .i64 e, .int .i64 0, .int .i64 0, .int .i64 0, .int .i64 0] 76)) 0 Sx.s0 := by
  have hex : ∃ a cap tb, v = .slice a ts.length cap ∧ (ts ≠ [] → a = some ⟨tb, 0, none⟩ ∧ tb < w.heap.size) ∧ ∀ (i : Nat) t, ts[i]? = some t → w.cell? ⟨tb, i * 4, none⟩ = some (.int .i64 t.kind) ∧ w.cell? ⟨tb, i * 4 + 1, none⟩ = some (.int .i64 (t.at' : Int)) ∧
    w.cell? ⟨tb, i * 4 + 2, none⟩ = some (.string (bs t.text)) ∧ w.cell? ⟨tb, i * 4 + 3, none⟩ = some (.int .i64 t.n) := by
    rcases h.2 with ⟨hv, hn⟩ | ⟨g, cap, cur, hv, hB, hg, _⟩
    · have hts : ts = [] := by cases ts with
        | nil => rfl
        | cons a r => simp at hn
      subst hts
      exact ⟨none, 0, 0, hv, fun h => absurd rfl h, fun i t hi => by simp at hi⟩
    · refine ⟨_, cap, g, hv, fun _ => ⟨rfl, ?_⟩, fun i t hi => ?_⟩
      · rcases Nat.lt_or_ge g w.heap.size with h' | h'
        · exact h'
        · rw [Array.getElem?_eq_none h'] at hg; cases hg
      · obtain ⟨t0, t1, t2, t3⟩ := tcells_at ts i t hi
        have hc := h.cells (g := g) (by rw [hv]; rfl)
        have c0 := hc _ _ t0
        have c1 := hc _ _ t1
        have c2 := hc _ _ t2
        have c3 := hc _ _ t3
        rw [Addr.add_mid, Nat.zero_add] at c0 c1 c2 c3
        exact ⟨c0, c1, c2, c3⟩
  obtain ⟨a, cap, tb, rfl, hne, htk⟩ := hex
  refine ⟨⟨w.heap.size, tb, cap, a, ts, e⟩, rfl, rfl, rfl, rfl, ?_⟩
  have k : Kp [] w (w.alloc (.cells #[.slice a ts.length cap, .int .i64 0, .int .i64 e, .int .i64 0, .int .i64 0, .int .i64 0, .int .i64 0] 76)) := (Kp.refl _ _).alloc _
  exact { hn := Nat.zero_le _, hm := hl, he := he, rlt := by simp, c0 := by simp [go_sem], c1 := by simp [go_sem], c2 := by simp [go_sem], c3 := by simp [go_sem, Sx.s0], c4 := by simp [go_sem, Sx.s0], c5 := by simp [go_sem, Sx.s0], c6 := by simp [go_sem, Sx.s0],
          b3 := by simp [Sx.s0], b4 := by simp [Sx.s0], b5 := by simp [Sx.s0], b6 := by simp only [Sx.s0]; omega, fz := fun o => by simp [go_sem],
          ne := fun h => ⟨(hne h).1, by have := (hne h).2; simp only; omega⟩,
          tk := fun i t hi => by
            obtain ⟨c0, c1, c2, c3⟩ := htk i t hi
            exact ⟨k.some c0 (by simp), k.some c1 (by simp), k.some c2 (by simp), k.some c3 (by simp), hat i t hi⟩ }

set_option maxRecDepth 100000 in
set_option maxHeartbeats 2000000 in
theorem parse_in (f q : Nat) (hB : CB f) (s : ByteArray) (w : World) (hw : WTab w) (hs : s.size ≤ 12000) (hf : ¬ Dry (Sx.parse f q s.data.toList)) :
    Calls Tryz.prog 16 #[.string s] w (Told w [] (Sx.parse f q s.data.toList)) := by
  have hzn := Lib.size_eq s
  have HSC := hide (scan_in s ((w.alloc (.cells #[.slice none 0 0] 24)).alloc (.cells #[.int .i64 0, .int .i64 0] 29)) (hw.below (((Below.refl _ _).alloc (Nat.le_refl _) _).alloc (by simp) _)) hs)
  have HR : Hid (RV ((w.alloc (.cells #[.slice none 0 0] 24)).alloc (.cells #[.int .i64 0, .int .i64 0] 29)) w.heap.size (w.heap.size + 1) (.slice none 0 0) 0 0) := by
    refine ⟨(X1.new w _ _).keep ((Kp.refl [] _).alloc _) (by simp), ?_, ?_, fun o => ?_⟩ <;> simp [go_sem]
  have hcov : (Tk.scan s.data.toList).2.1 = 0 → ∀ (i : Nat) t, (Tk.scan s.data.toList).1[i]? = some t → t.at' ≤ 12000 := fun h i t hi => by
    have := cov_at _ _ _ (Tk.cov_scan s.data.toList (by omega) h) i t hi
    omega
  have hcnt := Tk.scan_count s.data.toList
  by_cases hc : (Tk.scan s.data.toList).2.1 = 0
  · have hE : Sx.parse f q s.data.toList = Sx.prog s.data.toList.length f q (Tk.scan s.data.toList).1 := by
      unfold Sx.parse
      rw [if_neg (by simpa using hc)]
    have hcv := hcov hc
    rw [hE] at hf ⊢
    unfold scanV at HSC
    rw [hc] at HSC
    clear hE hcov hw
    generalize (Tk.scan s.data.toList).1 = ts at *
    generalize (Tk.scan s.data.toList).2.2 = pp at *
    have HB := hide hB
    have HF := hide hf
    have HCV := hide hcv
    have HN := hide hzn
    clear hf hcv hB hzn hc
    go_enter Tryz.func16, Tryz.ntmps16
    go_wp2_with fail
    refine HSC.out.mono ?_
    rintro e w1 ⟨v, rfl, hown, hb1⟩
    have hvs : ∃ a n cap, v = .slice a n cap := by
      rcases hown.2 with ⟨hv, _⟩ | ⟨g, cap, cur, hv, _⟩
      · exact ⟨_, _, _, hv⟩
      · exact ⟨_, _, _, hv⟩
    obtain ⟨c, hrb, hfu, he, hv, hrd⟩ := rd_start (e := s.size) (hown.alloc (.cells #[.int .i64 0, .int .i64 pp] 29)) (by have h1 := HN.out; omega) hs HCV.out hvs
    have hrb' : c.rb = w1.heap.size + 1 := by rw [hrb]; simp
    have hm0 : Sx.prog s.data.toList.length f q ts = Sx.bnd (Sx.stage c.e f Sx.s0 (c.full.drop 0)) fun x s r => Sx.stages c.e f q [x] s r := by
      rw [hfu, he, HN.out, List.drop_zero]
      rfl
    have HRD := hide (read_any f q HB.out c _ 0 Sx.s0 hrd _ hm0 HF.out)
    have K1 : Hid (Kp [] w w1) := (((Kp.refl _ _).alloc _).alloc _).trans (Kp.of_below hb1)
    have HR1 := hide (HR.out.keep (Kp.of_below (S := []) hb1) (by simp) (by simp))
    have hz1 := hb1.size
    simp at hz1
    obtain ⟨av, nv, cv, hav⟩ := hvs
    rw [hav] at HRD hv
    rw [hav]
    rw [hrb'] at HRD
    have hlen : nv = ts.length := by
      rw [hfu] at hv
      simp only [Value.slice.injEq] at hv
      exact hv.2.1
    clear hown hb1 hrb hm0 hrd hv hav
    generalize Sx.prog s.data.toList.length f q ts = m0 at *
    clear hlen hcnt HCV HF HN hfu he
    have hq1 : w.heap.size < w1.heap.size := by omega
    have hq2 : w.heap.size + 1 < w1.heap.size := by omega
    go_wp2_with fail
    refine HRD.out.mono ?_
    intro e w2 hp
    rcases m0 with ⟨l, s2, r2⟩ | ⟨code, p, rest⟩
    · obtain ⟨m, a, cap, rfl, hSl, hk⟩ := hp
      have k2 : Kp [w1.heap.size + 1] w1 w2 := (((Kp.refl _ _).alloc _).alloc _).trans hk
      have hR2 := HR1.out.keep k2 (by simp; omega) (by simp; omega)
      have HR2 := hide hR2
      obtain ⟨⟨o0, oz⟩, f0, f1, fz⟩ := hR2
      have HSl := hide hSl
      have HK2 := hide k2
      clear hSl hk k2
      go_wp2
      have hRe := RV.set HR2.out (by omega) (.slice a l.length cap) 0 0
      have ks : Kp [w.heap.size + 1, w.heap.size] w2 (((w2.setCell ⟨w.heap.size, 0, none⟩ (.slice a l.length cap)).setCell ⟨w.heap.size + 1, 0, none⟩ (.int .i64 0)).setCell ⟨w.heap.size + 1, 1, none⟩ (.int .i64 0)) := Kp.rb (Kp.rb ((Kp.refl _ _).setCell (p := ⟨w.heap.size, 0, none⟩) (by simp) _) _ _) _ _
      obtain ⟨⟨p0, _⟩, g0, g1, _⟩ := hRe
      refine bodyPost_ret (v := .tuple #[.agg #[.slice a l.length cap], .agg #[.int .i64 0, .int .i64 0]]) (by simp [results, Tryz.results16, go_sem, p0, g0, g1]) rfl ⟨m, a, cap, rfl, ?_, ?_⟩
      · refine Sl.base (HSl.out.keep ks (fun k hk => by simp at hk ⊢; omega) (fun d cc hd => hd.keep ks (fun k hk => by simp at hk ⊢; omega))) (fun b _ hb => by simp at hb; omega) (fun d cc hd => ⟨hd.base (fun b _ hb => by simp at hb; omega), ?_⟩)
        obtain ⟨_, _, _, _, _, _, _, rfl, _⟩ := hd
        simp
      · refine Kp.new (b := w.heap.size) (Kp.new (b := w.heap.size + 1) (Kp.new (b := w1.heap.size + 1) (((K1.out.mono (by simp)).trans (HK2.out.mono (by simp))).trans (ks.mono (by simp))) (by omega)) (Nat.le_succ _)) (Nat.le_refl _)
    · obtain ⟨rfl, hk⟩ := hp
      have k2 : Kp [w1.heap.size + 1] w1 w2 := (((Kp.refl _ _).alloc _).alloc _).trans hk
      have hR2 := HR1.out.keep k2 (by simp; omega) (by simp; omega)
      have HR2 := hide hR2
      obtain ⟨⟨o0, oz⟩, f0, f1, fz⟩ := hR2
      have HK2 := hide k2
      clear hk k2
      go_wp2
      have hRe := RV.set HR2.out (by omega) (.slice none 0 0) code p
      have ks : Kp [w.heap.size + 1, w.heap.size] w2 (((w2.setCell ⟨w.heap.size, 0, none⟩ (.slice none 0 0)).setCell ⟨w.heap.size + 1, 0, none⟩ (.int .i64 code)).setCell ⟨w.heap.size + 1, 1, none⟩ (.int .i64 p)) := Kp.rb (Kp.rb ((Kp.refl _ _).setCell (p := ⟨w.heap.size, 0, none⟩) (by simp) _) _ _) _ _
      obtain ⟨⟨p0, _⟩, g0, g1, _⟩ := hRe
      refine bodyPost_ret (v := .tuple #[.agg #[.slice none 0 0], .agg #[.int .i64 code, .int .i64 p]]) (by simp [results, Tryz.results16, go_sem, p0, g0, g1]) rfl ⟨rfl, ?_⟩
      exact Kp.new (b := w.heap.size) (Kp.new (b := w.heap.size + 1) (Kp.new (b := w1.heap.size + 1) (((K1.out.mono (by simp)).trans (HK2.out.mono (by simp))).trans (ks.mono (by simp))) (by omega)) (Nat.le_succ _)) (Nat.le_refl _)
  · have hE : Sx.parse f q s.data.toList = .inr ((Tk.scan s.data.toList).2.1, (Tk.scan s.data.toList).2.2, []) := by
      unfold Sx.parse
      rw [if_pos (by simpa using hc)]
    have hnone := Tk.scan_none s.data.toList (by omega) hc
    rw [hE]
    unfold scanV at HSC
    rw [hnone] at HSC
    have dc : ((Tk.scan s.data.toList).2.1 == 0) = false := by simpa using hc
    clear hE hcov hw hnone hcnt hf hB hzn hc
    generalize (Tk.scan s.data.toList).2.1 = code at *
    generalize (Tk.scan s.data.toList).2.2 = pp at *
    go_enter Tryz.func16, Tryz.ntmps16
    go_wp2_with fail
    refine HSC.out.mono ?_
    rintro e w1 ⟨v, rfl, hown, hb1⟩
    have hv : v = .slice none 0 0 ∨ ∃ g cap, v = .slice (some ⟨g, 0, none⟩) 0 cap := by
      rcases hown.2 with ⟨hv, _⟩ | ⟨g, cap, cur, hv, _⟩
      · exact .inl hv
      · exact .inr ⟨g, cap, hv⟩
    have K1 : Hid (Kp [] w w1) := (((Kp.refl _ _).alloc _).alloc _).trans (Kp.of_below hb1)
    have HR1 := hide (HR.out.keep (Kp.of_below (S := []) hb1) (by simp) (by simp))
    have hz1 := hb1.size
    simp at hz1
    obtain ⟨⟨o0, oz⟩, f0, f1, fz⟩ := HR1.out
    have hq1 : w.heap.size < w1.heap.size := by omega
    have hq2 : w.heap.size + 1 < w1.heap.size := by omega
    have hex : ∃ a n cap, v = .slice a n cap := by
      rcases hv with rfl | ⟨g, cap, rfl⟩
      · exact ⟨_, _, _, rfl⟩
      · exact ⟨_, _, _, rfl⟩
    obtain ⟨av, nv, cv, hav⟩ := hex
    rw [hav]
    clear hown hb1 hv hav
    go_wp2
    go_region
    all_goals go_wp2
    have hRe := (RV.set HR1.out (by omega) (.slice none 0 0) code pp).keep (S := []) (((Kp.refl _ _).alloc (.cells #[.int .i64 code, .int .i64 pp] 29)).drew) (by simp) (by simp)
    have ks : Kp [w.heap.size + 1, w.heap.size] w1 (((w1.setCell ⟨w.heap.size, 0, none⟩ (.slice none 0 0)).setCell ⟨w.heap.size + 1, 0, none⟩ (.int .i64 code)).setCell ⟨w.heap.size + 1, 1, none⟩ (.int .i64 pp)) := Kp.rb (Kp.rb ((Kp.refl _ _).setCell (p := ⟨w.heap.size, 0, none⟩) (by simp) _) _ _) _ _
    obtain ⟨⟨p0, _⟩, g0, g1, _⟩ := hRe
    refine bodyPost_ret (v := .tuple #[.agg #[.slice none 0 0], .agg #[.int .i64 code, .int .i64 pp]]) (by simp [results, Tryz.results16, go_sem, p0, g0, g1]) rfl ⟨rfl, ?_⟩
    exact Kp.new (b := w.heap.size) (Kp.new (b := w.heap.size + 1) (((K1.out.mono (by simp)).trans ks).alloc _).drew (Nat.le_succ _)) (Nat.le_refl _)
end Go.Proofs.YtfngmdebmedkjacGreatDoor
/- Parse of every text that is not too long (spawn is owed). -/
namespace Go.Proofs.YtfngmdebmedkjacGreatDoor
open Go.RowKit

/-- What Parse tells of a text. -/
def Sx.parsed (l : List UInt8) : Sx.Rs (List Sx.Tr) := Sx.parse 72001 12001 l
theorem Tk.tok_code (l : List UInt8) : (Tk.tok l).code ≤ 4 := by
  unfold Tk.tok
  split
  · split
    · unfold Tk.numAns
      split <;> simp
    · unfold Tk.nameAns
      repeat' split
      all_goals simp
  · unfold Tk.signAns
    split
    · simp
    · simp
    · split <;> simp
theorem Tk.tl_code (f p : Nat) (l : List UInt8) : (Tk.tl f p l).2.1 ≤ 4 := by
  induction f generalizing p l with
  | zero => simp [Tk.tl]
  | succ f ih =>
    cases l with
    | nil => simp [Tk.tl]
    | cons b t =>
      simp only [Tk.tl]
      split
      · exact Tk.tok_code _
      · split
        · exact ih _ _
        · exact ih _ _
theorem Tk.scan_code (l : List UInt8) : (Tk.scan l).2.1 ≠ 99 := by
  unfold Tk.scan
  split
  · simp
  · have := Tk.tl_code (l.length + 1) (Tk.skip false l) (l.drop (Tk.skip false l))
    omega
theorem dry_iff {α : Type} (r : Sx.Rs α) (h : ¬ Sx.Dry' r) : ¬ Dry r := h
theorem parsed_wet (l : List UInt8) (hl : l.length ≤ 12000) : ¬ Dry (Sx.parsed l) := by
  unfold Sx.parsed Sx.parse
  by_cases hc : (Tk.scan l).2.1 = 0
  · rw [if_neg (by simpa using hc)]
    have h1 := Tk.scan_count l
    exact dry_iff _ (Sx.prog_wet _ _ _ _ (by omega) (by omega))
  · rw [if_pos (by simpa using hc)]
    rintro ⟨p, q, h⟩
    simp only [Sum.inr.injEq, Prod.mk.injEq] at h
    exact Tk.scan_code l h.1
theorem parse_all (h10 : ∀ f, CP 10 f) (s : ByteArray) (w : World) (hw : WTab w) (hs : s.size ≤ 12000) :
    Calls Tryz.prog 16 #[.string s] w (Told w [] (Sx.parsed s.data.toList)) :=
  parse_in 72001 12001 (ps_any h10 72001).1 s w hw hs (parsed_wet _ (by have := Lib.size_eq s; omega))
end Go.Proofs.YtfngmdebmedkjacGreatDoor
