import Derived.Test.YtfngmdebmedkjaePthC
import Derived.Test.YtfngmdebmedkjaePthBs
/- The search: what is kept of each that comes. -/
namespace Go.Proofs.Ytfngmdebmedkjae
open Go.RowKit

/-- A row of numbers that is written in place. -/
structure AR (ga : Nat) (w : World) (ah : List Int) : Prop where
  cell : ∀ (k : Nat) x, ah[k]? = some x → w.cell? ⟨ga, k, none⟩ = some (.int .i64 x)
  thaw : ∀ k, w.frozen? ⟨ga, k, none⟩ = false
  lt : ga < w.heap.size
theorem AR.keep {ga : Nat} {w w' : World} {ah : List Int} (h : AR ga w ah) (hb : w'.heap[ga]? = w.heap[ga]?) (hs : w.heap.size ≤ w'.heap.size) : AR ga w' ah :=
  ⟨fun k x hx => (World.cell?_of_block (w := w) (a := ⟨ga, k, none⟩) hb).trans (h.cell k x hx), fun k => (World.frozen?_of_block (w := w) (a := ⟨ga, k, none⟩) hb).trans (h.thaw k), by have := h.lt; omega⟩
theorem AR.below {ga : Nat} {w w' : World} {ah : List Int} (h : AR ga w ah) (hb : Below w.heap.size w w') : AR ga w' ah := h.keep (hb.block ga h.lt) hb.size
theorem AR.set {ga : Nat} {w : World} {ah : List Int} (h : AR ga w ah) {v : Nat} {x : Int} (hv : ah[v]? = some x) (y : Int) : AR ga (w.setCell ⟨ga, v, none⟩ (.int .i64 y)) (ah.set v y) := by
  have hc := h.cell v x hv
  refine ⟨fun k z hz => ?_, fun k => ?_, by simpa [World.setCell] using h.lt⟩
  · by_cases e : k = v
    · subst e
      rw [List.getElem?_set_self (List.getElem?_eq_some_iff.1 hv).1] at hz
      cases hz
      simp [go_sem, hc]
    · rw [List.getElem?_set_ne (by omega)] at hz
      have := h.cell k z hz
      simp [go_sem, this]
  · have := h.thaw k
    simp [go_sem, this]
theorem VR.keepX {B b : Nat} {X Y : Nat → Prop} {w w' : World} {l : List Int} {v : Value} (h : VR B b X w l v) (hk : Kx Y w w') (hb : Y b) (hg : ∀ g, v.ownBlock = some g → Y g) : VR B b X w' l v := by
  have hbl := h.blt
  refine ⟨hk.cell h.cell hb, (hk.frozen (p := ⟨b, 0, none⟩) hbl hb).trans h.thaw, own_keep h.own (fun g e => hk.block g (h.own.lt g e).2 (hg g e)), Nat.le_trans h.lt hk.size, h.nb, h.ng, fun k hx => Nat.lt_of_lt_of_le (h.few k hx) hk.size⟩

/-- What the search keeps: the row of those ahead, and the line. -/
structure SM (B ga ba bl n ca : Nat) (X : Nat → Prop) (w : World) (ah : List Int) (ln : List Nat) (v : Value) : Prop where
  av : w.cell? ⟨ba, 0, none⟩ = some (.slice (some ⟨ga, 0, none⟩) n ca)
  ar : AR ga w ah
  len : ah.length = n
  vr : VR B bl (fun k => X k ∨ k = ga ∨ k = ba) w (up ln) v
  xg : ¬ X ga
  ne : ga ≠ ba
theorem SM.grow {B ga ba bl n ca : Nat} {X : Nat → Prop} {w1 w2 : World} {ah : List Int} {ln : List Nat} {v : Value} (h : SM B ga ba bl n ca X w1 ah ln v) (hb : Below w1.heap.size w1 w2) : SM B ga ba bl n ca (fun k => X k ∨ (w1.heap.size ≤ k ∧ k < w2.heap.size)) w2 ah ln v := by
  have hs := hb.size
  refine ⟨bsome hb h.av, h.ar.below hb, h.len, (h.vr.grow hb).less (fun k hk => ?_), ?_, h.ne⟩
  · rcases hk with (hk | hk) | hk
    · exact .inl (.inl hk)
    · exact .inr hk
    · exact .inl (.inr hk)
  · rintro (hx | hx)
    · exact h.xg hx
    · have := h.ar.lt; omega
theorem SM.less {B ga ba bl n ca : Nat} {X Y : Nat → Prop} {w : World} {ah : List Int} {ln : List Nat} {v : Value} (h : SM B ga ba bl n ca X w ah ln v) (hy : ∀ k, Y k → X k) : SM B ga ba bl n ca Y w ah ln v :=
  ⟨h.av, h.ar, h.len, h.vr.less (fun k hk => hk.imp (hy k) id), fun hx => h.xg (hy _ hx), h.ne⟩
theorem up_snoc (l : List Nat) (v : Nat) : up (l ++ [v]) = up l ++ [(v : Int)] := by simp [up]
/-- One is found: it is stored who is ahead of it, and it stands at the line's end. -/
theorem SM.found {B ga ba bl n ca : Nat} {X : Nat → Prop} {w w1 : World} {ah : List Int} {ln : List Nat} {v0 : Value} {v u : Nat} {x : Int} {g cap : Nat} {o : Obj} (h : SM B ga ba bl n ca X w ah ln v0) (hv : ah[v]? = some x)
    (hown : w1.ownsRow B 3 1 (.slice (some ⟨g, 0, none⟩) ((up ln).length + 1) cap) ((up ln).length + 1) (ints (up ln) ++ [.int .i64 (v : Int)])) (hgrow : ((w.setCell ⟨ga, v, none⟩ (.int .i64 (u : Int))).alloc o).grownBy w1 v0.ownBlock) (hat : v0.ownBlock = some g ∨ g = w.heap.size + 1) (hlt : g < w1.heap.size) :
    SM B ga ba bl n ca X (w1.setCell ⟨bl, 0, none⟩ (.slice (some ⟨g, 0, none⟩) ((up ln).length + 1) cap)) (ah.set v (u : Int)) (ln ++ [v]) (.slice (some ⟨g, 0, none⟩) ((up ln).length + 1) cap) ∧ Kx X w (w1.setCell ⟨bl, 0, none⟩ (.slice (some ⟨g, 0, none⟩) ((up ln).length + 1) cap)) := by
  have hgl := h.ar.lt
  have hba := World.block_lt_of_cell? _ _ h.av
  have hbg : bl ≠ ga := fun e => h.vr.nb (.inr (.inl e))
  have hog : ∀ g', v0.ownBlock = some g' → g' ≠ ga := fun g' e1 e2 => (h.vr.ng g' e1).1 (.inr (.inl e2))
  have hk0 : Kx (fun k => k ≠ ga) w (w.setCell ⟨ga, v, none⟩ (.int .i64 (u : Int))) := (Kx.refl _ w).set (.inr (fun e => e rfl)) _
  have hv1 := h.vr.keepX hk0 hbg hog
  have ha1 := h.ar.set hv (u : Int)
  have hsz : (w.setCell ⟨ga, v, none⟩ (.int .i64 (u : Int))).heap.size = w.heap.size := by simp [World.setCell]
  obtain ⟨r1, r2⟩ := hv1.push hown hgrow (by rw [hsz]; exact hat) hlt
  have av1 : (w.setCell ⟨ga, v, none⟩ (.int .i64 (u : Int))).cell? ⟨ba, 0, none⟩ = some (.slice (some ⟨ga, 0, none⟩) n ca) := hk0.cell h.av (fun e => h.ne e.symm)
  refine ⟨⟨r2.cell av1 (.inr (.inr rfl)), ha1.keep (r2.block ga (by rw [hsz]; exact hgl) (.inr (.inl rfl))) r2.size, by simpa using h.len, ?_, h.xg, h.ne⟩, ?_⟩
  · rw [up_snoc]; exact r1
  · exact (hk0.mono (fun k _ hx e => h.xg (e ▸ hx))).trans (r2.mono (fun k _ hx => .inl hx))

set_option maxRecDepth 100000 in
set_option maxHeartbeats 1000000 in
theorem spreadC_no (B ga ba bi bl n ca : Nat) (X : Nat → Prop) (w : World) (ah : List Int) (ln : List Nat) (v0 : Value) (v : Nat) (x : Int) (h : SM B ga ba bl n ca X w ah ln v0) (hx : ah[v]? = some x) (hne : x ≠ -1) :
    Calls Try.prog 22 #[.int .i64 v, .pointer (some ⟨ba, 0, none⟩), .pointer (some ⟨bi, 0, none⟩), .pointer (some ⟨bl, 0, none⟩)] w fun e w' => e = .returned (.tuple #[]) ∧ w' = w := by
  have hvn : v < n := by rw [← h.len]; exact (List.getElem?_eq_some_iff.1 hx).1
  have a0 := h.av
  have a1 := h.ar.cell v x hx
  have b1 := beq_no hne
  clear h hx
  go_enter Try.func22, Try.ntmps22
  go_wp2
  go_end0
  exact ⟨rfl, rfl⟩
set_option maxRecDepth 100000 in
set_option maxHeartbeats 1000000 in
theorem spreadC_yes (B ga ba bi bl n ca : Nat) (X : Nat → Prop) (w : World) (ah : List Int) (ln : List Nat) (v0 : Value) (u v : Nat) (h : SM B ga ba bl n ca X w ah ln v0) (hu : w.cell? ⟨bi, 0, none⟩ = some (.int .i64 u)) (hx : ah[v]? = some (-1)) (hl : ln.length ≤ 1000) :
    Calls Try.prog 22 #[.int .i64 v, .pointer (some ⟨ba, 0, none⟩), .pointer (some ⟨bi, 0, none⟩), .pointer (some ⟨bl, 0, none⟩)] w fun e w' => e = .returned (.tuple #[]) ∧ (∃ v', SM B ga ba bl n ca X w' (ah.set v (u : Int)) (ln ++ [v]) v') ∧ Kx X w w' := by
  obtain ⟨i0, hi, hz0, hz1, hz2⟩ := info_parts Try.info3
  have hvn : v < n := by rw [← h.len]; exact (List.getElem?_eq_some_iff.1 hx).1
  have H := hide h
  have HX := hide hx
  have a0 := h.av
  have a1 := h.ar.cell v _ hx
  have a2 := h.ar.thaw v
  have hgl := h.ar.lt
  have hbg : bl ≠ ga := fun e => h.vr.nb (.inr (.inl e))
  have hba : ga ≠ ba := h.ne
  have hbl := h.vr.blt
  have c0 := h.vr.cell
  have hlB := h.vr.lt
  have hul : (up ln).length ≤ 1000 := by rw [up_len]; exact hl
  have hog : ∀ g', v0.ownBlock = some g' → g' ≠ ga := fun g' e1 e2 => (h.vr.ng g' e1).1 (.inr (.inl e2))
  have hk0 : Kx (fun k => k ≠ ga) w (w.setCell ⟨ga, v, none⟩ (.int .i64 (u : Int))) := (Kx.refl _ w).set (.inr (fun e => e rfl)) _
  have HO := hide (h.vr.keepX hk0 hbg hog).own
  have HT := hide ((hk0.frozen (p := ⟨bl, 0, none⟩) hbl hbg).trans h.vr.thaw)
  have HC0 := hide (hk0.cell c0 hbg)
  have HNB := hide (fun (e : some bl = v0.ownBlock) => (h.vr.ng bl e.symm).2 rfl)
  clear h hx hog hk0
  go_enter Try.func22, Try.ntmps22
  go_wp2_with (at_builtin; refine wpList_append_lies _ rfl _ _ 30 rfl B 3 i0 (.int .i64 0) 1 8 Try.underlying30 hi hz0 hz1 hz2 rfl (by decide) _ _ _ rfl (HO.out.alloc _) ⟨w.heap.size, 0, none⟩ 1 1 [.int .i64 v] rfl rfl ?c1 ?c2 ?c3 ?c4 ?c5 ?c6 _ rfl ?_)
  case c1 =>
    have := cell_one_new (w.setCell ⟨ga, v, none⟩ (.int .i64 (u : Int))) (.int .i64 v) 3
    simpa using this
  case c2 => intro u hu; simp at hu; subst hu; rfl
  case c3 => decide
  case c4 => unfold maxLen; omega
  case c5 => omega
  case c6 => simp; omega
  intro g cap w1 hown hgrow hat hlt
  have R := hide (H.out.found HX.out hown hgrow (by simpa using hat) hlt)
  have hb1 : w1.heap[bl]? = (w.setCell ⟨ga, v, none⟩ (.int .i64 (u : Int))).heap[bl]? := (hgrow.block bl (by simp [World.setCell]; omega) HNB.out).trans (Below.heap_alloc _ _ _ (by simpa [World.setCell] using hbl))
  have c1 : w1.cell? ⟨bl, 0, none⟩ = some v0 := (World.cell?_of_block (a := ⟨bl, 0, none⟩) hb1).trans HC0.out
  have f1 : w1.frozen? ⟨bl, 0, none⟩ = false := (World.frozen?_of_block (a := ⟨bl, 0, none⟩) hb1).trans HT.out
  clear hown hgrow hat hb1
  go_wp2
  go_end0
  exact ⟨rfl, ⟨_, R.out.1⟩, R.out.2⟩

/-- The search, as far as it has come, with what is looked at now. -/
def SI (nx : Nat → List Nat) (B ga ba bi bl n ca a k u : Nat) (X : Nat → Prop) (w : World) (d : List Nat) : Prop :=
  ∃ ah ln g v, Pa.Inv nx n a ah ln k d g ∧ ln[k]? = some u ∧ SM B ga ba bl n ca (fun b => X b ∨ b = bi) w ah ln v ∧ w.cell? ⟨bi, 0, none⟩ = some (.int .i64 u)
theorem clo_spread (nx : Nat → List Nat) (n : Nat) (hlt : ∀ i v, v ∈ nx i → v < n) (hs : ∀ i, (nx i).Pairwise (· < ·)) (B ga ba bi bl ca a k u : Nat) (hn : n ≤ 300) : Clo (nx u) (SI nx B ga ba bi bl n ca a k u) 22 [.pointer (some ⟨ba, 0, none⟩), .pointer (some ⟨bi, 0, none⟩), .pointer (some ⟨bl, 0, none⟩)] := by
  refine ⟨fun X w1 w2 d h hb => ?_, fun X Y w1 d hy h => ?_, fun X w1 d v rest hd h => ?_⟩
  · obtain ⟨ah, ln, g, v, h1, h2, h3, h4⟩ := h
    refine ⟨ah, ln, g, v, h1, h2, (h3.grow hb).less (fun b hb => ?_), bsome hb h4⟩
    rcases hb with (hb | hb) | hb
    · exact .inl (.inl hb)
    · exact .inr hb
    · exact .inl (.inr hb)
  · obtain ⟨ah, ln, g, v, h1, h2, h3, h4⟩ := h
    exact ⟨ah, ln, g, v, h1, h2, h3.less (fun b hb => hb.imp (hy b) id), h4⟩
  · obtain ⟨ah, ln, g, v0, h1, h2, h3, h4⟩ := h
    have hvu : v ∈ nx u := by rw [← hd]; simp
    have hvn : v < n := hlt u v hvu
    obtain ⟨x, hx⟩ : ∃ x, ah[v]? = some x := ⟨_, List.getElem?_eq_getElem (by rw [h1.len]; exact hvn)⟩
    by_cases hx1 : x = -1
    · subst hx1
      refine (spreadC_yes B ga ba bi bl n ca _ w1 ah ln v0 u v h3 h4 hx (by have := h1.few; omega)).mono fun e w2 ⟨e1, ⟨v', e2⟩, e3⟩ => ⟨e1, ?_, e3.mono (fun b _ hb => .inl hb)⟩
      have hk : k < ln.length := (List.getElem?_eq_some_iff.1 h2).1
      exact ⟨_, _, _, v', h1.add h2 (hs u) hd hvn hx, by rw [List.getElem?_append_left hk]; exact h2, e2, e3.cell h4 (.inr rfl)⟩
    · refine (spreadC_no B ga ba bi bl n ca _ w1 ah ln v0 v x h3 hx hx1).mono fun e w2 ⟨e1, e2⟩ => ?_
      subst e2
      exact ⟨e1, ⟨ah, ln, g, v0, h1.skip hvn (by rw [hx]; simpa using hx1), h2, h3, h4⟩, Kx.refl _ _⟩
end Go.Proofs.Ytfngmdebmedkjae
