/- Rows of faults: two cells each. -/
import Derived.Test.YtmenmlkclggjjaaDoorSmall
import Derived.Test.YtmenmlkclggjjaaDoorPlainOrder
import Derived.Deep.QuietTactic
import Derived.BigQuiet
import Derived.Lib.SlicesCompact
namespace Go.Proofs.YtmenmlkclggjjaaDoor
open Go.RowKit

theorem Tryd.info24 : (Tryd.prog.info? 24).map (fun i => (i.zero, i.size, i.bytes)) = some (some (.agg #[.int .i64 0, .int .i64 0]), 2, 16) := by kernel_rfl

/-- The cells of a row of faults. -/
def fcells : List (Int × Int) → List Value
  | [] => []
  | x :: r => .int .i64 x.1 :: .int .i64 x.2 :: fcells r
theorem fcells_len (l : List (Int × Int)) : (fcells l).length = l.length * 2 := by
  induction l with
  | nil => rfl
  | cons x r ih => simp only [fcells, List.length_cons, ih]; omega
theorem fcells_app (a b : List (Int × Int)) : fcells (a ++ b) = fcells a ++ fcells b := by
  induction a with
  | nil => rfl
  | cons x r ih => simp [fcells, ih]
theorem fcells_at (l : List (Int × Int)) (i : Nat) (h : i < l.length) : (fcells l)[i * 2]? = some (.int .i64 (l[i]?.getD (0, 0)).1) ∧ (fcells l)[i * 2 + 1]? = some (.int .i64 (l[i]?.getD (0, 0)).2) := by
  induction l generalizing i with
  | nil => simp at h
  | cons x r ih =>
    match i with
    | 0 => simp [fcells]
    | i + 1 =>
      have := ih i (by simpa using h)
      rw [show (i + 1) * 2 = i * 2 + 1 + 1 from by omega]
      simpa [fcells] using this
theorem fcells_one (l : List (Int × Int)) : ∀ u ∈ fcells l, u.oneCell' = true := by
  induction l with
  | nil => simp [fcells]
  | cons x r ih =>
    intro u hu
    simp only [fcells, List.mem_cons] at hu
    rcases hu with rfl | rfl | hu
    · rfl
    · rfl
    · exact ih u hu

/-- A row of faults lies at a place. -/
def FAt (w : World) (b off : Nat) (l : List (Int × Int)) : Prop :=
  ∀ i, i < l.length → w.cell? ⟨b, off + i * 2, none⟩ = some (.int .i64 (l[i]?.getD (0, 0)).1) ∧ w.cell? ⟨b, off + i * 2 + 1, none⟩ = some (.int .i64 (l[i]?.getD (0, 0)).2)

theorem FAt.below {w w' : World} {b off : Nat} {l : List (Int × Int)} (h : FAt w b off l) {B : Nat} (hb : Below B w w') (hlt : b < B) : FAt w' b off l :=
  fun i hi => ⟨(hb.cell (p := ⟨b, off + i * 2, none⟩) hlt).trans (h i hi).1, (hb.cell (p := ⟨b, off + i * 2 + 1, none⟩) hlt).trans (h i hi).2⟩

theorem add_plain' (g j : Nat) : (⟨g, 0, none⟩ : Addr).add j = ⟨g, j, none⟩ := by unfold Addr.add; split <;> simp_all

/-- What an owned row of faults gives. -/
theorem own_fat {w : World} {B : Nat} {v : Value} {l : List (Int × Int)} (h : w.ownsRow B 24 2 v l.length (fcells l)) (hp : 0 < l.length) :
    ∃ g cap, v = .slice (some ⟨g, 0, none⟩) l.length cap ∧ B ≤ g ∧ g < w.heap.size ∧ l.length ≤ cap ∧ cap ≤ maxLen ∧ FAt w g 0 l := by
  rcases h.2 with ⟨_, h0⟩ | ⟨g, cap, cur, hv, hb, hg, hnc, hcm, _, _⟩
  · omega
  · refine ⟨g, cap, hv, hb, (h.lt g (by rw [hv]; rfl)).2, hnc, hcm, fun i hi => ?_⟩
    have h1 := h.cells (g := g) (by rw [hv]; rfl) (i * 2) _ (fcells_at l i hi).1
    have h2 := h.cells (g := g) (by rw [hv]; rfl) (i * 2 + 1) _ (fcells_at l i hi).2
    rw [add_plain'] at h1 h2
    simpa using ⟨h1, h2⟩

/-- Those that have a code, among the first k. -/
def coded (l : List (Int × Int)) : Nat → List (Int × Int)
  | 0 => []
  | k + 1 => if (l[k]?.getD (0, 0)).1 = 0 then coded l k else coded l k ++ [l[k]?.getD (0, 0)]
theorem coded_len (l : List (Int × Int)) (k : Nat) : (coded l k).length ≤ k := by
  induction k with
  | zero => simp [coded]
  | succ k ih =>
    simp only [coded]
    split
    · omega
    · simp; omega
theorem mem_coded (l : List (Int × Int)) (k : Nat) (hk : k ≤ l.length) (z : Int × Int) : z ∈ coded l k ↔ z ∈ l.take k ∧ z.1 ≠ 0 := by
  induction k with
  | zero => simp [coded]
  | succ k ih =>
    have hk' : k < l.length := by omega
    have e : l.take (k + 1) = l.take k ++ [l[k]?.getD (0, 0)] := by
      rw [List.take_add_one, List.getElem?_eq_getElem hk']; rfl
    rw [e]
    simp only [coded, List.mem_append, List.mem_singleton]
    by_cases h : (l[k]?.getD (0, 0)).1 = 0
    · rw [if_pos h, ih (by omega)]
      constructor
      · rintro ⟨h1, h2⟩; exact ⟨.inl h1, h2⟩
      · rintro ⟨h1 | h1, h2⟩
        · exact ⟨h1, h2⟩
        · rw [h1] at h2; exact absurd h h2
    · rw [if_neg h]
      simp only [List.mem_append, List.mem_singleton, ih (by omega)]
      constructor
      · rintro (⟨h1, h2⟩ | rfl)
        · exact ⟨.inl h1, h2⟩
        · exact ⟨.inr rfl, h⟩
      · rintro ⟨h1 | h1, h2⟩
        · exact .inl ⟨h1, h2⟩
        · exact .inr h1

theorem coded_hit (l : List (Int × Int)) (k : Nat) (h : ¬ (l[k]?.getD (0, 0)).1 = 0) : coded l (k + 1) = coded l k ++ [l[k]?.getD (0, 0)] := by simp [coded, h]
theorem coded_miss (l : List (Int × Int)) (k : Nat) (h : (l[k]?.getD (0, 0)).1 = 0) : coded l (k + 1) = coded l k := by simp [coded, h]

/-- What is asked of the library's sort. -/
def SortSaid : Prop := ∀ (B : Nat) (F : List (Int × Int)) (v : Value) (w : World), F.length ≤ 300 → w.ownsRow B 24 2 v F.length (fcells F) → (F = [] → v = .slice none 0 0) →
  Calls Tryd.prog 24 #[v, .func (.func 25) #[] #[]] w fun e w' => e = .returned (.tuple #[]) ∧ ∃ F' : List (Int × Int), F'.Perm F ∧ (∀ i j, i < j → j < F'.length → Pl.flt (F'[j]?.getD (0, 0)) (F'[i]?.getD (0, 0)) = false) ∧
    w'.ownsRow B 24 2 v F'.length (fcells F') ∧ Below B w w'
/-- What is asked of the library's Compact. -/
def CompactSaid : Prop := ∀ (B : Nat) (F : List (Int × Int)) (v : Value) (w : World), F.length ≤ 300 → w.ownsRow B 24 2 v F.length (fcells F) → (F = [] → v = .slice none 0 0) →
  Calls Tryd.prog 27 #[v] w fun e w' => ∃ v', e = .returned v' ∧ w'.ownsRow B 24 2 v' (Lib.compact F).length (fcells (Lib.compact F)) ∧ Below B w w' ∧ (Lib.compact F = [] → v' = .slice none 0 0)

theorem rel_hitF {B k : Nat} {l : List (Int × Int)} {x : Int × Int} {w wr w1 : World} {v v' : Value} {o1 o2 : Obj} (hB : B ≤ wr.heap.size) (hx : l[k]?.getD (0, 0) = x) (hne : (x.1 != 0) = true)
    (hown : wr.ownsRow B 24 2 v (coded l k).length (fcells (coded l k))) (hnx : Below B w wr)
    (hown' : w1.ownsRow B 24 2 v' ((coded l k).length + 1) (fcells (coded l k) ++ [.int .i64 x.1, .int .i64 x.2])) (hgrow : ((wr.alloc o1).alloc o2).grownBy w1 v.ownBlock) :
    w1.ownsRow B 24 2 v' (coded l (k + 1)).length (fcells (coded l (k + 1))) ∧ Below B w w1 ∧ (coded l (k + 1) = [] → v' = .slice none 0 0) := by
  subst hx
  have e1 := coded_hit l k (by simpa using hne)
  refine ⟨?_, ((hnx.alloc hB o1).alloc (by simp; omega) o2).grown hgrow (by simp; omega) (fun j hj => (hown.lt j hj).1), ?_⟩
  · rw [e1, fcells_app]
    simpa [fcells] using hown'
  · rw [e1]; simp

theorem cells_two_new (w : World) (n : Nat) (hn : n = w.heap.size) (x y : Value) (t : TypeId) : ∀ (j : Nat) (u : Value), [x, y][j]? = some u → (w.alloc (.cells #[x, y] t)).cell? ((⟨n, 0, none⟩ : Addr).add j) = some u := by
  intro j u hj
  subst hn
  rw [add_plain']
  match j, hj with
  | 0, hj => simp at hj; subst hj; simp [go_sem]
  | 1, hj => simp at hj; subst hj; simp [go_sem]

set_option maxRecDepth 100000 in
set_option maxHeartbeats 400000 in
theorem order_some (hS : SortSaid) (hC : CompactSaid) (l : List (Int × Int)) (b off cap : Nat) (w : World) (hl : l.length ≤ 300) (hb : b < w.heap.size) (hc : FAt w b off l) :
    Calls Tryd.prog 13 #[.slice (some ⟨b, off, none⟩) l.length cap] w fun e w' => ∃ (v : Value) (F' : List (Int × Int)), e = .returned v ∧ F'.Perm (coded l l.length) ∧ (∀ i j, i < j → j < F'.length → Pl.flt (F'[j]?.getD (0, 0)) (F'[i]?.getD (0, 0)) = false) ∧
      w'.ownsRow w.heap.size 24 2 v (Lib.compact F').length (fcells (Lib.compact F')) ∧ Below w.heap.size w w' ∧ (Lib.compact F' = [] → v = .slice none 0 0) := by
  obtain ⟨i0, hi, hz0, hz1, hz2⟩ := info_parts Tryd.info24
  go_enter Tryd.func13, Tryd.ntmps13
  go_wp2
  go_loopw [3, 8] (fun v i wr => ∃ k : Nat, k ≤ l.length ∧ i = .int .i64 k ∧ wr.ownsRow w.heap.size 24 2 v (coded l k).length (fcells (coded l k)) ∧ Below w.heap.size w wr ∧ (coded l k = [] → v = .slice none 0 0)) (fun _ i _ => l.length - (intOf i).toNat)
  case atStart => exact ⟨0, Nat.zero_le _, rfl, World.ownsRow_nil _ _ _ _, Below.refl _ _, fun _ => rfl⟩
  case round =>
    obtain ⟨k, hk, rfl, hown, hnx, hnil⟩ := hrel
    have h1 := coded_len l k
    have h3 := hnx.size
    by_cases hlt : k < l.length
    · obtain ⟨c0, c1⟩ := (hc.below hnx hb) k hlt
      generalize hx : l[k]?.getD (0, 0) = x at c0 c1
      have HX := hide hx
      have HN := hide hnil
      clear hx hnil
      have hbr : b < wr.heap.size := by omega
      go_wp2_with (at_builtin; refine wpList_append_own _ rfl _ _ 31 rfl w.heap.size 24 i0 (.agg #[.int .i64 0, .int .i64 0]) 2 16 Tryd.underlying31 hi hz0 hz1 hz2 rfl (by decide) _ _ _ rfl ((hown.alloc _).alloc _) ⟨wr.heap.size + 1, 0, none⟩ 1 1 [.int .i64 x.1, .int .i64 x.2] rfl rfl ?c1 ?c2 ?c3 ?c4 ?c5 ?_)
      case c1 => exact cells_two_new _ _ (by simp) _ _ _
      case c2 => intro u hu; simp at hu; rcases hu with rfl | rfl <;> rfl
      case c3 => unfold maxLen; omega
      case c4 => omega
      case c5 => simp; omega
      · intro v' w1 hown' hgrow _
        have hne : (x.1 != 0) = true := by assumption
        have R := rel_hitF h3 HX.out hne hown hnx hown' hgrow
        clear hown' hgrow hown hnx
        go_wp2
        go_roundw
        case rel => exact ⟨k + 1, by omega, by go_num, R.1, R.2.1, R.2.2⟩
        case measure => simp [intOf]; omega
      · have hne : (x.1 != 0) = false := by assumption
        have e1 := coded_miss l k (by rw [HX.out]; simpa using hne)
        have R := hown.alloc (Obj.cells #[Value.int IntKind.i64 x.fst, Value.int IntKind.i64 x.snd] 24)
        rw [← e1] at R
        have N := HN.out
        rw [← e1] at N
        go_roundw
        case rel => exact ⟨k + 1, by omega, by go_num, R, hnx.alloc h3 _, N⟩
        case measure => simp [intOf]; omega
    · obtain rfl : k = l.length := by omega
      have HN := hide hnil
      clear hnil
      go_wp2_with fail
      refine (hS w.heap.size (coded l l.length) _ _ (by omega) hown HN.out).mono ?_
      rintro e w1 ⟨rfl, F', hperm, hsort, hown1, hb1⟩
      have hlen := hperm.length_eq
      have HP := hide hperm
      have HSo := hide hsort
      clear hperm hsort
      go_wp2_with fail
      refine (hC w.heap.size F' _ _ (by omega) hown1 ?_).mono ?_
      · intro hF
        apply HN.out
        rw [hF] at hlen
        exact List.eq_nil_of_length_eq_zero (by simpa using hlen.symm)
      rintro e w2 ⟨v2, rfl, hown2, hb2, hnil2⟩
      have HN2 := hide hnil2
      clear hnil2
      go_wp2
      go_ret
      exact ⟨_, F', rfl, HP.out, HSo.out, hown2, (hnx.trans hb1).trans hb2, HN2.out⟩

set_option maxRecDepth 100000 in
set_option maxHeartbeats 400000 in
theorem order_zero (hS : SortSaid) (hC : CompactSaid) (a0 : Option Addr) (cap : Nat) (w : World) :
    Calls Tryd.prog 13 #[.slice a0 0 cap] w fun e w' => e = .returned (.slice none 0 0) ∧ Below w.heap.size w w' := by
  go_enter Tryd.func13, Tryd.ntmps13
  go_wp2
  go_loop [3, 8] (fun v i => i = .int .i64 0 ∧ v = .slice none 0 0) (fun _ _ => 0)
  case atStart => exact ⟨rfl, rfl⟩
  case round =>
    obtain ⟨rfl, rfl⟩ := hrel
    go_wp2_with fail
    refine (hS w.heap.size [] _ _ (by simp) (World.ownsRow_nil _ _ _ _) (fun _ => rfl)).mono ?_
    rintro e w1 ⟨rfl, F', hperm, hsort, hown1, hb1⟩
    obtain rfl : F' = [] := List.eq_nil_of_length_eq_zero (by simpa using hperm.length_eq)
    clear hperm hsort
    go_wp2_with fail
    refine (hC w.heap.size [] _ _ (by simp) (World.ownsRow_nil _ _ _ _) (fun _ => rfl)).mono ?_
    rintro e w2 ⟨v2, rfl, hown2, hb2, hnil2⟩
    obtain rfl := hnil2 rfl
    go_wp2
    go_ret
    exact ⟨rfl, hb1.trans hb2⟩
end Go.Proofs.YtmenmlkclggjjaaDoor
