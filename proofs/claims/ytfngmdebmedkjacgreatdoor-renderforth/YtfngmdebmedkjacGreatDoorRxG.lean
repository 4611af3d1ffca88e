import Derived.Test.YtfngmdebmedkjacGreatDoorRxB
import Derived.Test.YtfngmdebmedkjacGreatDoorShelf
import Derived.BigQuiet
/- The tables that render reads; kinds, operations, types: the program's own small functions. -/
namespace Go.Proofs.YtfngmdebmedkjacGreatDoor
open Go.RowKit

def Rn.forms : List (List UInt8) := [[], [108, 101, 116, 32, 65, 32, 61, 32, 69, 59], [115, 101, 116, 32, 65, 32, 61, 32, 69, 59], [101, 109, 105, 116, 32, 69, 59], [99, 104, 97, 110, 32, 65, 32, 66, 32, 84, 32, 78, 59], [99, 108, 111, 110, 101, 32, 65, 32, 66, 59], [115, 101, 110, 100, 32, 65, 32, 69, 59], [99, 108, 111, 115, 101, 32, 65, 59], [97, 98, 97, 110, 100, 111, 110, 32, 65, 59], [100, 114, 97, 105, 110, 32, 65, 59], [115, 112, 97, 119, 110, 32, 65, 40, 69, 41, 59], [116, 97, 107, 101, 32, 65, 32, 102, 114, 111, 109, 32, 66, 32, 83, 79], [102, 111, 114, 32, 65, 32, 102, 114, 111, 109, 32, 66, 32, 83], [114, 101, 112, 101, 97, 116, 32, 69, 32, 83], [105, 102, 32, 69, 32, 83, 79]]
/-- Parts, sign, how tightly, left, right. -/
def Rn.opers : List (Int × List UInt8 × Int × Int × Int) := [(0, [], 0, 0, 0), (0, [], 3, 0, 0), (0, [], 3, 0, 0), (1, [45], 3, 0, 3), (2, [32, 43, 32], 1, 1, 2), (2, [32, 45, 32], 1, 1, 2), (2, [32, 42, 32], 2, 2, 3), (2, [32, 60, 32], 0, 1, 1), (2, [32, 61, 61, 32], 0, 1, 1)]
theorem gPowIs : Tryz.prog.globalNamed "internal/strconv.uint64pow10" = some 6 := by kernel_rfl
/-- The tables as they are laid. -/
structure Tb (w : World) : Prop where
  words : WTab w
  size : 9 ≤ w.heap.size
  pow : Lib.TabIs Tryz.prog w "internal/strconv.uint64pow10" .u64 Lib.pow10Tab
  forms : ∀ (i : Nat) b, Rn.forms[i]? = some b → w.cell? ⟨0, i, none⟩ = some (.string (bs b))
  opers : ∀ (i : Nat) o, Rn.opers[i]? = some o → w.cell? ⟨4, i * 5, none⟩ = some (.int .i64 o.1) ∧ w.cell? ⟨4, i * 5 + 1, none⟩ = some (.string (bs o.2.1)) ∧ w.cell? ⟨4, i * 5 + 2, none⟩ = some (.int .i64 o.2.2.1) ∧ w.cell? ⟨4, i * 5 + 3, none⟩ = some (.int .i64 o.2.2.2.1) ∧ w.cell? ⟨4, i * 5 + 4, none⟩ = some (.int .i64 o.2.2.2.2)
theorem Tb.keep {w w' : World} {S : List Nat} (h : Tb w) (hk : Kp S w w') (hS : ∀ k, k ∈ S → 9 ≤ k) : Tb w' := by
  have hb : ∀ k, k < 9 → k ∉ S := fun k hk hm => by have := hS k hm; omega
  have hblk : ∀ k, k < 9 → w'.heap[k]? = w.heap[k]? := fun k hk' => hk.block k (by have := h.size; omega) (hb k hk')
  refine ⟨⟨by have := hk.size; have := h.words.1; omega, fun i b hi => hk.some (h.words.2 i b hi) (hb 1 (by decide))⟩, by have := hk.size; have := h.size; omega, ?_, fun i b hi => hk.some (h.forms i b hi) (hb 0 (by decide)), fun i o hi => ?_⟩
  · have := h.pow
    unfold Lib.TabIs World.var? at this ⊢
    rw [gPowIs] at this ⊢
    simp only [Option.bind_some] at this ⊢
    rw [hblk _ (by decide)]
    exact this
  · obtain ⟨h1, h2, h3, h4, h5⟩ := h.opers i o hi
    exact ⟨hk.some h1 (hb 4 (by decide)), hk.some h2 (hb 4 (by decide)), hk.some h3 (hb 4 (by decide)), hk.some h4 (hb 4 (by decide)), hk.some h5 (hb 4 (by decide))⟩
theorem Tb.kp {w w' : World} (h : Tb w) (hk : Kp [] w w') : Tb w' := h.keep hk (by simp)

theorem below_grow (w : World) (k : Nat) (os : Array Obj) : Below w.heap.size w (Go.Sort.grow (w.drewN k) os) := by
  refine ⟨rfl, rfl, rfl, ?_, fun j hj => ?_⟩
  · show w.heap.size ≤ (w.heap ++ os).size
    simp
  · show (w.heap ++ os)[j]? = w.heap[j]?
    rw [Array.getElem?_append_left hj]
theorem itoa_any (n : Int) (w : World) (h0 : -9223372036854775808 ≤ n) (h1 : n ≤ 9223372036854775807) (hT : Tb w) :
    Calls Tryz.prog 93 #[.int .i64 n] w fun e w' => e = .returned (.string (bs (Lib.itoa n))) ∧ Kp [] w w' := by
  refine (Tryz.strconv_Itoa n h0 h1 w hT.pow).mono ?_
  rintro e w1 ⟨rfl, k, os, rfl⟩
  exact ⟨rfl, Kp.of_below (below_grow w k os)⟩
theorem formatInt_any (n : Int) (w : World) (h0 : -9223372036854775808 ≤ n) (h1 : n ≤ 9223372036854775807) (hT : Tb w) :
    Calls Tryz.prog 134 #[.int .i64 n, .int .i64 10] w fun e w' => e = .returned (.string (bs (Lib.itoa n))) ∧ Kp [] w w' := by
  refine (Tryz.strconv_FormatInt_10 n h0 h1 w hT.pow).mono ?_
  rintro e w1 ⟨rfl, k, os, rfl⟩
  exact ⟨rfl, Kp.of_below (below_grow w k os)⟩
set_option maxHeartbeats 400000 in
theorem isKind_any (d : Int) (w : World) :
    Calls Tryz.prog 156 #[.int .i64 d] w fun e w' => e = .returned (.bool (decide (1 ≤ d) && decide (d ≤ 14))) ∧ w' = w := by
  by_cases h1 : 1 ≤ d
  · have d1 : decide (1 ≤ d) = true := by simpa using h1
    have e : decide (d ≤ 14) = decide (d < 15) := by congr 1; apply propext; omega
    rw [d1, e]
    go_enter Tryz.func156, Tryz.ntmps156
    go_wp2
    go_ret
    exact ⟨rfl, rfl⟩
  · have d1 : decide (1 ≤ d) = false := by simpa using h1
    rw [d1]
    go_enter Tryz.func156, Tryz.ntmps156
    go_wp2
    go_ret
    exact ⟨rfl, rfl⟩
set_option maxHeartbeats 400000 in
theorem isOperation_any (d : Int) (w : World) :
    Calls Tryz.prog 181 #[.int .i64 d] w fun e w' => e = .returned (.bool (decide (1 ≤ d) && decide (d ≤ 8))) ∧ w' = w := by
  by_cases h1 : 1 ≤ d
  · have d1 : decide (1 ≤ d) = true := by simpa using h1
    have e : decide (d ≤ 8) = decide (d < 9) := by congr 1; apply propext; omega
    rw [d1, e]
    go_enter Tryz.func181, Tryz.ntmps181
    go_wp2
    go_ret
    exact ⟨rfl, rfl⟩
  · have d1 : decide (1 ≤ d) = false := by simpa using h1
    rw [d1]
    go_enter Tryz.func181, Tryz.ntmps181
    go_wp2
    go_ret
    exact ⟨rfl, rfl⟩
/-- Does a kind's form have a letter? -/
def Rn.hasF (d : Int) (c : UInt8) : Bool := decide (0 ≤ Lib.indexByte (Rn.forms[d.toNat]?.getD []) c)
set_option maxRecDepth 100000 in
set_option maxHeartbeats 400000 in
theorem hasField_any (d : Int) (c : UInt8) (w : World) (hT : Tb w) (h1 : 1 ≤ d) (h2 : d ≤ 14) :
    Calls Tryz.prog 124 #[.int .i64 d, .string ⟨#[c]⟩] w fun e w' => e = .returned (.bool (Rn.hasF d c)) ∧ w' = w := by
  obtain ⟨f, hf⟩ : ∃ f, Rn.forms[d.toNat]? = some f := ⟨_, List.getElem?_eq_getElem (show d.toNat < 15 by omega)⟩
  have hc := hT.forms _ _ hf
  have HC := hide (fun w => Tryz.strings_Contains_one (bs f) c w)
  have e : Rn.hasF d c = decide (0 ≤ Lib.indexByte (bs f).data.toList c) := by rw [Rn.hasF, hf, bs_list]; rfl
  rw [e]
  have b0 : (0 : Int) ≤ d := by omega
  have b1 : d < 15 := by omega
  go_enter Tryz.func124, Tryz.ntmps124
  go_wp2_with fail
  refine (HC.out _).mono ?_
  rintro e w1 ⟨rfl, rfl⟩
  go_wp2
  go_ret
  exact ⟨rfl, rfl⟩
theorem Rn.hasF_A {d : Int} (h1 : 1 ≤ d) (h2 : d ≤ 14) : Rn.hasF d 65 = Rn.hasA d := by
  rcases Rn.kinds h1 h2 with rfl | rfl | rfl | rfl | rfl | rfl | rfl | rfl | rfl | rfl | rfl | rfl | rfl | rfl
  all_goals decide
theorem Rn.hasF_B {d : Int} (h1 : 1 ≤ d) (h2 : d ≤ 14) : Rn.hasF d 66 = Rn.hasB d := by
  rcases Rn.kinds h1 h2 with rfl | rfl | rfl | rfl | rfl | rfl | rfl | rfl | rfl | rfl | rfl | rfl | rfl | rfl
  all_goals decide
theorem Rn.hasF_T {d : Int} (h1 : 1 ≤ d) (h2 : d ≤ 14) : Rn.hasF d 84 = Rn.hasT d := by
  rcases Rn.kinds h1 h2 with rfl | rfl | rfl | rfl | rfl | rfl | rfl | rfl | rfl | rfl | rfl | rfl | rfl | rfl
  all_goals decide
theorem Rn.hasF_N {d : Int} (h1 : 1 ≤ d) (h2 : d ≤ 14) : Rn.hasF d 78 = Rn.hasT d := by
  rcases Rn.kinds h1 h2 with rfl | rfl | rfl | rfl | rfl | rfl | rfl | rfl | rfl | rfl | rfl | rfl | rfl | rfl
  all_goals decide
theorem Rn.hasF_S {d : Int} (h1 : 1 ≤ d) (h2 : d ≤ 14) : Rn.hasF d 83 = Rn.hasS d := by
  rcases Rn.kinds h1 h2 with rfl | rfl | rfl | rfl | rfl | rfl | rfl | rfl | rfl | rfl | rfl | rfl | rfl | rfl
  all_goals decide
theorem Rn.hasF_O {d : Int} (h1 : 1 ≤ d) (h2 : d ≤ 14) : Rn.hasF d 79 = Rn.hasO d := by
  rcases Rn.kinds h1 h2 with rfl | rfl | rfl | rfl | rfl | rfl | rfl | rfl | rfl | rfl | rfl | rfl | rfl | rfl
  all_goals decide
theorem Rn.countE {d : Int} (h1 : 1 ≤ d) (h2 : d ≤ 14) (h : d ≠ 10) : Lib.countByte (Rn.forms[d.toNat]?.getD []) 69 = Rn.fewE d := by
  rcases Rn.kinds h1 h2 with rfl | rfl | rfl | rfl | rfl | rfl | rfl | rfl | rfl | rfl | rfl | rfl | rfl | rfl
  all_goals first | (exact absurd rfl h) | decide
/-- The form of a statement, of its parts. -/
def Rn.fm (d : Int) (A B T : List UInt8) (k : Int) (nE nB nO : Nat) : Bool :=
  decide (1 ≤ d) && decide (d ≤ 14) && (Rn.hasA d || A == []) && (Rn.hasB d || B == []) && (Rn.hasT d || T == []) && (Rn.hasT d || k == 0) &&
    (Rn.hasS d || nB == 0) && (Rn.hasO d || nO == 0) && (d == 10 || nE == Rn.fewE d)
theorem isEmpty_len {α : Type} (l : List α) : l.isEmpty = (l.length == 0) := by cases l <;> rfl
theorem Rn.formed_fm (d at' : Int) (A B T : List UInt8) (k : Int) (E b o : List Sx.Tr) : Rn.formed (Sx.tS d at' A B T k E b o) = Rn.fm d A B T k E.length b.length o.length := by
  show (_ && _ && _ && _ && _ && _ && (_ || b.isEmpty) && (_ || o.isEmpty) && _) = _
  rw [isEmpty_len, isEmpty_len]
  rfl
end Go.Proofs.YtfngmdebmedkjacGreatDoor


/- Types: the program's own. -/
namespace Go.Proofs.YtfngmdebmedkjacGreatDoor
open Go.RowKit

theorem Rn.drop_all {p : UInt8 → Bool} {l : List UInt8} : l.dropWhile p = [] ↔ l.all p = true := by
  induction l with
  | nil => simp
  | cons b r ih =>
    rw [List.dropWhile_cons]
    cases h : p b with
    | true => simp [ih, h]
    | false => simp [h]
theorem Rn.trim_nil {l : List UInt8} {cs : List UInt8} : Lib.trimS l cs = [] ↔ l.all (fun b => cs.contains b) = true := by
  unfold Lib.trimS Lib.trimLeftS Lib.trimRightS
  rw [Rn.drop_all, List.all_reverse]
  constructor
  · intro h
    have h2 : (l.reverse.dropWhile (fun b => cs.contains b)) = [] := by
      cases hd : l.reverse.dropWhile (fun b => cs.contains b) with
      | nil => rfl
      | cons b r =>
        have hb := List.head?_dropWhile_not (fun b => cs.contains b) l.reverse
        rw [hd] at hb h
        simp at hb h
        exact absurd h.1 (by simpa using hb)
    rw [Rn.drop_all, List.all_reverse] at h2
    exact h2
  · intro h
    have h2 : l.reverse.dropWhile (fun b => cs.contains b) = [] := by rw [Rn.drop_all, List.all_reverse]; exact h
    rw [h2]
    rfl
theorem Rn.suf_cat (r : List UInt8) (c : UInt8) : Lib.hasSuffix (r ++ [c]) [105] = (c == 105) := by
  unfold Lib.hasSuffix
  by_cases h : c = 105
  · subst h
    rw [beq_self_eq_true]
    exact List.isSuffixOf_iff_suffix.2 ⟨r, rfl⟩
  · rw [beq_eq_false_iff_ne.2 h]
    apply Bool.eq_false_iff.2
    intro hs
    obtain ⟨q, hq⟩ := List.isSuffixOf_iff_suffix.1 hs
    have := congrArg List.getLast? hq
    simp at this
    exact h this.symm
theorem ascii_sr : ∀ (j : Nat) b, (⟨#[115, 114]⟩ : ByteArray).data.toList[j]? = some b → b.toNat < 128 := by
  intro j b h
  match j, h with
  | 0, h => simp at h; subst h; decide
  | 1, h => simp at h; subst h; decide
  | j + 2, h => simp at h

set_option maxRecDepth 100000 in
set_option maxHeartbeats 1000000 in
theorem rType_any (t : List UInt8) (ends : Int) (w : World) (hn : t.length ≤ 1099511627776) :
    Calls Tryz.prog 24 #[.string (bs t), .int .i64 ends] w fun e w' => e = .returned (.bool (Rn.isT t ends)) ∧ Kp [] w w' := by
  have hz : (bs t).size ≤ 9223372036854775807 := by rw [bsz]; omega
  have HC := hide (fun w => Tryz.strings_CutSuffix (bs t) ⟨#[105]⟩ w hz)
  rw [bs_list] at HC
  rcases List.eq_nil_or_concat t with rfl | ⟨r, c, rfl⟩
  · have hs : Lib.hasSuffix [] (⟨#[105]⟩ : ByteArray).data.toList = false := rfl
    go_enter Tryz.func24, Tryz.ntmps24
    go_wp2_with fail
    refine (HC.out _).mono ?_
    rintro e w1 ⟨rfl, rfl⟩
    go_wp2
    go_ret
    exact ⟨rfl, Kp.refl _ _⟩
  · rw [List.concat_eq_append] at hn HC hz ⊢
    rw [Rn.isT_cat]
    have hs : Lib.hasSuffix (r ++ [c]) (⟨#[105]⟩ : ByteArray).data.toList = (c == 105) := Rn.suf_cat r c
    by_cases hc : c = 105
    · subst hc
      have hq : Lib.hasSuffix (r ++ [105]) (⟨#[105]⟩ : ByteArray).data.toList = true := hs
      have ht : Lib.trimSuffix (r ++ [105]) (⟨#[105]⟩ : ByteArray).data.toList = r := by
        unfold Lib.trimSuffix
        rw [hq]
        simp
      rw [ht, hq] at HC
      clear hs hq ht hz
      have hl : r.length ≤ 1099511627776 := by simp at hn; omega
      have hzr : (bs r).size ≤ 9223372036854775807 := by rw [bsz]; omega
      have hsz : ((bs r).size : Int) = (r.length : Int) := by rw [bsz]
      have HQ : Hid (∀ w, Calls Tryz.prog 49 #[.string (bs r), .string ⟨#[115, 114]⟩] w fun e w' => e = .returned (.string (bs (Lib.trimS r [115, 114]))) ∧ Below w.heap.size w w') := fun w => by
        have := Tryz.strings_Trim_laid (bs r) ⟨#[115, 114]⟩ w hzr (by decide) ascii_sr
        rw [bs_list] at this
        exact this
      change Hid (∀ w, Calls Tryz.prog 48 #[.string _, .string ⟨#[105]⟩] w fun e w' => e = .returned (.tuple #[.string (bs r), .bool true]) ∧ w' = w) at HC
      by_cases he : (r.length : Int) ≤ ends
      · have d1 : decide ((r.length : Int) ≤ ends) = true := by simpa using he
        rw [d1]
        have ha : (Lib.trimS r [115, 114] == []) = r.all (fun b => b == 115 || b == 114) := by
          have := @Rn.trim_nil r [115, 114]
          have e : (fun b : UInt8 => [115, 114].contains b) = (fun b => b == 115 || b == 114) := by funext b; simp; rfl
          rw [e] at this
          cases h : r.all (fun b => b == 115 || b == 114) with
          | true => rw [h] at this; rw [this.2 rfl]; rfl
          | false => rw [h] at this; apply beq_eq_false_iff_ne.2; intro hn; exact absurd (this.1 hn) (by simp)
        have hb : (bs (Lib.trimS r [115, 114])).toList = Lib.trimS r [115, 114] := bsl _
        rw [← ha]
        generalize Lib.trimS r [115, 114] = X at *
        go_enter Tryz.func24, Tryz.ntmps24
        go_wp2_with fail
        refine (HC.out _).mono ?_
        rintro e w2 ⟨rfl, rfl⟩
        go_wp2_with fail
        refine (HQ.out _).mono ?_
        rintro e w1 ⟨rfl, hk⟩
        have K1 : Hid (Kp [] w2 w1) := Kp.of_below hk
        clear hk
        go_wp2
        go_ret
        refine ⟨?_, K1.out⟩
        rw [← ha]
        simp
      · have d1 : decide ((r.length : Int) ≤ ends) = false := by simpa using he
        rw [d1, Bool.and_false]
        go_enter Tryz.func24, Tryz.ntmps24
        go_wp2_with fail
        refine (HC.out _).mono ?_
        rintro e w1 ⟨rfl, rfl⟩
        go_wp2
        go_ret
        exact ⟨rfl, Kp.refl _ _⟩
    · have hf : (c == 105) = false := beq_eq_false_iff_ne.2 hc
      rw [hf] at hs
      rw [hs] at HC
      rw [hf, Bool.and_false]
      go_enter Tryz.func24, Tryz.ntmps24
      go_wp2_with fail
      refine (HC.out _).mono ?_
      rintro e w1 ⟨rfl, rfl⟩
      go_wp2
      go_ret
      exact ⟨rfl, Kp.refl _ _⟩
end Go.Proofs.YtfngmdebmedkjacGreatDoor


/- What is wrong with an expression: the program's own reckoning. -/
namespace Go.Proofs.YtfngmdebmedkjacGreatDoor
open Go.RowKit

def PCt (n : Nat) : Prop := ∀ (w : World) (P : Nat → Prop) (op z : Int) (nm : List UInt8) (L : List Sx.Tr) (a : Option Addr) (c : Nat), Tb w → EL w P n L (.slice a L.length c) → Rn.nmE (n + 1) (Sx.tE op nm z L) →
  Calls Tryz.prog 160 #[.agg #[.int .i64 op, .string (bs nm), .int .i64 z, .slice a L.length c]] w fun e w' => e = .returned (.int .i64 (Rn.xf (n + 1) (Sx.tE op nm z L))) ∧ Kp [] w w'

theorem Rn.oper_at {w : World} (hT : Tb w) {op : Int} (h1 : 1 ≤ op) (h2 : op ≤ 8) : w.cell? ⟨4, op.toNat * 5, none⟩ = some (.int .i64 (Rn.want op)) := by
  have h : op = 1 ∨ op = 2 ∨ op = 3 ∨ op = 4 ∨ op = 5 ∨ op = 6 ∨ op = 7 ∨ op = 8 := by omega
  rcases h with rfl | rfl | rfl | rfl | rfl | rfl | rfl | rfl
  · exact (hT.opers 1 _ rfl).1
  · exact (hT.opers 2 _ rfl).1
  · exact (hT.opers 3 _ rfl).1
  · exact (hT.opers 4 _ rfl).1
  · exact (hT.opers 5 _ rfl).1
  · exact (hT.opers 6 _ rfl).1
  · exact (hT.opers 7 _ rfl).1
  · exact (hT.opers 8 _ rfl).1

set_option maxRecDepth 100000 in
set_option maxHeartbeats 1000000 in
theorem partCode_op (n : Nat) (ih : PCt n) (w : World) (hT : Tb w) (P : Nat → Prop) (op : Int) (L : List Sx.Tr) (a : Option Addr) (c : Nat) (h : EL w P (n + 1) L (.slice a L.length c)) (hn : Rn.nmE (n + 2) (Sx.tE op [] 0 L)) (o3 : 4 ≤ op) (o8 : op ≤ 8) (hl : L.length = 2) :
    Calls Tryz.prog 160 #[.agg #[.int .i64 op, .string (bs []), .int .i64 0, .slice a L.length c]] w fun e w' => e = .returned (.int .i64 (Rn.firstOf (Rn.xf (n + 1)) L)) ∧ Kp [] w w' := by
  have HS := hide h
  have IH := hide ih
  have HN := hide hn.2
  have HT := hide hT
  have e0 : (bs []).toList = [] := bs0
  have q1 : (op == 1) = false := by simp; omega
  have q2 : (op == 2) = false := by simp; omega
  have HO : Hid (∀ w, Calls Tryz.prog 181 #[.int .i64 op] w fun e w' => e = .returned (.bool true) ∧ w' = w) := fun w => by
    have := isOperation_any op w
    rw [show decide (1 ≤ op) = true from by simp; omega, show decide (op ≤ 8) = true from by simp; omega] at this
    exact this
  have cop := Rn.oper_at hT (show 1 ≤ op by omega) o8
  rw [show Rn.want op = 2 from by unfold Rn.want; rw [if_neg (by omega), if_neg (by omega)]] at cop
  have cop' : w.cell? ⟨4, op.toNat * 5, none⟩ = some (.int .i64 2) := cop
  clear cop
  have hli : (L.length : Int) = 2 := by omega
  have b0 : (0 : Int) ≤ op := by omega
  have b1 : op < 9 := by omega
  have hgl : 4 < w.heap.size := by have := hT.size; omega
  clear h ih hn hl hT
  go_enter Tryz.func160, Tryz.ntmps160
  go_wp2_with fail
  refine (HO.out _).mono ?_
  rintro e w1 ⟨rfl, rfl⟩
  go_wp2_with fail
  go_quiet (fail)
  go_wp2_with fail
  go_loopw [58] (fun iv wr => ∃ (k : Nat), k ≤ L.length ∧ iv = .int .i64 k ∧ Hid (Rn.firstOf (Rn.xf (n + 1)) L = Rn.firstOf (Rn.xf (n + 1)) (L.drop k)) ∧ Hid (Kp [] w wr)) (fun iv _ => L.length - (intOf iv).toNat)
  case atStart => exact ⟨0, Nat.zero_le _, rfl, rfl, ((Kp.refl _ _).alloc _).drewN _⟩
  case round =>
    obtain ⟨k, hk, rfl, HF, HK⟩ := hrel
    by_cases hlt : k < L.length
    · have d1 : decide ((k : Int) < (L.length : Int)) = true := by simp; omega
      obtain ⟨b, off, op1, nm1, z1, L1, aL, cL, rfl, -, hd, m0, m1, m2, m3, hL⟩ := (HS.out.keep HK.out (by simp)).nth k hlt
      have HL := hide hL
      have HM := hide (HN.out k _ hd)
      have HDR := hide (drop_nth hd)
      have hk0 : (0 : Int) ≤ (k : Int) := by omega
      have hk1 : (k : Int) < (L.length : Int) := by omega
      clear hL hd
      generalize hX : Rn.xf (n + 1) (Sx.tE op1 nm1 z1 L1) = X at *
      by_cases h0 : X = 0
      · go_wp2_with fail
        refine (IH.out _ P op1 z1 nm1 L1 aL cL (HT.out.kp (HK.out.alloc _)) (HL.out.keep ((Kp.refl [] _).alloc _) (by simp)) HM.out).mono ?_
        rintro e w1 ⟨rfl, hk2⟩
        rw [hX, h0]
        have K1 := hide hk2
        clear hk2
        go_wp2
        go_roundw
        case rel => exact ⟨k + 1, by omega, by go_num, by rw [HF.out, HDR.out, Rn.firstOf, hX, h0]; rfl, (HK.out.alloc _).trans K1.out⟩
        case measure => simp [intOf]; omega
      · go_wp2_with fail
        refine (IH.out _ P op1 z1 nm1 L1 aL cL (HT.out.kp (HK.out.alloc _)) (HL.out.keep ((Kp.refl [] _).alloc _) (by simp)) HM.out).mono ?_
        rintro e w1 ⟨rfl, hk2⟩
        rw [hX]
        have K1 := hide hk2
        clear hk2
        go_wp2
        go_ret
        refine ⟨?_, (HK.out.alloc _).trans K1.out⟩
        rw [HF.out, HDR.out, Rn.firstOf, hX, if_pos h0]
        rfl
    · obtain rfl : k = L.length := by omega
      have d1 : decide ((L.length : Int) < (L.length : Int)) = false := by simp
      go_wp2
      go_ret
      refine ⟨?_, HK.out⟩
      rw [HF.out, List.drop_length]
      rfl
set_option maxRecDepth 100000 in
set_option maxHeartbeats 1000000 in
theorem partCode_neg (n : Nat) (ih : PCt n) (w : World) (hT : Tb w) (P : Nat → Prop) (L : List Sx.Tr) (a : Option Addr) (c : Nat) (h : EL w P (n + 1) L (.slice a L.length c)) (hn : Rn.nmE (n + 2) (Sx.tE 3 [] 0 L)) (hl : L.length = 1) :
    Calls Tryz.prog 160 #[.agg #[.int .i64 3, .string (bs []), .int .i64 0, .slice a L.length c]] w fun e w' => e = .returned (.int .i64 (Rn.firstOf (Rn.xf (n + 1)) L)) ∧ Kp [] w w' := by
  have HS := hide h
  have IH := hide ih
  have HN := hide hn.2
  have HT := hide hT
  have e0 : (bs []).toList = [] := bs0
  have HO : Hid (∀ w, Calls Tryz.prog 181 #[.int .i64 3] w fun e w' => e = .returned (.bool true) ∧ w' = w) := fun w => isOperation_any 3 w
  have cop : w.cell? ⟨4, 15, none⟩ = some (.int .i64 1) := (hT.opers 3 _ rfl).1
  have hli : (L.length : Int) = 1 := by omega
  have hgl : 4 < w.heap.size := by have := hT.size; omega
  clear h ih hn hl hT
  go_enter Tryz.func160, Tryz.ntmps160
  go_wp2_with fail
  refine (HO.out _).mono ?_
  rintro e w1 ⟨rfl, rfl⟩
  go_wp2_with fail
  go_quiet (fail)
  go_wp2_with fail
  go_loopw [58] (fun iv wr => ∃ (k : Nat), k ≤ L.length ∧ iv = .int .i64 k ∧ Hid (Rn.firstOf (Rn.xf (n + 1)) L = Rn.firstOf (Rn.xf (n + 1)) (L.drop k)) ∧ Hid (Kp [] w wr)) (fun iv _ => L.length - (intOf iv).toNat)
  case atStart => exact ⟨0, Nat.zero_le _, rfl, rfl, ((Kp.refl _ _).alloc _).drewN _⟩
  case round =>
    obtain ⟨k, hk, rfl, HF, HK⟩ := hrel
    by_cases hlt : k < L.length
    · have d1 : decide ((k : Int) < (L.length : Int)) = true := by simp; omega
      obtain ⟨b, off, op1, nm1, z1, L1, aL, cL, rfl, -, hd, m0, m1, m2, m3, hL⟩ := (HS.out.keep HK.out (by simp)).nth k hlt
      have HL := hide hL
      have HM := hide (HN.out k _ hd)
      have HDR := hide (drop_nth hd)
      have hk0 : (0 : Int) ≤ (k : Int) := by omega
      have hk1 : (k : Int) < (L.length : Int) := by omega
      clear hL hd
      generalize hX : Rn.xf (n + 1) (Sx.tE op1 nm1 z1 L1) = X at *
      by_cases h0 : X = 0
      · go_wp2_with fail
        refine (IH.out _ P op1 z1 nm1 L1 aL cL (HT.out.kp (HK.out.alloc _)) (HL.out.keep ((Kp.refl [] _).alloc _) (by simp)) HM.out).mono ?_
        rintro e w1 ⟨rfl, hk2⟩
        rw [hX, h0]
        have K1 := hide hk2
        clear hk2
        go_wp2
        go_roundw
        case rel => exact ⟨k + 1, by omega, by go_num, by rw [HF.out, HDR.out, Rn.firstOf, hX, h0]; rfl, (HK.out.alloc _).trans K1.out⟩
        case measure => simp [intOf]; omega
      · go_wp2_with fail
        refine (IH.out _ P op1 z1 nm1 L1 aL cL (HT.out.kp (HK.out.alloc _)) (HL.out.keep ((Kp.refl [] _).alloc _) (by simp)) HM.out).mono ?_
        rintro e w1 ⟨rfl, hk2⟩
        rw [hX]
        have K1 := hide hk2
        clear hk2
        go_wp2
        go_ret
        refine ⟨?_, (HK.out.alloc _).trans K1.out⟩
        rw [HF.out, HDR.out, Rn.firstOf, hX, if_pos h0]
        rfl
    · obtain rfl : k = L.length := by omega
      have d1 : decide ((L.length : Int) < (L.length : Int)) = false := by simp
      go_wp2
      go_ret
      refine ⟨?_, HK.out⟩
      rw [HF.out, List.drop_length]
      rfl
set_option maxRecDepth 100000 in
set_option maxHeartbeats 1000000 in
theorem partCode_num (w : World) (hT : Tb w) (z : Int) (a : Option Addr) (c : Nat) :
    Calls Tryz.prog 160 #[.agg #[.int .i64 1, .string (bs []), .int .i64 z, .slice a 0 c]] w fun e w' => e = .returned (.int .i64 (if z < 0 ∨ 1000000000000000000 ≤ z then 3 else 0)) ∧ Kp [] w w' := by
  have e0 : (bs []).toList = [] := bs0
  have HO : Hid (∀ w, Calls Tryz.prog 181 #[.int .i64 1] w fun e w' => e = .returned (.bool true) ∧ w' = w) := fun w => isOperation_any 1 w
  have cop : w.cell? ⟨4, 5, none⟩ = some (.int .i64 0) := (hT.opers 1 _ rfl).1
  have hgl : 4 < w.heap.size := by have := hT.size; omega
  by_cases hz : z < 0 ∨ 1000000000000000000 ≤ z
  · rw [if_pos hz]
    have z0 : ¬ z = 0 := by omega
    by_cases h1 : z < 0
    · have d1 : decide (z < 0) = true := by simpa using h1
      go_enter Tryz.func160, Tryz.ntmps160
      go_wp2_with fail
      refine (HO.out _).mono ?_
      rintro e w1 ⟨rfl, rfl⟩
      go_wp2_with fail
      go_quiet (fail)
      go_wp2_with fail
      go_ret
      exact ⟨rfl, ((Kp.refl _ _).alloc _).drewN _⟩
    · have d1 : decide (z < 0) = false := by simpa using h1
      have d2 : decide (999999999999999999 < z) = true := by simp; omega
      go_enter Tryz.func160, Tryz.ntmps160
      go_wp2_with fail
      refine (HO.out _).mono ?_
      rintro e w1 ⟨rfl, rfl⟩
      go_wp2_with fail
      go_quiet (fail)
      go_wp2_with fail
      go_ret
      exact ⟨rfl, ((Kp.refl _ _).alloc _).drewN _⟩
  · rw [if_neg hz]
    have d1 : decide (z < 0) = false := by simp; omega
    have d2 : decide (999999999999999999 < z) = false := by simp; omega
    clear hz
    by_cases z0 : z = 0
    all_goals
      go_enter Tryz.func160, Tryz.ntmps160
      go_wp2_with fail
      refine (HO.out _).mono ?_
      rintro e w1 ⟨rfl, rfl⟩
      go_wp2_with fail
      go_quiet (fail)
      go_wp2_with fail
      go_loopw [58] (fun iv wr => iv = .int .i64 0 ∧ Hid (Kp [] w wr)) (fun iv _ => (intOf iv).toNat)
      case atStart => exact ⟨rfl, ((Kp.refl _ _).alloc _).drewN _⟩
      case round =>
        obtain ⟨rfl, HK⟩ := hrel
        go_wp2
        go_ret
        exact ⟨rfl, HK.out⟩
set_option maxRecDepth 100000 in
set_option maxHeartbeats 1000000 in
theorem partCode_name (w : World) (hT : Tb w) (nm : List UInt8) (a : Option Addr) (c : Nat) (hn : nm.length ≤ 1099511627776) :
    Calls Tryz.prog 160 #[.agg #[.int .i64 2, .string (bs nm), .int .i64 0, .slice a 0 c]] w fun e w' => e = .returned (.int .i64 (if Tk.isN nm = false then 4 else 0)) ∧ Kp [] w w' := by
  have HI : Hid (∀ w, Tb w → Calls Tryz.prog 84 #[.string (bs nm)] w fun e w' => e = .returned (.bool (Tk.isN nm)) ∧ w' = w) := fun w h => by
    have := name_any (bs nm) w h.words (by rw [bsz]; exact hn)
    rw [bs_list] at this
    exact this
  have e1 : (bs nm).toList = nm := bsl nm
  have HO : Hid (∀ w, Calls Tryz.prog 181 #[.int .i64 2] w fun e w' => e = .returned (.bool true) ∧ w' = w) := fun w => isOperation_any 2 w
  have cop : w.cell? ⟨4, 10, none⟩ = some (.int .i64 0) := (hT.opers 2 _ rfl).1
  have hgl : 4 < w.heap.size := by have := hT.size; omega
  have HT := hide hT
  clear hT hn
  cases hX : Tk.isN nm with
  | false =>
    rw [hX] at HI
    cases h0 : nm.isEmpty
    all_goals
      go_enter Tryz.func160, Tryz.ntmps160
      go_wp2_with fail
      refine (HO.out _).mono ?_
      rintro e w1 ⟨rfl, rfl⟩
      go_wp2_with fail
      go_quiet (fail)
      go_wp2_with fail
      refine (HI.out _ (HT.out.kp (((Kp.refl _ _).alloc _).drewN _))).mono ?_
      rintro e w2 ⟨rfl, rfl⟩
      go_wp2
      go_ret
      exact ⟨rfl, ((Kp.refl _ _).alloc _).drewN _⟩
  | true =>
    rw [hX] at HI
    cases h0 : nm.isEmpty
    all_goals
      go_enter Tryz.func160, Tryz.ntmps160
      go_wp2_with fail
      refine (HO.out _).mono ?_
      rintro e w1 ⟨rfl, rfl⟩
      go_wp2_with fail
      go_quiet (fail)
      go_wp2_with fail
      refine (HI.out _ (HT.out.kp (((Kp.refl _ _).alloc _).drewN _))).mono ?_
      rintro e w2 ⟨rfl, rfl⟩
      go_wp2
      go_loopw [58] (fun iv wr => iv = .int .i64 0 ∧ Hid (Kp [] w wr)) (fun iv _ => (intOf iv).toNat)
      case atStart => exact ⟨rfl, ((Kp.refl _ _).alloc _).drewN _⟩
      case round =>
        obtain ⟨rfl, HK⟩ := hrel
        go_wp2
        go_ret
        exact ⟨rfl, HK.out⟩
set_option maxRecDepth 100000 in
set_option maxHeartbeats 1000000 in
theorem partCode_no (w : World) (op z : Int) (nm : List UInt8) (n : Nat) (a : Option Addr) (c : Nat) (h : op < 1 ∨ 8 < op) :
    Calls Tryz.prog 160 #[.agg #[.int .i64 op, .string (bs nm), .int .i64 z, .slice a n c]] w fun e w' => e = .returned (.int .i64 5) ∧ Kp [] w w' := by
  have HO : Hid (∀ w, Calls Tryz.prog 181 #[.int .i64 op] w fun e w' => e = .returned (.bool false) ∧ w' = w) := fun w => by
    have := isOperation_any op w
    rw [← Bool.decide_and, decide_eq_false (by omega)] at this
    exact this
  go_enter Tryz.func160, Tryz.ntmps160
  go_wp2_with fail
  refine (HO.out _).mono ?_
  rintro e w1 ⟨rfl, rfl⟩
  go_wp2
  go_ret
  exact ⟨rfl, (Kp.refl _ _).alloc _⟩
set_option maxRecDepth 100000 in
set_option maxHeartbeats 1000000 in
theorem partCode_bad (w : World) (hT : Tb w) (op z : Int) (nm : List UInt8) (n : Nat) (a : Option Addr) (c : Nat) (h1 : 1 ≤ op) (h8 : op ≤ 8) (h : n ≠ Rn.want op ∨ (z ≠ 0 ∧ op ≠ 1) ∨ (nm ≠ [] ∧ op ≠ 2)) :
    Calls Tryz.prog 160 #[.agg #[.int .i64 op, .string (bs nm), .int .i64 z, .slice a n c]] w fun e w' => e = .returned (.int .i64 5) ∧ Kp [] w w' := by
  have HO : Hid (∀ w, Calls Tryz.prog 181 #[.int .i64 op] w fun e w' => e = .returned (.bool true) ∧ w' = w) := fun w => by
    have := isOperation_any op w
    rw [show decide (1 ≤ op) = true from by simp; omega, show decide (op ≤ 8) = true from by simp; omega] at this
    exact this
  have e1 : (bs nm).toList = nm := bsl nm
  have cop := Rn.oper_at hT h1 h8
  have b0 : (0 : Int) ≤ op := by omega
  have b1 : op < 9 := by omega
  have hgl : 4 < w.heap.size := by have := hT.size; omega
  by_cases hn : n = Rn.want op
  · have hli : ((n : Int) != ((Rn.want op : Nat) : Int)) = false := by simp; omega
    have h' : (z ≠ 0 ∧ op ≠ 1) ∨ (nm ≠ [] ∧ op ≠ 2) := h.resolve_left (fun hc => hc hn)
    clear h hn
    generalize Rn.want op = wn at *
    by_cases hm : nm ≠ [] ∧ op ≠ 2
    · have f1 : nm.isEmpty = false := by cases nm with
        | nil => exact absurd rfl hm.1
        | cons b r => rfl
      have f2 : (op != 2) = true := by simpa using hm.2
      clear h' hm
      go_enter Tryz.func160, Tryz.ntmps160
      go_wp2_with fail
      refine (HO.out _).mono ?_
      rintro e w1 ⟨rfl, rfl⟩
      go_wp2_with fail
      go_quiet (fail)
      go_wp2_with fail
      go_ret
      exact ⟨rfl, ((Kp.refl _ _).alloc _).drewN _⟩
    · have hz := h'.resolve_right hm
      have f3 : (z != 0) = true := by simpa using hz.1
      have f4 : (op != 1) = true := by simpa using hz.2
      cases hne : nm.isEmpty with
      | true =>
        clear hm h' hz
        go_enter Tryz.func160, Tryz.ntmps160
        go_wp2_with fail
        refine (HO.out _).mono ?_
        rintro e w1 ⟨rfl, rfl⟩
        go_wp2_with fail
        go_quiet (fail)
        go_wp2_with fail
        go_ret
        exact ⟨rfl, ((Kp.refl _ _).alloc _).drewN _⟩
      | false =>
        have ho : op = 2 := by
          apply Decidable.byContradiction
          intro hc
          apply hm
          refine ⟨?_, hc⟩
          rintro rfl
          cases hne
        subst ho
        have cop' : w.cell? ⟨4, 10, none⟩ = some (.int .i64 wn) := cop
        clear cop
        clear hm h' hz
        go_enter Tryz.func160, Tryz.ntmps160
        go_wp2_with fail
        refine (HO.out _).mono ?_
        rintro e w1 ⟨rfl, rfl⟩
        go_wp2_with fail
        go_quiet (fail)
        go_wp2_with fail
        go_ret
        exact ⟨rfl, ((Kp.refl _ _).alloc _).drewN _⟩
  · have hli : ((n : Int) != ((Rn.want op : Nat) : Int)) = true := by simp; omega
    clear h hn
    generalize Rn.want op = wn at *
    go_enter Tryz.func160, Tryz.ntmps160
    go_wp2_with fail
    refine (HO.out _).mono ?_
    rintro e w1 ⟨rfl, rfl⟩
    go_wp2_with fail
    go_quiet (fail)
    go_wp2_with fail
    go_ret
    exact ⟨rfl, ((Kp.refl _ _).alloc _).drewN _⟩
theorem partCode_step (n : Nat) (ih : PCt n) : PCt (n + 1) := by
  intro w P op z nm L a c hT h hn
  by_cases hb : Rn.badF op z nm L.length
  · rw [Rn.xf_bad hb]
    by_cases ho : op < 1 ∨ 8 < op
    · exact partCode_no w op z nm L.length a c ho
    · refine partCode_bad w hT op z nm L.length a c (by omega) (by omega) ?_
      rcases hb with h1 | h1 | h1
      · exact absurd (.inl h1) ho
      · exact absurd (.inr h1) ho
      · exact h1
  · rw [Rn.xf_ok hb]
    have hb' : 1 ≤ op ∧ op ≤ 8 ∧ L.length = Rn.want op ∧ (z = 0 ∨ op = 1) ∧ (nm = [] ∨ op = 2) := by
      unfold Rn.badF at hb
      refine ⟨by omega, by omega, ?_, by omega, ?_⟩
      · exact Decidable.byContradiction fun hc => hb (.inr (.inr (.inl hc)))
      · exact Decidable.byContradiction fun hc => hb (.inr (.inr (.inr (.inr ⟨fun e => hc (.inl e), fun e => hc (.inr e)⟩))))
    clear hb
    obtain ⟨b1, b8, bl, bz, bn⟩ := hb'
    by_cases o1 : op = 1
    · subst o1
      obtain rfl : nm = [] := by simpa using bn
      obtain rfl : L = [] := by simpa [Rn.want] using bl
      rw [if_neg (by omega)]
      exact partCode_num w hT z a c
    · obtain rfl : z = 0 := by omega
      by_cases o2 : op = 2
      · subst o2
        obtain rfl : L = [] := by simpa [Rn.want] using bl
        have e : (if (2 : Int) = 2 ∧ Tk.isN nm = false then (4 : Int) else if (0 : Int) < 0 ∨ (1000000000000000000 : Int) ≤ 0 then 3 else Rn.firstOf (Rn.xf (n + 1)) []) = if Tk.isN nm = false then 4 else 0 := by simp [Rn.firstOf]
        rw [e]
        exact partCode_name w hT nm a c hn.1
      · obtain rfl : nm = [] := by simpa [o2] using bn
        rw [if_neg (by omega), if_neg (by omega)]
        by_cases o3 : op = 3
        · subst o3
          exact partCode_neg n ih w hT P L a c h hn (by simpa [Rn.want] using bl)
        · exact partCode_op n ih w hT P op L a c h hn (by omega) b8 (by simpa [Rn.want, o1, o2, o3] using bl)
theorem partCode_any (n : Nat) : PCt n := by
  induction n with
  | zero => intro w P op z nm L a c _ h; cases h
  | succ n ih => exact partCode_step n ih
end Go.Proofs.YtfngmdebmedkjacGreatDoor
