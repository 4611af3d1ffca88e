import Derived.Test.YtdbciaihnikibacGreatDoorRxV
import Derived.Test.YtdbciaihnikibacGreatDoorRenBm
import Derived.Deep.RegionHeldLaw
/- The text of a type: the document's own. -/
namespace Go.Proofs.YtdbciaihnikibacGreatDoor
open Go.RowKit

theorem bs_append (a b : List UInt8) : bs a ++ bs b = bs (a ++ b) := by
  apply ByteArray.ext
  show (bs a ++ bs b).data = _
  rw [ByteArray.data_append]
  simp [bs]
/-- A type is sides, then the letter i. -/
theorem Rn.isT_cut {t : List UInt8} {ends : Int} (h : Rn.isT t ends = true) : ∃ r, t = r ++ [105] ∧ ∀ b ∈ r, b = 115 ∨ b = 114 := by
  rcases List.eq_nil_or_concat t with rfl | ⟨r, c, rfl⟩
  · cases h
  · rw [List.concat_eq_append] at h ⊢
    rw [Rn.isT_cat] at h
    simp only [Bool.and_eq_true, List.all_eq_true, Bool.or_eq_true, beq_iff_eq] at h
    obtain ⟨⟨h1, rfl⟩, _⟩ := h
    exact ⟨r, rfl, h1⟩
set_option maxRecDepth 100000 in
set_option maxHeartbeats 1000000 in
theorem kindText_any (t : List UInt8) (w : World) (ht : Rn.isT t 3 = true) (hn : t.length ≤ 4) :
    Calls Tryz.prog 34 #[.string (bs t)] w fun e w' => e = .returned (.string (bs (Rn.tyw t))) ∧ w' = w := by
  obtain ⟨r, rfl, hr⟩ := Rn.isT_cut ht
  have hz : ((bs (r ++ [105])).size : Int) = (r.length : Int) + 1 := by rw [bsz]; simp
  have hl : r.length ≤ 4 := by simp at hn; omega
  have hw : wrap64 ((r.length : Int) + 1 - 1) = (r.length : Int) := by simp only [wrap64]; omega
  have HX : Hid (∀ (k : Nat) b, r[k]? = some b → ((bs (r ++ [105])).extract k (k + 1)).toList = [b]) := fun k b hb => by
    rw [bsx, show k + 1 - k = 1 from by omega]
    obtain ⟨hk, rfl⟩ := List.getElem?_eq_some_iff.mp hb
    rw [List.drop_append_of_le_length (by omega), List.drop_eq_getElem_cons hk]
    rfl
  have HE : Hid (Rn.tyw (r ++ [105]) = Rn.tyw r ++ [105, 110, 116]) := by rw [Rn.tyw_append]; rfl
  have HR := hide hr
  clear ht hn hr
  generalize bs (r ++ [105]) = s at *
  go_enter Tryz.func34, Tryz.ntmps34
  go_wp2
  go_loopw [3, 4] (fun av iv wr => ∃ (k : Nat), k ≤ r.length ∧ iv = .int .i64 k ∧ av = .string (bs (Rn.tyw (r.take k))) ∧ wr = w) (fun _ iv _ => r.length - (intOf iv).toNat)
  case atStart => exact ⟨0, Nat.zero_le _, rfl, rfl, rfl⟩
  case round =>
    obtain ⟨k, hk, rfl, rfl, rfl⟩ := hrel
    by_cases hlt : k < r.length
    · have d3 : decide ((k : Int) < (r.length : Int)) = true := by simp; omega
      obtain ⟨b, hb⟩ : ∃ b, r[k]? = some b := ⟨_, List.getElem?_eq_getElem hlt⟩
      have hy := HX.out k b hb
      have hbb := HR.out b (List.mem_of_getElem? hb)
      have E1 := hide (Rn.tyw_take hb)
      have zl : (bs (Rn.tyw (r.take k))).size ≤ 100 := by rw [bsz]; have := Rn.tyw_len (r.take k); rw [List.length_take] at this; omega
      have k0 : (0 : Int) ≤ (k : Int) := by omega
      have k1 : (k : Int) ≤ (k : Int) + 1 := by omega
      have k2 : (k : Int) + 1 ≤ (r.length : Int) + 1 := by omega
      by_cases h1 : b = 115
      · subst h1
        go_wp2
        go_roundw
        case rel => exact ⟨k + 1, by omega, by go_num, by rw [E1.out, ← bs_append]; rfl, trivial⟩
        case measure => simp [intOf]; omega
      · obtain rfl : b = 114 := by rcases hbb with h | h; exact absurd h h1; exact h
        go_wp2
        go_roundw
        case rel => exact ⟨k + 1, by omega, by go_num, by rw [E1.out, ← bs_append]; rfl, trivial⟩
        case measure => simp [intOf]; omega
    · obtain rfl : k = r.length := by omega
      have d3 : decide ((r.length : Int) < (r.length : Int)) = false := by simp
      rw [List.take_length]
      have zl : (bs (Rn.tyw r)).size ≤ 100 := by rw [bsz]; have := Rn.tyw_len r; omega
      go_wp2
      go_ret
      refine ⟨?_, rfl⟩
      rw [HE.out, ← bs_append]
      rfl
end Go.Proofs.YtdbciaihnikibacGreatDoor


/- The text of an expression: the document's own. -/
namespace Go.Proofs.YtdbciaihnikibacGreatDoor
open Go.RowKit

/-- How tightly it must bind, in the document's numbers. -/
def Rn.mR (m : Nat) : Nat := if m = 0 then 0 else m + 1
def Rn.bi (op : Int) : Nat := if op = 1 ∨ op = 2 then 9 else if op = 3 then 4 else if op = 4 ∨ op = 5 then 2 else if op = 6 then 3 else 1
/-- Contract: the text of an expression. -/
def XTt (n : Nat) : Prop := ∀ (w : World) (P : Nat → Prop) (op z : Int) (nm : List UInt8) (L : List Sx.Tr) (a : Option Addr) (c must : Nat), Tb w → EL w P n L (.slice a L.length c) → Rn.xf (n + 1) (Sx.tE op nm z L) = 0 → must ≤ 3 → Rn.prt (n + 1) (Sx.tE op nm z L) ≤ 1000000 →
  Calls Tryz.prog 94 #[.agg #[.int .i64 op, .string (bs nm), .int .i64 z, .slice a L.length c], .int .i64 (Rn.mR must)] w fun e w' => e = .returned (.string (bs (Rn.xt (n + 1) must (Sx.tE op nm z L)))) ∧ Kp [] w w'
theorem Rn.bi_must {op : Int} {must : Nat} (h1 : 1 ≤ op) (h2 : op ≤ 8) (hm : must ≤ 3) : decide ((Rn.bi op : Int) < (Rn.mR must : Int)) = decide (Rn.holds op < must) := by
  have h : op = 1 ∨ op = 2 ∨ op = 3 ∨ op = 4 ∨ op = 5 ∨ op = 6 ∨ op = 7 ∨ op = 8 := by omega
  have hm' : must = 0 ∨ must = 1 ∨ must = 2 ∨ must = 3 := by omega
  rcases h with rfl | rfl | rfl | rfl | rfl | rfl | rfl | rfl <;> rcases hm' with rfl | rfl | rfl | rfl <;> rfl
theorem wr_0 : IntKind.i64.wrap 0 = 0 := by decide
theorem wr_1 : IntKind.i64.wrap 1 = 1 := by decide
theorem wr_2 : IntKind.i64.wrap 2 = 2 := by decide
theorem wr_3 : IntKind.i64.wrap 3 = 3 := by decide
theorem wr_4 : IntKind.i64.wrap 4 = 4 := by decide
theorem Rn.brk_false (x : List UInt8) : Rn.brk false x = x := rfl
theorem Rn.brk_true (x : List UInt8) : Rn.brk true x = [40] ++ x ++ [41] := rfl

set_option maxRecDepth 100000 in
set_option maxHeartbeats 1000000 in
theorem exprText_num (w : World) (z : Int) (a : Option Addr) (c mm : Nat) (hT : Tb w) (z0 : 0 ≤ z) (z1 : z < 1000000000000000000) (hm : decide ((9 : Int) < (mm : Int)) = false) :
    Calls Tryz.prog 94 #[.agg #[.int .i64 1, .string (bs []), .int .i64 z, .slice a 0 c], .int .i64 mm] w fun e w' => e = .returned (.string (bs (Rn.digs z))) ∧ Kp [] w w' := by
  have HI := hide (fun W (hk : Kp [] w W) => formatInt_any z W (by omega) (by omega) (hT.kp hk))
  change Hid (∀ W, _ → Calls _ _ _ _ fun e w' => e = .returned (.string (bs (Rn.digs z))) ∧ _) at HI
  clear hT
  go_enter Tryz.func94, Tryz.ntmps94
  go_wp2_with fail
  refine (HI.out _ (((Kp.refl _ _).alloc _).alloc _)).mono ?_
  rintro e w3 ⟨rfl, hk3⟩
  go_wp2
  go_ret
  exact ⟨rfl, (((Kp.refl _ _).alloc _).alloc _).trans hk3⟩
set_option maxRecDepth 100000 in
set_option maxHeartbeats 1000000 in
theorem exprText_name (w : World) (nm : List UInt8) (a : Option Addr) (c mm : Nat) (hm : decide ((9 : Int) < (mm : Int)) = false) :
    Calls Tryz.prog 94 #[.agg #[.int .i64 2, .string (bs nm), .int .i64 0, .slice a 0 c], .int .i64 mm] w fun e w' => e = .returned (.string (bs nm)) ∧ Kp [] w w' := by
  go_enter Tryz.func94, Tryz.ntmps94
  go_wp2
  go_ret
  exact ⟨rfl, ((Kp.refl _ _).alloc _).alloc _⟩
set_option maxRecDepth 100000 in
set_option maxHeartbeats 1000000 in
theorem exprText_neg (n : Nat) (ih : XTt n) (w : World) (P : Nat → Prop) (d1 : Sx.Tr) (a : Option Addr) (c mm : Nat) (hT : Tb w) (hE : EL w P (n + 1) [d1] (.slice a 1 c)) (f1 : Rn.xf (n + 1) d1 = 0) (hp : Rn.prt (n + 1) d1 ≤ 1000000) (hm : decide ((4 : Int) < (mm : Int)) = false) :
    Calls Tryz.prog 94 #[.agg #[.int .i64 3, .string (bs []), .int .i64 0, .slice a 1 c], .int .i64 mm] w fun e w' => e = .returned (.string (bs ([45] ++ Rn.xt (n + 1) 3 d1))) ∧ Kp [] w w' := by
  obtain ⟨b, off, op1, nm1, z1, L1, aL1, cL1, rfl, -, hd1, m0, m1, m2, m3, hL1⟩ := hE.nth 0 (by simp)
  obtain rfl : d1 = Sx.tE op1 nm1 z1 L1 := by simpa using hd1
  clear hd1 hE
  rw [Nat.zero_mul, Nat.add_zero] at m0 m1 m2 m3
  have IH1 := hide (fun W (hk : Kp [] w W) => ih W P op1 z1 nm1 L1 aL1 cL1 3 (hT.kp hk) (hL1.keep hk (by simp)) f1 (by omega) hp)
  have hxl := Rn.xt_len (n + 1) 3 _ f1
  have zl : (bs (Rn.xt (n + 1) 3 (Sx.tE op1 nm1 z1 L1))).size ≤ 30000000 := by rw [bsz]; omega
  clear hxl hT hL1 f1 ih hp
  generalize Rn.xt (n + 1) 3 (Sx.tE op1 nm1 z1 L1) = X1 at *
  rw [← bs_append]
  have hblt := World.block_lt_of_cell? _ _ m0
  go_enter Tryz.func94, Tryz.ntmps94
  go_wp2_with fail
  refine (IH1.out _ (((Kp.refl _ _).alloc _).alloc _)).mono ?_
  rintro e w3 ⟨rfl, hk3⟩
  go_wp2
  go_ret
  exact ⟨rfl, (((Kp.refl _ _).alloc _).alloc _).trans hk3⟩
end Go.Proofs.YtdbciaihnikibacGreatDoor
