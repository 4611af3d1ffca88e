/- Contract: two rows of the same tokens are the same. -/
import Derived.Test.YtlipncdfmloijaaDoorTokM
import Derived.Lib.SliceRun
namespace Go.Proofs.YtlipncdfmloijaaDoor
open Go.RowKit

theorem uTok : Tryd.prog.underlying 47 = some (.struct (Tryd.prog.fieldsOf 47)) := by kernel_rfl
theorem heldTok : Tryd.prog.stoodInHeld 47 = false := by kernel_rfl
theorem uFlt : Tryd.prog.underlying 24 = some (.struct (Tryd.prog.fieldsOf 24)) := by kernel_rfl
theorem heldFlt : Tryd.prog.stoodInHeld 24 = false := by kernel_rfl

theorem eqlF_same (x y : Int) (w : World) : Sem.run Tryd.prog (binOp .eql 24 (.agg #[.int .i64 x, .int .i64 y]) (.agg #[.int .i64 x, .int .i64 y])) w = .ok (.bool true) w := by
  have u3 := Tryd.underlying3
  have a3 := Tryd.isAgg3
  have z3 := Tryd.sizeOf3
  rw [run_eql_struct, show (10000 : Nat) = 9999 + 1 from rfl, run_equalIn_agg w 9999 24 _ _ uFlt heldFlt]
  simp only [Program.fieldsOf, Tryd.underlying24]
  go_simp
theorem neqT_same (k p : Int) (t : ByteArray) (n : Int) (w : World) : Sem.run Tryd.prog (binOp .neq 47 (.agg #[.int .i64 k, .int .i64 p, .string t, .int .i64 n]) (.agg #[.int .i64 k, .int .i64 p, .string t, .int .i64 n])) w = .ok (.bool false) w := by
  have u3 := Tryd.underlying3
  have a3 := Tryd.isAgg3
  have z3 := Tryd.sizeOf3
  have u2 := Tryd.underlying2
  have a2 := Tryd.isAgg2
  have z2 := Tryd.sizeOf2
  have u9 := Tryd.underlying9
  have a9 := Tryd.isAgg9
  have z9 := Tryd.sizeOf9
  rw [run_neq_struct, show (10000 : Nat) = 9999 + 1 from rfl, run_equalIn_agg w 9999 47 _ _ uTok heldTok]
  simp only [Program.fieldsOf, Tryd.underlying47]
  go_simp

/-- A row of tokens, where it has any. -/
def RowT (w : World) (a : Option Addr) (l : List Tk.Tok) : Prop := 0 < l.length → ∃ g, a = some ⟨g, 0, none⟩ ∧ g < w.heap.size ∧ TAt w g l
theorem RowT.below {w w' : World} {a : Option Addr} {l : List Tk.Tok} (h : RowT w a l) (hb : Below w.heap.size w w') : RowT w' a l := fun hp => by
  obtain ⟨g, ha, hg, hT⟩ := h hp
  exact ⟨g, ha, Nat.lt_of_lt_of_le hg hb.size, hT.below hb hg⟩
theorem rowT_of_own {w : World} {B : Nat} {v : Value} {l : List Tk.Tok} (h : w.ownsRow B 47 4 v l.length (tcells l)) : ∃ a c, v = .slice a l.length c ∧ RowT w a l := by
  rcases Nat.eq_zero_or_pos l.length with h0 | hp
  · rcases h.2 with ⟨hv, _⟩ | ⟨g, cap, cur, hv, _⟩
    · exact ⟨none, 0, by rw [h0]; exact hv, fun h => by omega⟩
    · exact ⟨_, _, hv, fun h => by omega⟩
  · obtain ⟨g, cap, hv, _, hg, _, _, hT⟩ := own_tat h hp
    exact ⟨_, _, hv, fun _ => ⟨g, rfl, hg, hT⟩⟩

set_option maxHeartbeats 400000 in
theorem sameTokens_any (l : List Tk.Tok) (a b : Option Addr) (ca cb : Nat) (w : World) (hl : l.length ≤ 1099511627776) (ha : RowT w a l) (hb : RowT w b l) :
    Calls Tryd.prog 27 #[.slice a l.length ca, .slice b l.length cb] w fun e w' => e = .returned (.bool true) ∧ Below w.heap.size w w' := by
  have HA := hide ha
  have HB := hide hb
  clear ha hb
  go_enter Tryd.func27, Tryd.ntmps27
  go_wp2
  go_loopw [5] (fun i wr => ∃ k n : Nat, k ≤ l.length ∧ i = .int .i64 k ∧ wr = w.drewN n) (fun i _ => l.length - (intOf i).toNat)
  case atStart => exact ⟨0, 0, Nat.zero_le _, rfl, rfl⟩
  case round =>
    obtain ⟨k, n, hk, rfl, rfl⟩ := hrel
    by_cases hlt : k < l.length
    · obtain ⟨g, rfl, hg, hT⟩ := HA.out (by omega)
      obtain ⟨g2, rfl, hg2, hT2⟩ := HB.out (by omega)
      have e1 : l[k]? = some l[k] := List.getElem?_eq_getElem hlt
      obtain ⟨m0, m1, m2, m3⟩ := hT k _ e1
      obtain ⟨n0, n1, n2, n3⟩ := hT2 k _ e1
      clear e1 hT hT2
      generalize l[k] = t at *
      generalize bs t.text = X at *
      have hne := neqT_same t.kind t.at' X t.n
      go_wp2
      go_quiet (fail)
      go_wp2
      go_roundw
      case rel => exact ⟨k + 1, _, by omega, by go_num, rfl⟩
      case measure => simp [intOf]; omega
    · obtain rfl : k = l.length := by omega
      go_wp2
      go_ret
      exact ⟨rfl, below_drewN (Below.refl _ _) _⟩
end Go.Proofs.YtlipncdfmloijaaDoor
