/- The document's own Scan: a round at a blank, at a remark. -/
import Derived.Test.YtlipncdfmloijaaDoorTokQ
namespace Go.Proofs.YtlipncdfmloijaaDoor
open Go.RowKit

set_option maxRecDepth 100000 in
set_option maxHeartbeats 4000000 in
theorem r_blank32 (s : ByteArray) (w wr : World) (u : Nat → Value) (acc : List Tk.Tok) (p f' : Nat) (Q0 : Exit → Act → World → Prop) (hs : s.size ≤ 12000) (_hz : w.heap.size + 1 ≤ wr.heap.size) (hap : acc.length ≤ p) (hlt : p < s.size) (hu5 : u 5 = .int .i64 p) (h : (s[p].toNat : Int) = 32)
    (HO : Hid (wr.ownsRow (w.heap.size + 1) 47 4 (u 4) acc.length (tcells acc))) (HB : Hid (Below (w.heap.size + 1) (w.alloc (Obj.cells #[Value.int IntKind.i64 0, Value.int IntKind.i64 0] 24)) wr))
    (HF2 : Hid (s.size - nx s.data.toList (p + 1) < f')) (HR2 : Hid (Tk.scan s.data.toList = Tk.comb acc (Tk.tl f' (nx s.data.toList (p + 1)) (s.data.toList.drop (nx s.data.toList (p + 1)))))) :
    Code.wp Tryd.prog rbody (Exit.then (fun a' w'' => WI s w a' w'' ∧ Wmu s a' w'' < Wmu s (frame s w.heap.size u) wr) Q0) (frame s w.heap.size u) wr := by
  conv => arg 2; whnf
  unfold frame
  go_wp2
  refine ⟨wi_mk _ _ _ _ rfl ⟨acc, p + 1, f', by omega, by omega, by show _ = _; go_num, HF2, HR2, HO, HB⟩, ?_⟩
  simp [Wmu, intOf, hu5]
  omega

set_option maxRecDepth 100000 in
set_option maxHeartbeats 4000000 in
theorem r_blank9 (s : ByteArray) (w wr : World) (u : Nat → Value) (acc : List Tk.Tok) (p f' : Nat) (Q0 : Exit → Act → World → Prop) (hs : s.size ≤ 12000) (_hz : w.heap.size + 1 ≤ wr.heap.size) (hap : acc.length ≤ p) (hlt : p < s.size) (hu5 : u 5 = .int .i64 p) (h : (s[p].toNat : Int) = 9)
    (HO : Hid (wr.ownsRow (w.heap.size + 1) 47 4 (u 4) acc.length (tcells acc))) (HB : Hid (Below (w.heap.size + 1) (w.alloc (Obj.cells #[Value.int IntKind.i64 0, Value.int IntKind.i64 0] 24)) wr))
    (HF2 : Hid (s.size - nx s.data.toList (p + 1) < f')) (HR2 : Hid (Tk.scan s.data.toList = Tk.comb acc (Tk.tl f' (nx s.data.toList (p + 1)) (s.data.toList.drop (nx s.data.toList (p + 1)))))) :
    Code.wp Tryd.prog rbody (Exit.then (fun a' w'' => WI s w a' w'' ∧ Wmu s a' w'' < Wmu s (frame s w.heap.size u) wr) Q0) (frame s w.heap.size u) wr := by
  conv => arg 2; whnf
  unfold frame
  go_wp2
  refine ⟨wi_mk _ _ _ _ rfl ⟨acc, p + 1, f', by omega, by omega, by show _ = _; go_num, HF2, HR2, HO, HB⟩, ?_⟩
  simp [Wmu, intOf, hu5]
  omega

set_option maxRecDepth 100000 in
set_option maxHeartbeats 4000000 in
theorem r_blank10 (s : ByteArray) (w wr : World) (u : Nat → Value) (acc : List Tk.Tok) (p f' : Nat) (Q0 : Exit → Act → World → Prop) (hs : s.size ≤ 12000) (_hz : w.heap.size + 1 ≤ wr.heap.size) (hap : acc.length ≤ p) (hlt : p < s.size) (hu5 : u 5 = .int .i64 p) (h : (s[p].toNat : Int) = 10)
    (HO : Hid (wr.ownsRow (w.heap.size + 1) 47 4 (u 4) acc.length (tcells acc))) (HB : Hid (Below (w.heap.size + 1) (w.alloc (Obj.cells #[Value.int IntKind.i64 0, Value.int IntKind.i64 0] 24)) wr))
    (HF2 : Hid (s.size - nx s.data.toList (p + 1) < f')) (HR2 : Hid (Tk.scan s.data.toList = Tk.comb acc (Tk.tl f' (nx s.data.toList (p + 1)) (s.data.toList.drop (nx s.data.toList (p + 1)))))) :
    Code.wp Tryd.prog rbody (Exit.then (fun a' w'' => WI s w a' w'' ∧ Wmu s a' w'' < Wmu s (frame s w.heap.size u) wr) Q0) (frame s w.heap.size u) wr := by
  conv => arg 2; whnf
  unfold frame
  go_wp2
  refine ⟨wi_mk _ _ _ _ rfl ⟨acc, p + 1, f', by omega, by omega, by show _ = _; go_num, HF2, HR2, HO, HB⟩, ?_⟩
  simp [Wmu, intOf, hu5]
  omega

set_option maxRecDepth 100000 in
set_option maxHeartbeats 4000000 in
theorem r_blank13 (s : ByteArray) (w wr : World) (u : Nat → Value) (acc : List Tk.Tok) (p f' : Nat) (Q0 : Exit → Act → World → Prop) (hs : s.size ≤ 12000) (_hz : w.heap.size + 1 ≤ wr.heap.size) (hap : acc.length ≤ p) (hlt : p < s.size) (hu5 : u 5 = .int .i64 p) (h : (s[p].toNat : Int) = 13)
    (HO : Hid (wr.ownsRow (w.heap.size + 1) 47 4 (u 4) acc.length (tcells acc))) (HB : Hid (Below (w.heap.size + 1) (w.alloc (Obj.cells #[Value.int IntKind.i64 0, Value.int IntKind.i64 0] 24)) wr))
    (HF2 : Hid (s.size - nx s.data.toList (p + 1) < f')) (HR2 : Hid (Tk.scan s.data.toList = Tk.comb acc (Tk.tl f' (nx s.data.toList (p + 1)) (s.data.toList.drop (nx s.data.toList (p + 1)))))) :
    Code.wp Tryd.prog rbody (Exit.then (fun a' w'' => WI s w a' w'' ∧ Wmu s a' w'' < Wmu s (frame s w.heap.size u) wr) Q0) (frame s w.heap.size u) wr := by
  conv => arg 2; whnf
  unfold frame
  go_wp2
  refine ⟨wi_mk _ _ _ _ rfl ⟨acc, p + 1, f', by omega, by omega, by show _ = _; go_num, HF2, HR2, HO, HB⟩, ?_⟩
  simp [Wmu, intOf, hu5]
  omega

set_option maxRecDepth 100000 in
set_option maxHeartbeats 4000000 in
theorem r_rem (s : ByteArray) (w wr : World) (u : Nat → Value) (acc : List Tk.Tok) (p f' : Nat) (Q0 : Exit → Act → World → Prop) (hs : s.size ≤ 12000) (_hz : w.heap.size + 1 ≤ wr.heap.size) (hap : acc.length ≤ p) (hlt : p < s.size) (hu5 : u 5 = .int .i64 p) (h35 : (s[p].toNat : Int) = 35)
    (HO : Hid (wr.ownsRow (w.heap.size + 1) 47 4 (u 4) acc.length (tcells acc))) (HB : Hid (Below (w.heap.size + 1) (w.alloc (Obj.cells #[Value.int IntKind.i64 0, Value.int IntKind.i64 0] 24)) wr))
    (HF : Hid (s.size - nx s.data.toList p < f')) (HR : Hid (Tk.scan s.data.toList = Tk.comb acc (Tk.tl f' (nx s.data.toList p) (s.data.toList.drop (nx s.data.toList p))))) :
    Code.wp Tryd.prog rbody (Exit.then (fun a' w'' => WI s w a' w'' ∧ Wmu s a' w'' < Wmu s (frame s w.heap.size u) wr) Q0) (frame s w.heap.size u) wr := by
  have HNX := hide (nx_rem s p hlt h35)
  conv => arg 2; whnf
  unfold frame
  go_wp2
  go_loop [5] (fun i => ∃ j : Nat, p ≤ j ∧ j ≤ s.size ∧ i = .int .i64 j ∧ Hid (nx s.data.toList p = j + Tk.skip true (s.data.toList.drop j))) (fun i => s.size - (intOf i).toNat)
  case atStart => exact ⟨p, Nat.le_refl _, by omega, rfl, HNX⟩
  case round =>
    obtain ⟨j, hpj, hjs, rfl, HJ⟩ := hrel
    by_cases hjl : j < s.size
    · cases h10 : ((s[j].toNat : Int) == 10)
      · have HJ2 : Hid (nx s.data.toList p = (j + 1) + Tk.skip true (s.data.toList.drop (j + 1))) := HJ.out.trans (rem_step s j hjl h10).symm
        have h10' : ((s[j].toNat : Int) != 10) = true := by simpa using h10
        go_wp2
        go_round
        case rel => exact ⟨j + 1, by omega, by omega, by go_num, HJ2⟩
        case measure => simp [intOf]; omega
      · have hE := rem_end s j hjl h10
        have hJ := HJ.out
        rw [← hE] at hJ
        have hne : j ≠ p := by
          intro e
          subst e
          rw [h35] at h10
          cases h10
        have HF2 : Hid (s.size - nx s.data.toList j < f') := by rw [← hJ]; exact HF.out
        have HR2 : Hid (Tk.scan s.data.toList = Tk.comb acc (Tk.tl f' (nx s.data.toList j) (s.data.toList.drop (nx s.data.toList j)))) := by rw [← hJ]; exact HR.out
        have h10' : ((s[j].toNat : Int) != 10) = false := by simpa using h10
        clear hE hJ
        go_wp2
        refine ⟨wi_mk _ _ _ _ rfl ⟨acc, j, f', by omega, by omega, rfl, HF2, HR2, HO, HB⟩, ?_⟩
        simp [Wmu, intOf]
        omega
    · have hE := rem_over s j hjl
      have hJ := HJ.out
      rw [← hE] at hJ
      have HF2 : Hid (s.size - nx s.data.toList j < f') := by rw [← hJ]; exact HF.out
      have HR2 : Hid (Tk.scan s.data.toList = Tk.comb acc (Tk.tl f' (nx s.data.toList j) (s.data.toList.drop (nx s.data.toList j)))) := by rw [← hJ]; exact HR.out
      clear hE hJ
      go_wp2
      refine ⟨wi_mk _ _ _ _ rfl ⟨acc, j, f', by omega, by omega, rfl, HF2, HR2, HO, HB⟩, ?_⟩
      simp [Wmu, intOf]
      omega
end Go.Proofs.YtlipncdfmloijaaDoor
