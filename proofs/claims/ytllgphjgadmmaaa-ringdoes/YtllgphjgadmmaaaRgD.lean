import Derived.Test.YtllgphjgadmmaaaRgB
/- Rings: the loop of the law RingDoes: its body, its frame, what a round keeps. -/
namespace Go.Proofs.Ytllgphjgadmmaaa
open Go.RowKit

theorem SR.keep {w w' : World} {v : Value} {L : List (Int × Int × Bool)} (h : SR w v L) (hb : Below w.heap.size w w') : SR w' v L := by
  obtain ⟨a, c, h1, h2⟩ := h
  refine ⟨a, c, h1, fun hn => ?_⟩
  obtain ⟨g, o, h3, h4⟩ := h2 hn
  exact ⟨g, o, h3, fun k x hx => ⟨bsome hb (h4 k x hx).1, bsome hb (h4 k x hx).2.1, bsome hb (h4 k x hx).2.2⟩⟩
theorem kp9 (x : Int) : ∃ q : Nat, q < 9 ∧ wrap64 ((IntKind.u64.wrap x).tmod 9) = (q : Int) := by
  have h0' : 0 ≤ IntKind.u64.wrap x := by rw [IntKind.wrap_u64]; omega
  have h1 := Int.tmod_eq_emod_of_nonneg (b := 9) h0'
  rw [h1]
  generalize IntKind.u64.wrap x = y at *
  refine ⟨(y % 9).toNat, by omega, ?_⟩
  unfold wrap64
  omega
theorem upd_id {α : Type} (f : Nat → α) (k : Nat) : upd f k (f k) = f := funext fun j => by
  unfold upd
  split
  · rename_i e; rw [e]
  · rfl
theorem max_nat (a : Int) : (if a < 0 then (0 : Int) else a) = ((a.toNat : Nat) : Int) := by split <;> omega
/-- The law's state at its beginning. -/
theorem LS.start {RI : (Nat → Prop) → World → Nat → Nat → List Int → Prop} (C : RingOK RI) {w0 w1 w2 : World} {p1 p2 s1 s2 : Nat} {F1 F2 : Nat → Prop} (h1 : RI F1 w1 p1 s1 []) (h2 : RI F2 w2 p2 s2 []) (hb1 : Below w0.heap.size w0 w1) (hb2 : Below w1.heap.size w1 w2) (hf1 : ∀ b, F1 b → w0.heap.size ≤ b) (hf2 : ∀ b, F2 b → w1.heap.size ≤ b) :
    LS RI w0 w2.heap.size (w2.heap.size + 1) (w2.heap.size + 1 + 1) (((w2.alloc (.cells #[.pointer (some ⟨p1, 0, none⟩), .pointer (some ⟨p2, 0, none⟩)] 24)).alloc (.cells #[.slice none 0 0, .slice none 0 0] 28)).alloc (.cells #[.int .i64 (s1 : Int), .int .i64 (s2 : Int)] 3)) (fun k => if k = 0 then p1 else p2) (fun k => if k = 0 then s1 else s2) (fun k => if k = 0 then F1 else F2) (fun _ => []) (fun _ => []) (fun _ => .slice none 0 0) := by
  have hs1 := hb1.size
  have hs2 := hb2.size
  have k1 := C.keep h1 (Kx.of_below hb2)
  have hb3 : Below w2.heap.size w2 (((w2.alloc (.cells #[.pointer (some ⟨p1, 0, none⟩), .pointer (some ⟨p2, 0, none⟩)] 24)).alloc (.cells #[.slice none 0 0, .slice none 0 0] 28)).alloc (.cells #[.int .i64 (s1 : Int), .int .i64 (s2 : Int)] 3)) := (((Below.refl _ _).alloc (Nat.le_refl _) _).alloc (by simp) _).alloc (by simp; omega) _
  have two : ∀ k, k < 2 → k = 0 ∨ k = 1 := fun k hk => by omega
  refine ⟨fun k hk => ?_, fun k hk => ?_, fun k hk => ?_, fun k => by simp [go_sem], fun k hk => ?_, fun k hk => .inl ⟨rfl, rfl⟩, fun i j b hi hj hij g1 g2 => ?_, fun k b hk g1 => ?_, fun k b hk hv => (by cases hv), fun i j b hi hj hij hv => (by cases hv), ⟨by omega, by omega, by omega⟩, ⟨by omega, by omega, by omega⟩, ?_⟩
  · rcases two k hk with rfl | rfl <;> simp [go_sem]
  · rcases two k hk with rfl | rfl <;> simp [go_sem]
  · rcases two k hk with rfl | rfl <;> simp [go_sem]
  · rcases two k hk with rfl | rfl
    · exact C.keep k1 (Kx.of_below hb3)
    · exact C.keep h2 (Kx.of_below hb3)
  · have a1 := fun b (h : F1 b) => C.lt h1 b h
    have a2 := hf2
    rcases two i hi with rfl | rfl <;> rcases two j hj with rfl | rfl
    · exact hij rfl
    · have := a1 b g1; have := a2 b g2; omega
    · have := a1 b g2; have := a2 b g1; omega
    · exact hij rfl
  · rcases two k hk with rfl | rfl
    · have := C.lt h1 b g1; have := hf1 b g1; exact ⟨by omega, by omega, by omega, by omega⟩
    · have := C.lt h2 b g1; have := hf2 b g1; exact ⟨by omega, by omega, by omega, by omega⟩
  · exact (btrans hb1 hb2).trans (hb3.mono (by omega))

theorem step_call_ex {P : Program} {ops : Array Oper} {o : Oper} {a : Act} {w : World} {K : Act → World → Prop} {Q : Exit → Act → World → Prop} {E : Prop} (hgd : o.guard = none) (f : FuncId) (args : Array Value) (hrun : (execOp a.eval o).run P w = .ok (.enter f args) w)
    {R : Value → World → Prop} (hC : Calls P f args w fun e w' => ∃ v, e = .returned v ∧ R v w') (hK : ∀ v w', R v w' → K (a.put o.dst v) w') : if Region.wanted o (yielded ops a.tmps) = true then Oper.wp P o a w K Q else E := by
  have hw : Region.wanted o (yielded ops a.tmps) = true := by simp [Region.wanted, hgd]
  rw [if_pos hw]
  unfold Oper.wp
  rw [hrun]
  show Calls P f args w _
  refine hC.mono ?_
  rintro e w' ⟨v, rfl, hr⟩
  exact hK v w' hr
/-- The first loop in a code. -/
def firstLoop : Code → Option Code
  | .loop c => some c
  | .seq a b => match firstLoop a with
    | some c => some c
    | none => firstLoop b
  | .block _ c => firstLoop c
  | .scope c => firstLoop c
  | .cond _ a b => match firstLoop a with
    | some c => some c
    | none => firstLoop b
  | _ => none
noncomputable def gbody : Code := (Try.f3.body.bind firstLoop).getD .skip
set_option maxRecDepth 1000000 in
/-- The frame in the loop. -/
def gframe (av : Option Addr) (n cv br bm bs : Nat) (u : Nat → Value) : Act := ⟨#[u 0, u 1, .slice av n cv, u 3, u 4, u 5, u 6, .slice (some ⟨br, 0, none⟩) 2 2, .slice (some ⟨bm, 0, none⟩) 2 2, .slice (some ⟨bs, 0, none⟩) 2 2, u 10, u 11, u 12, u 13, u 14, u 15, u 16, u 17, u 18, u 19, u 20, u 21, u 22, u 23, u 24, u 25, u 26, u 27, u 28, u 29, u 30, u 31, u 32, u 33, u 34, u 35, u 36, u 37, u 38, u 39, u 40, u 41, u 42, u 43, u 44, u 45, u 46, u 47, u 48, u 49, u 50, u 51, u 52, u 53, u 54, u 55, u 56, u 57, u 58, u 59, u 60, u 61, u 62, u 63, u 64, u 65, u 66, u 67, u 68, u 69, u 70, u 71, u 72, u 73, u 74, u 75, u 76, u 77, u 78, u 79, u 80, u 81, u 82, u 83, u 84, u 85, u 86, u 87, u 88, u 89, u 90, u 91, u 92, u 93, u 94, u 95, u 96, u 97, u 98, u 99, u 100, u 101, u 102, u 103, u 104, u 105, u 106, u 107, u 108, u 109, u 110, u 111, u 112, u 113, u 114, u 115, u 116, u 117, u 118, u 119, u 120, u 121, u 122, u 123, u 124, u 125, u 126, u 127, u 128, u 129, u 130, u 131, u 132, u 133, u 134, u 135, u 136, u 137, u 138, u 139, u 140, u 141, u 142, u 143, u 144, u 145, u 146, u 147, u 148, u 149, u 150, u 151, u 152, u 153, u 154, u 155, u 156, u 157, u 158, u 159, u 160, u 161, u 162, u 163, u 164, u 165, u 166, u 167, u 168, u 169, u 170, u 171, u 172, u 173, u 174, u 175, u 176, u 177, u 178, u 179, u 180, u 181, u 182, u 183, u 184, u 185, u 186, u 187, u 188, u 189, u 190, u 191, u 192, u 193, u 194, u 195, u 196, u 197, u 198, u 199, u 200, u 201, u 202, u 203, u 204, u 205, u 206, u 207, u 208, u 209, u 210, u 211, u 212, u 213, u 214, u 215, u 216, u 217, u 218, u 219, u 220, u 221, u 222, u 223, u 224, u 225, u 226, u 227], []⟩
/-- What stands behind the loop: of a panic it asks nothing of the frame. -/
def qmix (P0 : List PanicEntry → Act → World → Prop) (Q1 : Exit → Act → World → Prop) (e : Exit) (a : Act) (w : World) : Prop := match e with
  | .panic c => P0 c ⟨#[], a.defers⟩ w
  | x => Q1 x a w
/-- What a round keeps. -/
def GRel (RI : (Nat → Prop) → World → Nat → Nat → List Int → Prop) (w1 : World) (n br bm bs : Nat) (p s : Nat → Nat) (v : Value) (wr : World) : Prop :=
  ∃ (i : Nat) (F : Nat → Nat → Prop) (M : Nat → List Int) (V : Nat → Value), i ≤ n ∧ v = .int .i64 i ∧ Hid (LS RI w1 br bm bs wr p s F M M V) ∧ Hid (∀ k, (M k).length ≤ i)
def GI (RI : (Nat → Prop) → World → Nat → Nat → List Int → Prop) (w1 : World) (av : Option Addr) (n cv br bm bs : Nat) (p s : Nat → Nat) (a : Act) (wr : World) : Prop := ∃ u : Nat → Value, GRel RI w1 n br bm bs p s (u 10) wr ∧ a = gframe av n cv br bm bs u
def Gmu (n : Nat) (a : Act) (_ : World) : Nat := n - (intOf (a.tmps.getD 10 undef)).toNat
theorem gi_mk {RI : (Nat → Prop) → World → Nat → Nat → List Int → Prop} {w1 : World} {av : Option Addr} {n cv br bm bs : Nat} {p s : Nat → Nat} (a : Act) (wr : World) (ha : a = gframe av n cv br bm bs (fun k => a.tmps.getD k undef)) (hrel : GRel RI w1 n br bm bs p s (a.tmps.getD 10 undef) wr) : GI RI w1 av n cv br bm bs p s a wr := ⟨_, hrel, ha⟩
/-- Where a round ends. -/
def GEnd (RI : (Nat → Prop) → World → Nat → Nat → List Int → Prop) (w1 : World) (av : Option Addr) (n cv br bm bs : Nat) (p s : Nat → Nat) (u : Nat → Value) (wr : World) (a' : Act) (w'' : World) : Prop := GI RI w1 av n cv br bm bs p s a' w'' ∧ Gmu n a' w'' < Gmu n (gframe av n cv br bm bs u) wr
end Go.Proofs.Ytllgphjgadmmaaa
