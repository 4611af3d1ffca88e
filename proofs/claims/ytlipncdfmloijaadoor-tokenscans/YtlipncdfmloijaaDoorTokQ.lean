/- The document's own Scan: the loop's body, the frame, what a round keeps. -/
import Derived.Test.YtlipncdfmloijaaDoorTokN
namespace Go.Proofs.YtlipncdfmloijaaDoor
open Go.RowKit

/-- The first loop in a code. -/
def firstLoop : Code → Option Code
  | .loop c => some c
  | .seq a b => match firstLoop a with
    | some c => some c
    | none => firstLoop b
  | .block _ c => firstLoop c
  | .scope c => firstLoop c
  | .cond _ a b => match firstLoop a with
    | some c => some c
    | none => firstLoop b
  | _ => none
noncomputable def rbody : Code := (Tryd.f26.body.bind firstLoop).getD .skip

set_option maxRecDepth 1000000 in
/-- The frame in the loop. -/
def frame (s : ByteArray) (b : Nat) (u : Nat → Value) : Act := ⟨#[.string s, undef, u 2, .pointer (some ⟨b, 0, none⟩), u 4, u 5, u 6, u 7, u 8, u 9, u 10, .string s, .int .i64 (s.size : Int), .bool false, undef, u 15, u 16, u 17, u 18, u 19, u 20, u 21, u 22, u 23, u 24, u 25, u 26, u 27, u 28, u 29, u 30, u 31, u 32, u 33, u 34, u 35, u 36, u 37, u 38, u 39, u 40, u 41, u 42, u 43, u 44, u 45, u 46, u 47, u 48, u 49, u 50, u 51, u 52, u 53, u 54, u 55, u 56, u 57, u 58, u 59, u 60, u 61, u 62, u 63, u 64, u 65, u 66, u 67, u 68, u 69, u 70, u 71, u 72, u 73, u 74, u 75, u 76, u 77, u 78, u 79, u 80, u 81, u 82, u 83, u 84, u 85, u 86, u 87, u 88, u 89, u 90, u 91, u 92, u 93, u 94, u 95, u 96, u 97, u 98, u 99, u 100, u 101, u 102, u 103, u 104, u 105, u 106, u 107, u 108, u 109, u 110, u 111, u 112, u 113, u 114, u 115, u 116, u 117, u 118, u 119, u 120, u 121, u 122, u 123, u 124, u 125, u 126, u 127, u 128, u 129, u 130, u 131, u 132, u 133, u 134, u 135, u 136, u 137, u 138, u 139, u 140, u 141, u 142, u 143, u 144, u 145, u 146, u 147, u 148, u 149, u 150, u 151, u 152, u 153, u 154, u 155, u 156, u 157, u 158, u 159, u 160, u 161, u 162, u 163, u 164, u 165, u 166, u 167, u 168, u 169, u 170, u 171, u 172, u 173, u 174, u 175, u 176, u 177, u 178, u 179, u 180, u 181, u 182, u 183, u 184, u 185, u 186, u 187, u 188, undef, undef], []⟩
/-- What a round keeps. -/
def Rel (s : ByteArray) (w : World) (v i : Value) (wr : World) : Prop := ∃ (acc : List Tk.Tok) (p f : Nat), acc.length ≤ p ∧ p ≤ s.size ∧ i = .int .i64 p ∧ Hid (s.size - nx s.data.toList p < f) ∧ Hid (Tk.scan s.data.toList = Tk.comb acc (Tk.tl f (nx s.data.toList p) (s.data.toList.drop (nx s.data.toList p)))) ∧
      Hid (wr.ownsRow (w.heap.size + 1) 47 4 v acc.length (tcells acc)) ∧ Hid (Below (w.heap.size + 1) (w.alloc (Obj.cells #[Value.int IntKind.i64 0, Value.int IntKind.i64 0] 24)) wr)
def WI (s : ByteArray) (w : World) (a : Act) (wr : World) : Prop := ∃ u : Nat → Value, Rel s w (u 4) (u 5) wr ∧ a = frame s w.heap.size u
def Wmu (s : ByteArray) (a : Act) (_ : World) : Nat := s.size - (intOf (a.tmps.getD 5 undef)).toNat
theorem wi_mk (s : ByteArray) (w : World) (a : Act) (wr : World) (ha : a = frame s w.heap.size (fun n => a.tmps.getD n undef)) (hrel : Rel s w (a.tmps.getD 4 undef) (a.tmps.getD 5 undef) wr) : WI s w a wr := ⟨_, hrel, ha⟩
end Go.Proofs.YtlipncdfmloijaaDoor
