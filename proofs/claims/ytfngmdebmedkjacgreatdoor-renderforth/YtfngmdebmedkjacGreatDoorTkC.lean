import Derived.Test.YtfngmdebmedkjacGreatDoorTkB
import Derived.Deep.QuietTactic
import Derived.BigQuiet
import Derived.Deep.RegionWith
/- Contract: the tokens of a text. -/
namespace Go.Proofs.YtfngmdebmedkjacGreatDoor
open Go.RowKit

theorem Tryz.infoTok : (Tryz.prog.info? 118).map (fun i => (i.zero, i.size, i.bytes)) = some (some (.agg #[.int .i64 0, .int .i64 0, .string ⟨#[]⟩, .int .i64 0]), 4, 40) := by kernel_rfl

/-- The cells of a row of tokens. -/
def tcells : List Tk.Tok → List Value
  | [] => []
  | x :: r => .int .i64 x.kind :: .int .i64 (x.at' : Int) :: .string (bs x.text) :: .int .i64 x.n :: tcells r
theorem tcells_len (l : List Tk.Tok) : (tcells l).length = l.length * 4 := by
  induction l with
  | nil => rfl
  | cons x r ih => simp only [tcells, List.length_cons, ih]; omega
theorem tcells_app (a b : List Tk.Tok) : tcells (a ++ b) = tcells a ++ tcells b := by
  induction a with
  | nil => rfl
  | cons x r ih => simp [tcells, ih]

/-- What Scan tells. -/
def scanV (v : Value) (r : List Tk.Tok × Int × Int) : Value := .tuple #[v, .agg #[.int .i64 r.2.1, .int .i64 r.2.2]]

/-- The result's own variable of a fault, as it was laid. -/
structure FltAt (w : World) (b : Nat) : Prop where
  c0 : w.cell? ⟨b, 0, none⟩ = some (.int .i64 0)
  c1 : w.cell? ⟨b, 1, none⟩ = some (.int .i64 0)
  f0 : w.frozen? ⟨b, 0, none⟩ = false
  f1 : w.frozen? ⟨b, 1, none⟩ = false
theorem fltAt_of {w w4 : World} (hb : Below (w.heap.size + 1) (w.alloc (.cells #[.int .i64 0, .int .i64 0] 29)) w4) : FltAt w4 w.heap.size := by
  constructor
  · rw [hb.cell (p := ⟨w.heap.size, 0, none⟩) (by show w.heap.size < _; omega)]; simp [go_sem]
  · rw [hb.cell (p := ⟨w.heap.size, 1, none⟩) (by show w.heap.size < _; omega)]; simp [go_sem]
  · rw [hb.frozen (p := ⟨w.heap.size, 0, none⟩) (by show w.heap.size < _; omega)]; simp [go_sem]
  · rw [hb.frozen (p := ⟨w.heap.size, 1, none⟩) (by show w.heap.size < _; omega)]; simp [go_sem]
theorem own_below {w w' : World} {B t z n : Nat} {v : Value} {xs : List Value} (h : w.ownsRow B t z v n xs) (hb : Below w.heap.size w w') : w'.ownsRow B t z v n xs := by
  refine ⟨h.1, h.2.imp id (fun ⟨g, cap, cur, hv, hB, hg, r⟩ => ⟨g, cap, cur, hv, hB, ?_, r⟩)⟩
  rw [hb.block g (by
    rcases Nat.lt_or_ge g w.heap.size with h' | h'
    · exact h'
    · rw [Array.getElem?_eq_none h'] at hg; cases hg)]
  exact hg
theorem cells_four_new (w : World) (n : Nat) (hn : n = w.heap.size) (x y z u : Value) (t : TypeId) : ∀ (j : Nat) (v : Value), [x, y, z, u][j]? = some v → (w.alloc (.cells #[x, y, z, u] t)).cell? ((⟨n, 0, none⟩ : Addr).add j) = some v := by
  intro j v hj
  subst hn
  rw [Addr.add_mid]
  match j, hj with
  | 0, hj => simp at hj; subst hj; simp [go_sem]
  | 1, hj => simp at hj; subst hj; simp [go_sem]
  | 2, hj => simp at hj; subst hj; simp [go_sem]
  | 3, hj => simp at hj; subst hj; simp [go_sem]
theorem own_down {w : World} {B B' t z n : Nat} {v : Value} {xs : List Value} (h : w.ownsRow B t z v n xs) (hB : B' ≤ B) : w.ownsRow B' t z v n xs :=
  ⟨h.1, h.2.imp id (fun ⟨g, cap, cur, hv, hb, r⟩ => ⟨g, cap, cur, hv, Nat.le_trans hB hb, r⟩)⟩

set_option maxHeartbeats 400000 in
theorem scan_huge (s : ByteArray) (w : World) (hs : s.size ≤ maxLen) (hbig : 12000 < s.size) :
    Calls Tryz.prog 36 #[.string s] w fun e w' => e = .returned (.tuple #[.slice none 0 0, .agg #[.int .i64 1, .int .i64 12000]]) ∧ Below w.heap.size w w' := by
  unfold maxLen at hs
  go_enter Tryz.func36, Tryz.ntmps36
  go_wp2
  exact bodyPost_ret (v := .tuple #[.slice none 0 0, .agg #[.int .i64 1, .int .i64 12000]]) (by simp [results, Tryz.results36, go_sem]) rfl ⟨rfl, by first | exact (Below.refl _ _).alloc (Nat.le_refl _) _ | exact (((Below.refl _ _).alloc (Nat.le_refl _) _).setCell (by simp) _).setCell (by simp) _⟩

set_option maxRecDepth 100000 in
set_option maxHeartbeats 1000000 in
theorem scan_in (s : ByteArray) (w : World) (hw : WTab w) (hs : s.size ≤ 12000) :
    Calls Tryz.prog 36 #[.string s] w fun e w' => ∃ v, e = .returned (scanV v (Tk.scan s.data.toList)) ∧ w'.ownsRow w.heap.size 118 4 v (Tk.scan s.data.toList).1.length (tcells (Tk.scan s.data.toList).1) ∧ Below w.heap.size w w' := by
  obtain ⟨i0, hi, hz0, hz1, hz2⟩ := info_parts Tryz.infoTok
  have d1 : decide ((12000 : Int) < (s.size : Int)) = false := by simp; omega
  have HBE := hide (fun k w hk => blanksEnd_any s k w (by omega) hk)
  have HW := hide hw
  clear hw
  have HTA := hide (fun p w hw hp => tokenAt_any s p w hw (by omega) hp)
  have hzn := Lib.size_eq s
  have HN := hide hzn
  clear hzn
  go_enter Tryz.func36, Tryz.ntmps36
  go_wp2_with fail
  refine (HBE.out 0 _ (by omega)).mono ?_
  rintro e w1 ⟨rfl, hw⟩
  subst hw
  have HSK : Hid (Tk.skip false s.data.toList ≤ s.size) := by
    have h1 := Tk.skip_le s.data.toList false
    have h2 := HN.out
    show _ ≤ _
    omega
  go_wp2
  go_loopw [4, 5] (fun v i wr => ∃ (acc : List Tk.Tok) (p f : Nat), acc.length ≤ p ∧ p ≤ s.size ∧ i = .int .i64 p ∧ Hid (s.size - p < f) ∧ Hid (Tk.scan s.data.toList = Tk.comb acc (Tk.tl f p (s.data.toList.drop p))) ∧
      Hid (wr.ownsRow (w.heap.size + 1) 118 4 v acc.length (tcells acc)) ∧ Hid (Below (w.heap.size + 1) (w.alloc (Obj.cells #[Value.int IntKind.i64 0, Value.int IntKind.i64 0] 29)) wr)) (fun _ i _ => s.size - (intOf i).toNat)
  case atStart =>
    refine ⟨[], Tk.skip false s.data.toList, s.size + 1, Nat.zero_le _, HSK.out, rfl, (by show _ < _; omega), ?_, World.ownsRow_nil _ _ _ _, Below.refl _ _⟩
    show _ = _
    rw [Tk.comb_nil _ (Tk.tl_nofault _ _ _)]
    unfold Tk.scan
    rw [if_neg (by rw [← HN.out]; omega), HN.out]
  case round =>
    obtain ⟨acc, p, f, hap, hps, rfl, HF, HR, HO, HB⟩ := hrel
    have hz := HB.out.size
    simp only [World.size_alloc] at hz
    by_cases hlt : p < s.size
    · have HWr : Hid (WTab wr) := (HW.out.below ((Below.refl _ w).alloc (Nat.le_refl _) _)).below (HB.out.mono (by simp))
      go_wp2_with fail
      refine (HTA.out p _ HWr.out hlt).mono ?_
      rintro e w2 ⟨rfl, hb2⟩
      have hl := drop_ne s p hlt
      have hlen : (s.data.toList.drop p).length = s.size - p := by rw [List.length_drop, ← HN.out]
      obtain ⟨f, rfl⟩ : ∃ f', f = f' + 1 := ⟨f - 1, by have := HF.out; omega⟩
      have hzw := hb2.size
      have HB2 := hide (HB.out.trans (hb2.mono (by omega)))
      by_cases hc : (Tk.tok (s.data.toList.drop p)).code = 0
      · obtain ⟨hn1, hn2⟩ := Tk.tok_len _ hc
        have hcs := Tk.comb_step acc (s.data.toList.drop p) p f hl hc
        have hE := HR.out.trans hcs
        have hv : ansV (Tk.tok (s.data.toList.drop p)) p (bs ((s.data.toList.drop p).take (Tk.tok (s.data.toList.drop p)).len)) = .tuple #[.agg #[.int .i64 (Tk.tok (s.data.toList.drop p)).kind, .int .i64 (p : Int), .string (bs ((s.data.toList.drop p).take (Tk.tok (s.data.toList.drop p)).len)), .int .i64 (Tk.tok (s.data.toList.drop p)).n], .agg #[.int .i64 0, .int .i64 0]] := by
          unfold ansV
          rw [if_pos hc]
        rw [hv]
        clear hv hc HR hl hcs
        have hbs : (bs ((s.data.toList.drop p).take (Tk.tok (s.data.toList.drop p)).len)).size = (Tk.tok (s.data.toList.drop p)).len := by
          rw [Lib.size_eq]
          simp only [bs, List.toList_toArray, List.length_take]
          omega
        have hsk := Tk.skip_le ((s.data.toList.drop p).drop (Tk.tok (s.data.toList.drop p)).len) false
        rw [List.length_drop, hlen] at hsk
        rw [hlen] at hn2
        simp only [List.drop_drop] at hE hsk
        generalize (Tk.tok (s.data.toList.drop p)).len = m at *
        generalize (Tk.tok (s.data.toList.drop p)).kind = kd at *
        generalize (Tk.tok (s.data.toList.drop p)).n = nn at *
        generalize (s.data.toList.drop p).take m = tx at *
        have HE := hide hE
        have HBS := hide hbs
        have HO2 : Hid (w2.ownsRow (w.heap.size + 1) 118 4 u4 acc.length (tcells acc)) := own_below HO.out hb2
        clear hE hlen hb2
        generalize hX : bs tx = X at *
        have HX := hide hX
        clear hX
        go_wp2_with (at_builtin; refine wpList_append_own _ rfl _ _ 72 rfl (w.heap.size + 1) 118 i0 (.agg #[.int .i64 0, .int .i64 0, .string ⟨#[]⟩, .int .i64 0]) 4 40 Tryz.underlying72 hi hz0 hz1 hz2 rfl (by decide) _ _ _ rfl (by exact ((HO2.out.alloc _).alloc _).alloc _) ⟨w2.heap.size + 1 + 1, 0, none⟩ 1 1 [.int .i64 kd, .int .i64 p, .string X, .int .i64 nn] rfl rfl ?c1 ?c2 ?c3 ?c4 ?c5 ?_)
        case c1 => exact cells_four_new _ _ (by simp) _ _ _ _ _
        case c2 => intro u hu; simp at hu; rcases hu with rfl | rfl | rfl | rfl <;> rfl
        case c3 => unfold maxLen; omega
        case c4 => omega
        case c5 => simp; omega
        · intro v' w3 hown' hgrow _
          have HO3 : Hid (w3.ownsRow (w.heap.size + 1) 118 4 v' (acc ++ [(⟨kd, p, tx, nn⟩ : Tk.Tok)]).length (tcells (acc ++ [⟨kd, p, tx, nn⟩]))) := by
            show World.ownsRow _ _ _ _ _ _ _
            rw [tcells_app]
            simpa [tcells, HX.out] using hown'
          have HB3 : Hid (Below (w.heap.size + 1) (w.alloc (Obj.cells #[Value.int IntKind.i64 0, Value.int IntKind.i64 0] 29)) w3) :=
            (((HB2.out.alloc (by omega) _).alloc (by simp; omega) _).alloc (by simp; omega) _).grown hgrow (by simp; omega) (fun j hj => (HO2.out.lt j hj).1)
          have HT3 : Hid (w3.cell? ⟨w2.heap.size, 2, none⟩ = some (.string X)) := by
            have hne : ∀ j, u4.ownBlock = some j → j < w2.heap.size := fun j hj => (HO2.out.lt j hj).2
            refine hgrow.cell (a := ⟨w2.heap.size, 2, none⟩) (by simp [go_sem]) (fun e => ?_)
            exact absurd (hne _ e.symm) (Nat.lt_irrefl _)
          have hzw3 : w.heap.size + 1 ≤ w3.heap.size := by have := HB3.out.size; simpa using this
          clear hown' hgrow
          have ct := HT3.out
          have hXs := HBS.out
          clear HBS
          go_wp2_with fail
          refine (HBE.out (p + m) _ (by omega)).mono ?_
          rintro e w4 ⟨rfl, hw⟩
          subst hw
          go_wp2
          go_roundw
          case rel => exact ⟨acc ++ [⟨kd, p, tx, nn⟩], p + m + Tk.skip false (s.data.toList.drop (p + m)), f, by simp; omega, by omega, by go_num, (by have := HF.out; show _ < _; omega), (by have := HE.out; show _ = _; rw [this]; simp only [Nat.add_assoc]), HO3, HB3⟩
          case measure => simp [intOf]; omega
      · have hE : Tk.scan s.data.toList = ([], (Tk.tok (s.data.toList.drop p)).code, (p : Int)) := by
          rw [HR.out, Tk.tok_bad _ _ _ hl hc]
          simp [Tk.comb, hc]
        have hv : ∀ T, ansV (Tk.tok (s.data.toList.drop p)) p T = .tuple #[.agg #[.int .i64 0, .int .i64 0, .string ⟨#[]⟩, .int .i64 0], .agg #[.int .i64 (Tk.tok (s.data.toList.drop p)).code, .int .i64 (p : Int)]] := fun T => by
          unfold ansV
          rw [if_neg hc]
        rw [hv]
        have d2 : ((Tk.tok (s.data.toList.drop p)).code != 0) = true := by simpa using hc
        clear hv hc HR HF hl hlen
        generalize (Tk.tok (s.data.toList.drop p)).code = c at *
        have HE := hide hE
        obtain ⟨c0, c1, f0, f1⟩ := fltAt_of HB2.out
        have hzz : w.heap.size < w2.heap.size := by omega
        clear hE hb2
        go_wp2
        go_region
        all_goals go_wp2
        refine bodyPost_ret (v := scanV (.slice none 0 0) ([], c, (p : Int))) (by simp [results, Tryz.results36, go_sem, scanV, c0, c1, hzz]) rfl ⟨.slice none 0 0, ?_⟩
        rw [HE.out]
        refine ⟨rfl, World.ownsRow_nil _ _ _ _, ?_⟩
        exact (((((((Below.refl _ w).alloc (Nat.le_refl _) _).trans (HB2.out.mono (by omega))).setCell (Nat.le_refl _) _).setCell (Nat.le_refl _) _).alloc (by simp [World.setCell]; omega) _).alloc (by simp [World.setCell]; omega) _).drew
    · obtain rfl : p = s.size := by omega
      have HE : Hid (Tk.scan s.data.toList = (acc, 0, 0)) := by
        have h1 := HR.out
        rw [List.drop_of_length_le (by rw [← HN.out]; omega), Tk.tl_nil] at h1
        show _ = _
        rw [h1]
        simp [Tk.comb]
      obtain ⟨c0, c1, f0, f1⟩ := fltAt_of HB.out
      go_wp2
      refine bodyPost_ret (v := scanV u4 (acc, 0, 0)) (by simp [results, Tryz.results36, go_sem, scanV, c0, c1]) rfl ⟨u4, ?_⟩
      rw [HE.out]
      refine ⟨rfl, ?_, ?_⟩
      · exact own_down (ownsRow_setCell_below (ownsRow_setCell_below HO.out (a := ⟨w.heap.size, 0, none⟩) (by simp) _) (a := ⟨w.heap.size, 1, none⟩) (by simp) _) (by omega)
      · exact ((((Below.refl _ w).alloc (Nat.le_refl _) _).trans (HB.out.mono (by omega))).setCell (Nat.le_refl _) _).setCell (Nat.le_refl _) _
end Go.Proofs.YtfngmdebmedkjacGreatDoor
/- Contracts: is it a name; that the package has begun. -/
namespace Go.Proofs.YtfngmdebmedkjacGreatDoor
open Go.RowKit

/-- Is it a name? -/
def Tk.isN (l : List UInt8) : Bool := decide (0 < l.length) && decide (l.length ≤ 12) && Tk.isL (l.headD 0) && decide (Tk.run l = l.length) && !Tk.isW l

theorem head_at (s : ByteArray) (h0 : 0 < s.size) : s[0] = s.data.toList.headD 0 := by
  have h1 := drop_at s 0 h0
  rw [List.drop_zero] at h1
  rw [h1]; rfl

set_option maxHeartbeats 1000000 in
theorem name_any (s : ByteArray) (w : World) (hw : WTab w) (hs : s.size ≤ 1099511627776) :
    Calls Tryz.prog 84 #[.string s] w fun e w' => e = .returned (.bool (Tk.isN s.data.toList)) ∧ w' = w := by
  have hz := Lib.size_eq s
  by_cases h0 : s.size = 0
  · have hE : Tk.isN s.data.toList = false := by unfold Tk.isN; rw [← hz, h0]; rfl
    have hse : s = ⟨#[]⟩ := by
      apply ByteArray.ext
      exact Array.eq_empty_of_size_eq_zero h0
    have HE := hide hE
    have HS := hide hse
    clear hE hz hw
    have q2 : s.toList = [] := by rw [Lib.toList_data, hse]
    have q1 : s.toList.isEmpty = true := by rw [q2]; rfl
    clear hse
    go_enter Tryz.func84, Tryz.ntmps84
    go_wp2
    all_goals
      go_ret
      rw [HE.out]
      exact ⟨rfl, rfl⟩
  · have hp : 0 < s.size := by omega
    have q2 : ¬ s.toList = [] := by
      rw [Lib.toList_data]
      intro h1
      rw [h1] at hz
      exact h0 hz
    have q1 : s.toList.isEmpty = false := by simpa using q2
    by_cases h12 : 12 < s.size
    · have hE : Tk.isN s.data.toList = false := by
        unfold Tk.isN
        rw [← hz, show decide (s.size ≤ 12) = false from by simp; omega]
        simp
      have HE := hide hE
      clear hE hz hw
      have d1 : decide ((12 : Int) < (s.size : Int)) = true := by simp; omega
      go_enter Tryz.func84, Tryz.ntmps84
      go_wp2
      all_goals
        go_ret
        rw [HE.out]
        exact ⟨rfl, rfl⟩
    · have d1 : decide ((12 : Int) < (s.size : Int)) = false := by simp; omega
      have hh := head_at s hp
      have HL := hide (fun w => isLetter_any s[0] w)
      have HR := hide (fun w => runEnd_any s 0 w hs (Nat.zero_le _))
      have HW := hide (fun w hw => word_any s w hw)
      have HT := hide hw
      have hE : Tk.isN s.data.toList = (Tk.isL s[0] && decide (Tk.run s.data.toList = s.size) && !Tk.isW s.data.toList) := by
        unfold Tk.isN
        rw [← hz, hh, show decide (0 < s.size) = true from by simp; omega, show decide (s.size ≤ 12) = true from by simp; omega]
        simp
      have HE := hide hE
      clear hE hz hw hh h0
      cases hL : Tk.isL s[0]
      · go_enter Tryz.func84, Tryz.ntmps84
        go_wp2_with (first | (go_at_call 121; refine (HL.out _).mono ?_; rintro e w' ⟨rfl, hw⟩; subst hw))
        go_ret
        rw [HE.out, hL]
        exact ⟨rfl, rfl⟩
      · cases hr : decide (Tk.run s.data.toList = s.size)
        · have q2 : ((Tk.run s.data.toList : Int) == (s.size : Int)) = false := by simp at hr ⊢; omega
          go_enter Tryz.func84, Tryz.ntmps84
          go_wp2_with (first | (go_at_call 121; refine (HL.out _).mono ?_; rintro e w' ⟨rfl, hw⟩; subst hw) | (go_at_call 96; refine (HR.out _).mono ?_; rintro e w' ⟨rfl, hw⟩; subst hw) | (go_at_call 122; refine (HW.out _ HT.out).mono ?_; rintro e w' ⟨rfl, hw⟩; subst hw))
          go_ret
          rw [HE.out, hL, hr]
          exact ⟨rfl, rfl⟩
        · have q2 : ((Tk.run s.data.toList : Int) == (s.size : Int)) = true := by simp at hr ⊢; omega
          cases hWd : Tk.isW s.data.toList
          · go_enter Tryz.func84, Tryz.ntmps84
            go_wp2_with (first | (go_at_call 121; refine (HL.out _).mono ?_; rintro e w' ⟨rfl, hw⟩; subst hw) | (go_at_call 96; refine (HR.out _).mono ?_; rintro e w' ⟨rfl, hw⟩; subst hw) | (go_at_call 122; refine (HW.out _ HT.out).mono ?_; rintro e w' ⟨rfl, hw⟩; subst hw))
            go_ret
            rw [HE.out, hL, hr, hWd]
            exact ⟨rfl, rfl⟩
          · go_enter Tryz.func84, Tryz.ntmps84
            go_wp2_with (first | (go_at_call 121; refine (HL.out _).mono ?_; rintro e w' ⟨rfl, hw⟩; subst hw) | (go_at_call 96; refine (HR.out _).mono ?_; rintro e w' ⟨rfl, hw⟩; subst hw) | (go_at_call 122; refine (HW.out _ HT.out).mono ?_; rintro e w' ⟨rfl, hw⟩; subst hw))
            go_ret
            rw [HE.out, hL, hr, hWd]
            exact ⟨rfl, rfl⟩

/-- The cells of a row of tokens. -/
theorem tcells_at (l : List Tk.Tok) (i : Nat) (x : Tk.Tok) (h : l[i]? = some x) : (tcells l)[i * 4]? = some (.int .i64 x.kind) ∧ (tcells l)[i * 4 + 1]? = some (.int .i64 (x.at' : Int)) ∧ (tcells l)[i * 4 + 2]? = some (.string (bs x.text)) ∧ (tcells l)[i * 4 + 3]? = some (.int .i64 x.n) := by
  induction l generalizing i with
  | nil => simp at h
  | cons y r ih =>
    match i with
    | 0 => simp at h; subst h; simp [tcells]
    | i + 1 =>
      have := ih i (by simpa using h)
      rw [show (i + 1) * 4 = i * 4 + 1 + 1 + 1 + 1 from by omega]
      simpa [tcells] using this
/-- A row of tokens lies at a place. -/
def TAt (w : World) (b : Nat) (l : List Tk.Tok) : Prop :=
  ∀ i x, l[i]? = some x → w.cell? ⟨b, i * 4, none⟩ = some (.int .i64 x.kind) ∧ w.cell? ⟨b, i * 4 + 1, none⟩ = some (.int .i64 (x.at' : Int)) ∧ w.cell? ⟨b, i * 4 + 2, none⟩ = some (.string (bs x.text)) ∧ w.cell? ⟨b, i * 4 + 3, none⟩ = some (.int .i64 x.n)
theorem TAt.below {w w' : World} {b : Nat} {l : List Tk.Tok} (h : TAt w b l) {B : Nat} (hb : Below B w w') (hlt : b < B) : TAt w' b l := fun i x hx => by
  obtain ⟨h0, h1, h2, h3⟩ := h i x hx
  exact ⟨(hb.cell (p := ⟨b, i * 4, none⟩) hlt).trans h0, (hb.cell (p := ⟨b, i * 4 + 1, none⟩) hlt).trans h1, (hb.cell (p := ⟨b, i * 4 + 2, none⟩) hlt).trans h2, (hb.cell (p := ⟨b, i * 4 + 3, none⟩) hlt).trans h3⟩
/-- What an owned row of tokens gives. -/
theorem own_tat {w : World} {B : Nat} {v : Value} {l : List Tk.Tok} (h : w.ownsRow B 118 4 v l.length (tcells l)) (hp : 0 < l.length) :
    ∃ g cap, v = .slice (some ⟨g, 0, none⟩) l.length cap ∧ B ≤ g ∧ g < w.heap.size ∧ l.length ≤ cap ∧ cap ≤ maxLen ∧ TAt w g l := by
  rcases h.2 with ⟨_, h0⟩ | ⟨g, cap, cur, hv, hb, hg, hnc, hcm, _, _⟩
  · omega
  · refine ⟨g, cap, hv, hb, (h.lt g (by rw [hv]; rfl)).2, hnc, hcm, fun i x hi => ?_⟩
    obtain ⟨k0, k1, k2, k3⟩ := tcells_at l i x hi
    have h0 := h.cells (g := g) (by rw [hv]; rfl) (i * 4) _ k0
    have h1 := h.cells (g := g) (by rw [hv]; rfl) (i * 4 + 1) _ k1
    have h2 := h.cells (g := g) (by rw [hv]; rfl) (i * 4 + 2) _ k2
    have h3 := h.cells (g := g) (by rw [hv]; rfl) (i * 4 + 3) _ k3
    rw [Addr.add_mid, Nat.zero_add] at h0 h1 h2 h3
    exact ⟨h0, h1, h2, h3⟩
end Go.Proofs.YtfngmdebmedkjacGreatDoor
