import Derived.Test.YtibhbbgpeckkfaaRnkB
/- Ranks: the document's own. -/
namespace Go.Proofs.Ytibhbbgpeckkfaa
open Go.RowKit

def up2 (E : Rk.Eg) : List (Int × Int) := E.map fun e => ((e.1 : Int), (e.2 : Int))
theorem up2_len (E : Rk.Eg) : (up2 E).length = E.length := by simp [up2]
theorem up2_get {E : Rk.Eg} {i : Nat} {e : Nat × Nat} (h : E[i]? = some e) : (up2 E)[i]? = some ((e.1 : Int), (e.2 : Int)) := by simp [up2, h]
theorem up2_ne {E : Rk.Eg} {i : Nat} (h : i < E.length) : up2 E ≠ [] := fun e => by
  have := congrArg List.length e
  rw [up2_len, List.length_nil] at this
  omega
theorem up_g {o : List Nat} {v : Nat} (h : v < o.length) : (up o)[v]? = some ((Rk.g o v : Nat) : Int) := by
  have : Rk.g o v = o[v] := by simp [Rk.g, h]
  rw [this]
  exact up_get (List.getElem?_eq_getElem h)
theorem up_set (o : List Nat) (v x : Nat) : (up o).set v ((x : Nat) : Int) = up (o.set v x) := by simp [up, List.map_set]
theorem up_rep (n : Nat) : up (List.replicate n 0) = List.replicate n 0 := by simp [up]
theorem drop_at {α : Type} {l : List α} {i : Nat} {x : α} (h : l[i]? = some x) : l.drop i = x :: l.drop (i + 1) := by
  have hi := (List.getElem?_eq_some_iff.1 h).1
  rw [List.drop_eq_getElem_cons hi, (List.getElem?_eq_some_iff.1 h).2]
theorem AR.ir {ga : Nat} {w : World} {l : List Int} (h : AR ga w l) (n c : Nat) (hn : l.length = n) : IR w (.slice (some ⟨ga, 0, none⟩) n c) l := by
  subst hn
  exact ⟨_, c, rfl, fun _ => ⟨ga, 0, rfl, fun k x hx => by rw [Nat.zero_add]; exact h.cell k x hx⟩⟩
/-- What Ranks answers. -/
def GRP (E : Rk.Eg) (n : Nat) (w : World) (e : Ending) (w' : World) : Prop :=
  (match Rk.rr E (n + 1) (List.replicate n 0) with
    | some o => ∃ a c, e = .returned (.tuple #[.slice a n c, .bool true]) ∧ o.length = n ∧ IR w' (.slice a n c) (up o)
    | none => e = .returned (.tuple #[.slice none 0 0, .bool false])) ∧ Below w.heap.size w w'

set_option maxRecDepth 100000 in
set_option maxHeartbeats 4000000 in
theorem granks_any (n : Nat) (E : Rk.Eg) (v : Value) (w : World) (h : ER w v (up2 E)) (hE : Rk.In n E) (hn : n ≤ 300) (hl : E.length ≤ 20000) :
    Calls Try.prog 11 #[.int .i64 n, v] w (GRP E n w) := by
  obtain ⟨Z, hZ, mk⟩ := make_ints n hn
  have HLT := hide (h.lt)
  obtain ⟨a, c, rfl, h⟩ := h
  rw [up2_len] at *
  have HR := hide h
  have HE := hide hE
  have HA0 := hide (ar_new w Z n hZ)
  clear h hE hZ
  go_enter Try.func11, Try.ntmps11
  go_wp2
  obtain ⟨W, hW⟩ : ∃ W, w.alloc (.cells Z 3) = W := ⟨_, rfl⟩
  have HK0 : Hid (Kx (fun b => b ≠ w.heap.size) w W) := hide (by rw [← hW]; exact (Kx.refl _ _).alloc _)
  rw [hW] at HA0 ⊢
  clear hW mk
  go_loopw [7] (fun iv wr => ∃ (t : Nat) (o : List Nat), t ≤ n + 1 ∧ iv = .int .i64 t ∧ o.length = n ∧ Hid (AR w.heap.size wr (up o)) ∧ Hid (Kx (fun b => b ≠ w.heap.size) w wr) ∧ Hid (Rk.rr E (n + 1) (List.replicate n 0) = Rk.rr E (n + 1 - t) o) ∧ Hid (∀ x, Rk.g o x ≤ t * E.length)) (fun iv _ => n + 1 - (intOf iv).toNat)
  case atStart => exact ⟨0, List.replicate n 0, Nat.zero_le _, rfl, List.length_replicate, hide (by rw [up_rep]; exact HA0.out), HK0, hide rfl, hide (fun x => by simp [Rk.g, List.getD_eq_getElem?_getD, List.getElem?_replicate]; split <;> simp)⟩
  case round =>
    obtain ⟨t, o, ht, rfl, hol, HA, HK, HQ, HBd⟩ := hrel
    by_cases htn : t ≤ n
    · have d1 : decide ((t : Int) ≤ (n : Int)) = true := by simp; omega
      go_wp2
      obtain ⟨wo, hwo⟩ : ∃ wo, wr = wo := ⟨_, rfl⟩
      subst wr
      have hbd := HBd.out
      have hmul : t * E.length ≤ 6000000 := Nat.le_trans (Nat.mul_le_mul (show t ≤ 300 by omega) hl) (by decide)
      go_loopw [8, 9] (fun mv iv wr => ∃ (i : Nat) (s : List Nat × Bool), i ≤ E.length ∧ mv = .bool s.2 ∧ iv = .int .i64 i ∧ s.1.length = n ∧ Hid (AR w.heap.size wr (up s.1)) ∧ Hid (Kx (fun b => b ≠ w.heap.size) w wr) ∧ Hid (Rk.rp E (o, false) = Rk.rp (E.drop i) s) ∧ Hid (∀ x, Rk.g s.1 x ≤ t * E.length + i)) (fun mv iv _ => E.length - (intOf iv).toNat)
      case atStart => exact ⟨0, (o, false), Nat.zero_le _, rfl, rfl, hol, HA, HK, hide rfl, hide (fun x => hbd x)⟩
      case round =>
        obtain ⟨i, s, hi, rfl, rfl, hsl, HA1, HK1, HQ1, HB1⟩ := hrel
        by_cases hlt : i < E.length
        · have d2 : decide ((i : Int) < (E.length : Int)) = true := by simp; omega
          obtain ⟨e, he⟩ : ∃ e, E[i]? = some e := ⟨_, List.getElem?_eq_getElem hlt⟩
          obtain ⟨g, off, rfl, q⟩ := HR.out (up2_ne hlt)
          have hgw := HLT.out (up2_ne hlt) g rfl
          have c0 := HK1.out.cell (q i _ (up2_get he)).1 (by show g ≠ w.heap.size; omega)
          have c1 := HK1.out.cell (q i _ (up2_get he)).2 (by show g ≠ w.heap.size; omega)
          have hE1 := HE.out e (List.mem_of_getElem? he)
          have a1 := HA1.out.cell _ _ (up_g (o := s.1) (v := e.1) (by omega))
          have a2 := HA1.out.cell _ _ (up_g (o := s.1) (v := e.2) (by omega))
          have b1 := HB1.out e.1
          have b2 := HB1.out e.2
          have f2 := HA1.out.thaw e.2
          have HQ2 : Hid (Rk.rp E (o, false) = Rk.rp (E.drop (i + 1)) (Rk.rp1 s e)) := hide (by rw [HQ1.out, drop_at he]; rfl)
          have hi0 : (0 : Int) ≤ (i : Int) := by omega
          have hi1 : (i : Int) < (E.length : Int) := by omega
          clear q he
          obtain ⟨ea, eb⟩ := e
          simp only at c0 c1 a1 a2 b1 b2 f2 hE1
          have p0 : (0 : Int) ≤ (ea : Int) := by omega
          have p1 : (ea : Int) < (n : Int) := by omega
          have p2 : (0 : Int) ≤ (eb : Int) := by omega
          have p3 : (eb : Int) < (n : Int) := by omega
          have hs1 : IntKind.i64.wrap ((Rk.g s.1 ea : Nat) + 1 : Int) = (Rk.g s.1 ea : Nat) + 1 := by rw [IntKind.wrap_i64]; omega
          by_cases hc : Rk.g s.1 eb < Rk.g s.1 ea + 1
          · have dc : ((Rk.g s.1 eb : Nat) : Int) < ((Rk.g s.1 ea : Nat) : Int) + 1 := by omega
            have e1 : Rk.rp1 s (ea, eb) = (s.1.set eb (Rk.g s.1 ea + 1), true) := by unfold Rk.rp1; rw [if_pos hc]
            have HA2 : Hid (∀ k, AR w.heap.size ((wr.drewN k).setCell ⟨w.heap.size, eb, none⟩ (.int .i64 ((Rk.g s.1 ea : Nat) + 1))) (up (s.1.set eb (Rk.g s.1 ea + 1)))) := hide fun k => by
              have := (HA1.out.keep (w' := wr.drewN k) rfl (Nat.le_refl _)).set (up_g (o := s.1) (v := eb) (by omega)) (((Rk.g s.1 ea + 1 : Nat)) : Int)
              rw [up_set] at this
              exact this
            have HK2 : Hid (∀ k, Kx (fun b => b ≠ w.heap.size) w ((wr.drewN k).setCell ⟨w.heap.size, eb, none⟩ (.int .i64 ((Rk.g s.1 ea : Nat) + 1)))) := hide fun k => (HK1.out.drewN k).set (.inr (fun e => e rfl)) _
            have HB2 : Hid (∀ x, Rk.g (s.1.set eb (Rk.g s.1 ea + 1)) x ≤ t * E.length + (i + 1)) := hide fun x => by
              rw [Rk.g_set _ _ _ _ (by omega)]
              have := HB1.out x
              split <;> omega
            rw [e1] at HQ2
            clear HA1 HK1 HB1 HQ1 e1 hc
            go_wp2
            go_quiet (fail)
            go_wp2
            go_quiet (fail)
            go_wp2
            go_roundw
            case rel => exact ⟨i + 1, (s.1.set eb (Rk.g s.1 ea + 1), true), by omega, rfl, by go_num, by simpa using hsl, hide (HA2.out _), hide (HK2.out _), HQ2, HB2⟩
            case measure => simp [intOf]; omega
          · have dc : decide (((Rk.g s.1 eb : Nat) : Int) < ((Rk.g s.1 ea : Nat) : Int) + 1) = false := by simp; omega
            have e1 : Rk.rp1 s (ea, eb) = s := by unfold Rk.rp1; rw [if_neg hc]
            have HA2 : Hid (∀ k, AR w.heap.size (wr.drewN k) (up s.1)) := hide fun k => HA1.out.keep rfl (Nat.le_refl _)
            have HK2 : Hid (∀ k, Kx (fun b => b ≠ w.heap.size) w (wr.drewN k)) := hide fun k => HK1.out.drewN k
            have HB2 : Hid (∀ x, Rk.g s.1 x ≤ t * E.length + (i + 1)) := hide fun x => Nat.le_trans (HB1.out x) (by omega)
            rw [e1] at HQ2
            clear HA1 HK1 HB1 HQ1 e1 hc
            go_wp2
            go_quiet (fail)
            go_wp2
            go_quiet (fail)
            go_wp2
            go_roundw
            case rel => exact ⟨i + 1, s, by omega, rfl, by go_num, hsl, hide (HA2.out _), hide (HK2.out _), HQ2, HB2⟩
            case measure => simp [intOf]; omega
        · obtain rfl : i = E.length := by omega
          have d2 : decide ((E.length : Int) < (E.length : Int)) = false := by simp
          have e1 : Rk.rp E (o, false) = s := by rw [HQ1.out, List.drop_length]; rfl
          have HB2 : Hid (∀ x, Rk.g s.1 x ≤ (t + 1) * E.length) := hide fun x => by rw [Nat.succ_mul]; exact HB1.out x
          have er : n + 1 - t = (n + 1 - (t + 1)) + 1 := by omega
          cases hs2 : s.2 with
          | true =>
            have HQ2 : Hid (Rk.rr E (n + 1) (List.replicate n 0) = Rk.rr E (n + 1 - (t + 1)) s.1) := hide (by
              rw [HQ.out, er]
              simp only [Rk.rr]
              rw [e1, if_pos hs2])
            clear HB1 HQ1 HQ e1 er
            go_wp2
            go_roundw
            case rel => exact ⟨t + 1, s.1, by omega, by go_num, hsl, HA1, HK1, HQ2, HB2⟩
            case measure => simp [intOf]; omega
          | false =>
            have HQ2 : Hid (Rk.rr E (n + 1) (List.replicate n 0) = some s.1) := hide (by
              rw [HQ.out, er]
              simp only [Rk.rr]
              rw [e1, if_neg (by rw [hs2]; simp)])
            clear HB1 HQ1 HQ e1 er
            go_wp2
            refine bodyPost_ret (v := .tuple #[.slice (some ⟨w.heap.size, 0, none⟩) n n, .bool true]) (by simp [results, Try.results11, go_sem]) rfl ?_
            unfold GRP
            rw [HQ2.out]
            exact ⟨⟨_, _, rfl, hsl, HA1.out.ir n n (by rw [up_len]; exact hsl)⟩, HK1.out.below_of (fun k hk => by show k ≠ w.heap.size; omega)⟩
    · have d1 : decide ((t : Int) ≤ (n : Int)) = false := by simp; omega
      obtain rfl : t = n + 1 := by omega
      rw [Nat.sub_self] at HQ
      go_wp2
      refine bodyPost_ret (v := .tuple #[.slice none 0 0, .bool false]) (by simp [results, Try.results11, go_sem]) rfl ?_
      unfold GRP
      rw [HQ.out]
      exact ⟨rfl, HK.out.below_of (fun k hk => by show k ≠ w.heap.size; omega)⟩
end Go.Proofs.Ytibhbbgpeckkfaa
