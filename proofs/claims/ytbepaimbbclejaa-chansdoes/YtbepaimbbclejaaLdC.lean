import Derived.Test.YtbepaimbbclejaaLdB
import Derived.Deep.RegionLaw
/- Package ledger: what changes it. -/
namespace Go.Proofs.Ytbepaimbbclejaa
open Go.RowKit

/-- A ledger was changed: what else there was is as it was, its row is its own or new. -/
structure LC (w w' : World) (p : Nat) (v v' : Value) : Prop where
  k : Kx (fun b => b ≠ p ∧ some b ≠ v.ownBlock) w w'
  n : v'.ownBlock = v.ownBlock ∨ ∃ b, v'.ownBlock = some b ∧ w.heap.size ≤ b
theorem LC.of_below {w w' : World} (h : Below w.heap.size w w') (p : Nat) (v : Value) : LC w w' p v v := ⟨Kx.of_below h, .inl rfl⟩
theorem cell4new (w : World) (u0 u1 u2 u3 : Value) (t : TypeId) : ∀ (j : Nat) u, [u0, u1, u2, u3][j]? = some u → (w.alloc (.cells #[u0, u1, u2, u3] t)).cell? ((⟨w.heap.size, 0, none⟩ : Addr).add j) = some u := by
  intro j u hu
  match j, hu with
  | 0, hu => simp at hu; subst hu; simp [go_sem, Addr.add]
  | 1, hu => simp at hu; subst hu; simp [go_sem, Addr.add]
  | 2, hu => simp at hu; subst hu; simp [go_sem, Addr.add]
  | 3, hu => simp at hu; subst hu; simp [go_sem, Addr.add]
def Ld.born (L : List En) (c : Int) (s : Bool) (h : Int) : List En := if -1 ≤ h then L ++ [⟨c, s, h, 0⟩] else L
set_option maxRecDepth 100000
set_option maxHeartbeats 1000000
theorem born_any {B : Nat} {w : World} {p : Nat} {v : Value} {L : List En} (h : LG B w p v L) (c : Int) (s : Bool) (hm : Int) (hl : L.length ≤ 1000000) :
    Calls Try.prog 40 #[.pointer (some ⟨p, 0, none⟩), .int .i64 c, .bool s, .int .i64 hm] w fun r w' => r = .returned (.int .i64 (if -1 ≤ hm then (L.length : Int) else -1)) ∧ ∃ v', LG B w' p v' (Ld.born L c s hm) ∧ LC w w' p v v' := by
  have HI := hide (isHome_any hm)
  unfold Ld.born
  by_cases h1 : -1 ≤ hm
  · rw [if_pos h1, if_pos h1]
    rw [decide_eq_true h1] at HI
    clear h1
    obtain ⟨i0, hi, hz0, hz1, hz2⟩ := info_parts Try.infoEn
    obtain ⟨a, cp, rfl⟩ := h.form
    have HL := hide h
    have hc := h.c
    have ht := h.t 0
    have hp := h.plt
    have hlo := h.lo
    have hne := h.ne
    clear h
    go_enter Try.func40, Try.ntmps40
    go_wp2_with fail
    refine (HI.out _).mono ?_
    rintro e w1 ⟨rfl, rfl⟩
    go_wp2_with (at_builtin; refine wpList_append_lies _ rfl _ _ 27 rfl B 48 i0 (.agg #[.int .i64 0, .bool false, .int .i64 0, .int .i64 0]) 4 32 Try.underlying27 hi hz0 hz1 hz2 rfl (by decide) _ _ _ rfl (by exact HL.out.o.alloc _) ⟨w1.heap.size, 0, none⟩ 1 1 [.int .i64 c, .bool s, .int .i64 hm, .int .i64 0] rfl rfl (cell4new w1 _ _ _ _ _) (by intro u hu; simp at hu; rcases hu with rfl | rfl | rfl | rfl <;> rfl) (by decide) (by unfold maxLen; omega) (by omega) (by simp; omega) _ rfl ?_)
    intro gq cap w7 hown hgrow hat hlt7
    have HX : Hid (Kx (fun b => some b ≠ (Value.slice a L.length cp).ownBlock) w1 w7) := hide (((Kx.refl _ w1).alloc _).grown hgrow (fun k hk => .inr (fun e => e hk.symm)))
    have HV : Hid ((Value.slice (some ⟨gq, 0, none⟩) (L.length + 1) cap).ownBlock = (Value.slice a L.length cp).ownBlock ∨ ∃ b, (Value.slice (some ⟨gq, 0, none⟩) (L.length + 1) cap).ownBlock = some b ∧ w1.heap.size ≤ b) := hide (hat.imp (fun e => e.symm) (fun e => ⟨gq, rfl, by rw [e]; simp⟩))
    have HF := hide (HL.out.push (x := ⟨c, s, hm, 0⟩) hown HX.out HV.out)
    have c7 : w7.cell? ⟨p, 0, none⟩ = some (.slice a L.length cp) := HX.out.cell hc (fun e => hne e.symm)
    have t7 : w7.frozen? ⟨p, 0, none⟩ = false := (HX.out.frozen (p := ⟨p, 0, none⟩) hp (fun e => hne e.symm)).trans ht
    clear hown hgrow hat hlt7
    go_wp2
    go_ret
    refine ⟨?_, _, HF.out, ⟨(HX.out.mono (fun b _ hb => hb.2)).set (p := ⟨p, 0, none⟩) (.inr (fun e => e.1 rfl)) _, HV.out⟩⟩
    go_num
  · rw [if_neg h1, if_neg h1]
    rw [decide_eq_false h1] at HI
    clear h1
    go_enter Try.func40, Try.ntmps40
    go_wp2_with fail
    refine (HI.out _).mono ?_
    rintro e w1 ⟨rfl, rfl⟩
    go_wp2
    go_ret
    exact ⟨rfl, v, h, LC.of_below (Below.refl _ _) p v⟩
def Ld.may (L : List En) (e h : Int) : Bool := Ld.has L e && (decide (-1 ≤ h) && !((Ld.at L e).h == -2))
def Ld.move (L : List En) (e h : Int) : List En := if Ld.may L e h then L.set e.toNat { Ld.at L e with h := h } else L
theorem move_any {B : Nat} {w : World} {p : Nat} {v : Value} {L : List En} (h : LG B w p v L) (e hm : Int) :
    Calls Try.prog 44 #[.pointer (some ⟨p, 0, none⟩), .int .i64 e, .int .i64 hm] w fun r w' => r = .returned (.bool (Ld.may L e hm)) ∧ LG B w' p v (Ld.move L e hm) ∧ LC w w' p v v := by
  have HH := hide (has_any h e)
  have HI := hide (isHome_any hm)
  have hp := h.plt
  have HL := hide h
  unfold Ld.move
  rcases Ld.cs L e with ⟨k, x, rfl, hx, hk, h1, h2⟩ | ⟨h1, h2, -⟩
  · rw [h1] at HH
    by_cases h3 : -1 ≤ hm
    · rw [decide_eq_true h3] at HI
      obtain ⟨g, c, rfl, hgp, c1, c2, c3, c4, hf⟩ := h.at hx
      have hc := h.c
      have HL := hide h
      have HD := hide (dropped_any x)
      have HX := hide hx
      have k0 : (0 : Int) ≤ (k : Int) := by omega
      have k1 : (k : Int) < (L.length : Int) := by omega
      have hf2 := hf (k * 4 + 2)
      have hg := World.block_lt_of_cell? _ _ c1
      clear hf h hx
      by_cases h4 : x.h = -2
      · have e1 : Ld.may L (k : Int) hm = false := by unfold Ld.may; rw [h2, h4]; simp
        rw [e1]
        rw [show (x.h == -2) = true by rw [h4]; rfl] at HD
        clear h4
        go_enter Try.func44, Try.ntmps44
        go_wp2_with fail
        refine HH.out.mono ?_
        rintro e w1 ⟨rfl, rfl⟩
        go_wp2_with fail
        refine (HI.out _).mono ?_
        rintro e w2 ⟨rfl, rfl⟩
        go_wp2_with fail
        refine (HD.out _).mono ?_
        rintro e w3 ⟨rfl, hb⟩
        go_wp2
        go_ret
        exact ⟨rfl, HL.out.keep hb, LC.of_below hb _ _⟩
      · have e1 : Ld.may L (k : Int) hm = true := by unfold Ld.may; rw [h1, h2, decide_eq_true h3, beq_eq_false_iff_ne.2 h4]; rfl
        rw [e1, h2]
        rw [beq_eq_false_iff_ne.2 h4] at HD
        go_enter Try.func44, Try.ntmps44
        go_wp2_with fail
        refine HH.out.mono ?_
        rintro e w1 ⟨rfl, rfl⟩
        go_wp2_with fail
        refine (HI.out _).mono ?_
        rintro e w2 ⟨rfl, rfl⟩
        go_wp2_with fail
        refine (HD.out _).mono ?_
        rintro e w3 ⟨rfl, hb⟩
        have HB := hide hb
        have HL3 := hide (HL.out.keep hb)
        have hc := bsome hb hc
        have c3 := bsome hb c3
        have hf2 : w3.frozen? ⟨g, k * 4 + 2, none⟩ = false := (hb.frozen (p := ⟨g, k * 4 + 2, none⟩) hg).trans hf2
        clear hb
        go_wp2
        go_ret
        exact ⟨rfl, HL3.out.seth HX.out hm, ⟨(Kx.of_below HB.out).set (p := ⟨g, k * 4 + 2, none⟩) (.inr (fun e => e.2 rfl)) _, .inl rfl⟩⟩
    · have e1 : Ld.may L (k : Int) hm = false := by unfold Ld.may; rw [decide_eq_false h3]; simp
      rw [e1]
      rw [decide_eq_false h3] at HI
      clear h3
      go_enter Try.func44, Try.ntmps44
      go_wp2_with fail
      refine HH.out.mono ?_
      rintro e w1 ⟨rfl, rfl⟩
      go_wp2_with fail
      refine (HI.out _).mono ?_
      rintro e w2 ⟨rfl, rfl⟩
      go_wp2
      go_ret
      exact ⟨rfl, HL.out, LC.of_below (Below.refl _ _) _ _⟩
  · have e1 : Ld.may L e hm = false := by unfold Ld.may; rw [h1]; rfl
    rw [e1]
    rw [h1] at HH
    go_enter Try.func44, Try.ntmps44
    go_wp2_with fail
    refine HH.out.mono ?_
    rintro e w1 ⟨rfl, rfl⟩
    go_wp2
    go_ret
    exact ⟨rfl, HL.out, LC.of_below (Below.refl _ _) _ _⟩
def Ld.gone (L : List En) (e : Int) : List En := if Ld.has L e then L.set e.toNat { Ld.at L e with h := -2, d := (Ld.at L e).d + 1 } else L
theorem gone_any {B : Nat} {w : World} {p : Nat} {v : Value} {L : List En} (h : LG B w p v L) (e : Int) (hd : ∀ x ∈ L, 0 ≤ x.d ∧ x.d ≤ 1000000) :
    Calls Try.prog 58 #[.pointer (some ⟨p, 0, none⟩), .int .i64 e] w fun r w' => r = .returned (.bool (Ld.has L e && !((Ld.at L e).h == -2))) ∧ LG B w' p v (Ld.gone L e) ∧ LC w w' p v v := by
  have HH := hide (has_any h e)
  have hp := h.plt
  have HL := hide h
  unfold Ld.gone
  rcases Ld.cs L e with ⟨k, x, rfl, hx, hk, h1, h2⟩ | ⟨h1, h2, -⟩
  · rw [h1] at HH
    rw [h1, h2]
    obtain ⟨g, c, rfl, hgp, c1, c2, c3, c4, hf⟩ := h.at hx
    have hc := h.c
    have HL := hide h
    have HD := hide (dropped_any x)
    have HX := hide hx
    obtain ⟨hd0, hd1⟩ := hd x (List.mem_of_getElem? hx)
    have k0 : (0 : Int) ≤ (k : Int) := by omega
    have k1 : (k : Int) < (L.length : Int) := by omega
    have hf2 := hf (k * 4 + 2)
    have hf3 := hf (k * 4 + 3)
    have hg := World.block_lt_of_cell? _ _ c1
    clear hf h hx hd
    generalize (x.h == -2) = db at *
    go_enter Try.func58, Try.ntmps58
    go_wp2_with fail
    refine HH.out.mono ?_
    rintro e w1 ⟨rfl, rfl⟩
    go_wp2_with fail
    refine (HD.out _).mono ?_
    rintro e w3 ⟨rfl, hb⟩
    have HB := hide hb
    have HL3 := hide (HL.out.keep hb)
    have hc := bsome hb hc
    have c3 := bsome hb c3
    have c4 := bsome hb c4
    have hf2 : w3.frozen? ⟨g, k * 4 + 2, none⟩ = false := (hb.frozen (p := ⟨g, k * 4 + 2, none⟩) hg).trans hf2
    have hf3 : w3.frozen? ⟨g, k * 4 + 3, none⟩ = false := (hb.frozen (p := ⟨g, k * 4 + 3, none⟩) hg).trans hf3
    clear hb
    go_wp2
    go_ret
    have hkl : k < L.length := by omega
    have HF := (HL3.out.seth HX.out (-2))
    have HF2 := LG.setd (k := k) (x := { x with h := -2 }) (L := L.set k { x with h := -2 }) (by rw [List.length_set]; exact HF) (List.getElem?_set_self hkl) (x.d + 1)
    rw [List.set_set, List.length_set] at HF2
    exact ⟨rfl, HF2, ⟨((Kx.of_below HB.out).set (p := ⟨g, k * 4 + 2, none⟩) (.inr (fun e => e.2 rfl)) _).set (p := ⟨g, k * 4 + 3, none⟩) (.inr (fun e => e.2 rfl)) _, .inl rfl⟩⟩
  · rw [h1] at HH
    rw [h1]
    go_enter Try.func58, Try.ntmps58
    go_wp2_with fail
    refine HH.out.mono ?_
    rintro e w1 ⟨rfl, rfl⟩
    go_wp2
    go_ret
    exact ⟨rfl, HL.out, LC.of_below (Below.refl _ _) _ _⟩
end Go.Proofs.Ytbepaimbbclejaa
