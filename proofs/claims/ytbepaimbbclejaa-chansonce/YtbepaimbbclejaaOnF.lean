import Derived.Test.YtbepaimbbclejaaOnE
/- The law ChansOnce: the second loop: the sweep. -/
namespace Go.Proofs.Ytbepaimbbclejaa
open Go.RowKit

theorem OS.drop {w1 X : World} {q n : Nat} {s : Cst} (h : OS w1 X q n s) (hn : n ≤ 1000) {j : Nat} {x : En} (hx : s.e[j]? = some x) (hh : 0 ≤ x.h) :
    Calls Try.prog 16 #[.pointer (some ⟨q, 0, none⟩), .int .i64 j] X fun r w' => r = .returned (.bool true) ∧ OS w1 w' q n (Bk.dp s (j : Int)) := by
  obtain ⟨F, h1, h2, h3, h4⟩ := h
  have hat := Ld.nat_at hx
  obtain ⟨g1, g2⟩ := h3.dp (j := (j : Int)) hat.2 (by rw [hat.1]; exact hh)
  refine (h1.dp h2 hn j).mono ?_
  rintro r w' ⟨rfl, hu⟩
  obtain ⟨F', a1, a2, a3⟩ := US.get hu h4.size h4 (fun b hb => (h1.lt b hb).1)
  exact ⟨by rw [g2], F', a1, h2.dp _, g1, a2⟩
theorem Bk.dp_len (s : Cst) (e : Int) : (Bk.dp s e).e.length = s.e.length := (Bk.drop_rl _ ⟨s.e, s.i, s.g⟩ e).le
def PRel (w1 : World) (m q n : Nat) (v : Value) (wr : World) : Prop := ∃ (i : Nat) (s : Cst), i ≤ m ∧ v = .int .i64 i ∧ Hid (OS w1 wr q n s) ∧ Hid (s.e.length = m) ∧ Hid (Sw i s)
def PI (w1 : World) (q n : Nat) (ae : Option Addr) (m ce : Nat) (a : Act) (wr : World) : Prop := ∃ u : Nat → Value, PRel w1 m q n (u 9) wr ∧ a = oframe2 q ae m ce u
def Pmu (m : Nat) (a : Act) (_ : World) : Nat := m - (intOf (a.tmps.getD 9 undef)).toNat
theorem pi_mk {w1 : World} {q n : Nat} {ae : Option Addr} {m ce : Nat} (a : Act) (wr : World) (ha : a = oframe2 q ae m ce (fun k => a.tmps.getD k undef)) (hrel : PRel w1 m q n (a.tmps.getD 9 undef) wr) : PI w1 q n ae m ce a wr := ⟨_, hrel, ha⟩
set_option maxRecDepth 100000
set_option maxHeartbeats 4000000
theorem o_round2 (w1 wr : World) (u : Nat → Value) (q n i : Nat) (ae : Option Addr) (m ce : Nat) (s : Cst) (P0 : List PanicEntry → Act → World → Prop) (Q1 : Exit → Act → World → Prop) (hlt : i < m) (hn : n ≤ 1000) (hm : m ≤ 100000) (hu : u 9 = .int .i64 i)
    (HO : Hid (OS w1 wr q n s)) (HL : Hid (s.e.length = m)) (HS : Hid (Sw i s)) :
    Code.wp Try.prog (obody 1) (Exit.then (fun a' w'' => PI w1 q n ae m ce a' w'' ∧ Pmu m a' w'' < Pmu m (oframe2 q ae m ce u) wr) (qmix P0 Q1)) (oframe2 q ae m ce u) wr := by
  have d1 : decide ((i : Int) < (m : Int)) = true := by simp; omega
  have i0 : (0 : Int) ≤ (i : Int) := by omega
  have i1 : (i : Int) < (m : Int) := by omega
  obtain ⟨x, hx⟩ : ∃ x, s.e[i]? = some x := ⟨_, List.getElem?_eq_getElem (by rw [HL.out]; exact hlt)⟩
  have hat := Ld.nat_at hx
  obtain ⟨pl, ve, yq, hlg⟩ := HO.out.led
  have HE := hide (end_any hlg i)
  rw [hat.1, hat.2] at HE
  have CD : Hid (∀ X, Below wr.heap.size wr X → 0 ≤ x.h → Calls Try.prog 16 #[.pointer (some ⟨q, 0, none⟩), .int .i64 i] X fun r w' => r = .returned (.bool true) ∧ OS w1 w' q n (Bk.dp s (i : Int))) := hide (fun X hX hh => (HO.out.keep hX).drop hn hx hh)
  have HX := hide hx
  have HK : Hid (∀ X, Below wr.heap.size wr X → OS w1 X q n s) := hide (fun X hX => HO.out.keep hX)
  clear hat hlg hx HO
  obtain ⟨xc, xs, xh, xd⟩ := x
  simp only at HE CD
  conv => arg 2; whnf
  unfold oframe2
  go_wp2_with fail
  refine HE.out.mono ?_
  rintro e w2 ⟨rfl, hb2⟩
  have HB := hide (hb2.alloc hb2.size (.cells #[.int .i64 xc, .bool xs, .int .i64 xh, .int .i64 xd] 48))
  clear hb2 HE yq
  by_cases hh : 0 ≤ xh
  · have dh : decide (0 ≤ xh) = true := decide_eq_true hh
    go_wp2_with fail
    refine (CD.out _ HB.out hh).mono ?_
    rintro e w3 ⟨rfl, ho⟩
    have HO3 := hide ho
    have HL3 := hide ((Bk.dp_len s (i : Int)).trans HL.out)
    have HS3 := hide HS.out.drop
    clear ho CD HK HL HS HX
    go_wp2
    refine ⟨pi_mk _ _ rfl ⟨i + 1, _, by omega, by show _ = _; go_num, HO3, HL3, HS3⟩, ?_⟩
    simp [Pmu, intOf, hu]
    omega
  · have dh : decide (0 ≤ xh) = false := decide_eq_false hh
    have HO3 := hide (HK.out _ HB.out)
    have HS3 := hide (HS.out.skip HX.out (by simp only; omega))
    clear CD HK HS HX
    go_wp2
    refine ⟨pi_mk _ _ rfl ⟨i + 1, _, by omega, by show _ = _; go_num, HO3, HL, HS3⟩, ?_⟩
    simp [Pmu, intOf, hu]
    omega
theorem o_loop2 (w1 w : World) (a : Act) (q n : Nat) (ae : Option Addr) (m ce : Nat) (hn : n ≤ 1000) (hm : m ≤ 100000) (P0 : List PanicEntry → Act → World → Prop) (Q1 : Exit → Act → World → Prop)
    (hexit : ∀ (a' : Act) w', a' = oframe2 q ae m ce (fun k => a'.tmps.getD k undef) → (∃ s, Hid (OS w1 w' q n s) ∧ Hid (s.e.length = m) ∧ Hid (Sw m s)) → Q1 (.exit 2) a' w') (ha : a = oframe2 q ae m ce (fun k => a.tmps.getD k undef)) (hrel : PRel w1 m q n (a.tmps.getD 9 undef) w) :
    Code.wp Try.prog (Code.loop (obody 1)) (qmix P0 Q1) a w := by
  refine wp_loop (c := obody 1) (PI w1 q n ae m ce) (Pmu m) (pi_mk a w ha hrel) (fun a' w' hI => ?_)
  obtain ⟨u, ⟨i, s, hi, hu, HO, HL, HS⟩, rfl⟩ := hI
  by_cases hlt : i < m
  · exact o_round2 w1 w' u q n i ae m ce s P0 Q1 hlt hn hm hu HO HL HS
  · obtain rfl : i = m := by omega
    have d1 : decide ((i : Int) < (i : Int)) = false := by simp
    have HX := hide hexit
    clear hexit
    conv => arg 2; whnf
    unfold oframe2
    go_wp2
    refine HX.out _ _ ?_ ⟨s, HO, HL, HS⟩
    rfl
end Go.Proofs.Ytbepaimbbclejaa
