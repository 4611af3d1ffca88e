import Derived.Test.YtbepaimbbclejaaOnD
/- The law ChansOnce: the third loop: what each end is then. -/
namespace Go.Proofs.Ytbepaimbbclejaa
open Go.RowKit

def QRel (w0 : World) (m : Nat) (v : Value) (wr : World) : Prop := ∃ i : Nat, i ≤ m ∧ v = .int .i64 i ∧ Hid (Below w0.heap.size w0 wr)
def QI (w0 : World) (ae : Option Addr) (m ce : Nat) (ac : Option Addr) (k cc : Nat) (a : Act) (wr : World) : Prop := ∃ u : Nat → Value, QRel w0 m (u 13) wr ∧ a = oframe3 ae m ce ac k cc u
def Qmu (m : Nat) (a : Act) (_ : World) : Nat := m - (intOf (a.tmps.getD 13 undef)).toNat
theorem qi_mk {w0 : World} {ae : Option Addr} {m ce : Nat} {ac : Option Addr} {k cc : Nat} (a : Act) (wr : World) (ha : a = oframe3 ae m ce ac k cc (fun k => a.tmps.getD k undef)) (hrel : QRel w0 m (a.tmps.getD 13 undef) wr) : QI w0 ae m ce ac k cc a wr := ⟨_, hrel, ha⟩
set_option maxRecDepth 100000
set_option maxHeartbeats 4000000
theorem o_round3 (w0 wr : World) (u : Nat → Value) (i ge m ce gc oc k cc c : Nat) (P0 : List PanicEntry → Act → World → Prop) (Q1 : Exit → Act → World → Prop) (hlt : i < m) (hm : m ≤ 1000000) (hc : c < k) (hu : u 13 = .int .i64 i) (xs : Bool) (xh xd sd : Int) (gg : Bool)
    (X0 : Hid (w0.cell? ⟨ge, i * 4, none⟩ = some (.int .i64 c))) (X1 : Hid (w0.cell? ⟨ge, i * 4 + 1, none⟩ = some (.bool xs))) (X2 : Hid (w0.cell? ⟨ge, i * 4 + 2, none⟩ = some (.int .i64 xh))) (X3 : Hid (w0.cell? ⟨ge, i * 4 + 3, none⟩ = some (.int .i64 xd)))
    (C1 : Hid (w0.cell? ⟨gc, oc + c * 4 + 1, none⟩ = some (.int .i64 sd))) (C2 : Hid (w0.cell? ⟨gc, oc + c * 4 + 2, none⟩ = some (.bool gg)))
    (hf : (xh = -1 ∧ xd = 0) ∨ (xh = -2 ∧ xd = 1)) (h1 : xs = true → xh = -1 → (sd == 0) = false) (h2 : xs = false → gg = (xh == -2)) (HB : Hid (Below w0.heap.size w0 wr)) :
    Code.wp Try.prog (obody 2) (Exit.then (fun a' w'' => QI w0 (some ⟨ge, 0, none⟩) m ce (some ⟨gc, oc, none⟩) k cc a' w'' ∧ Qmu m a' w'' < Qmu m (oframe3 (some ⟨ge, 0, none⟩) m ce (some ⟨gc, oc, none⟩) k cc u) wr) (qmix P0 Q1)) (oframe3 (some ⟨ge, 0, none⟩) m ce (some ⟨gc, oc, none⟩) k cc u) wr := by
  have d1 : decide ((i : Int) < (m : Int)) = true := by simp; omega
  have i0 : (0 : Int) ≤ (i : Int) := by omega
  have i1 : (i : Int) < (m : Int) := by omega
  have k0 : (0 : Int) ≤ (c : Int) := by omega
  have k1 : (c : Int) < (k : Int) := by omega
  have x0 := bsome HB.out X0.out
  have x1 := bsome HB.out X1.out
  have x2 := bsome HB.out X2.out
  have x3 := bsome HB.out X3.out
  have c1 := bsome HB.out C1.out
  have c2 := bsome HB.out C2.out
  have hg : gc < wr.heap.size := World.block_lt_of_cell? _ _ c1
  have hgn : ¬ gc = wr.heap.size := by omega
  have HBF : Hid (∀ n, Below w0.heap.size w0 ((wr.alloc (.cells #[.int .i64 c, .bool xs, .int .i64 xh, .int .i64 xd] 48)).drewN n)) := hide (fun n => below_drewN (HB.out.alloc HB.out.size _) n)
  clear X0 X1 X2 X3 C1 C2 HB
  conv => arg 2; whnf
  unfold oframe3
  rcases hf with ⟨rfl, rfl⟩ | ⟨rfl, rfl⟩
  · cases xs with
    | true =>
      have h1 := h1 rfl rfl
      clear h2
      go_wp2
      go_quiet (fail)
      go_wp2
      refine ⟨qi_mk _ _ rfl ⟨i + 1, by omega, by show _ = _; go_num, hide (HBF.out _)⟩, ?_⟩
      simp [Qmu, intOf, hu]
      omega
    | false =>
      obtain rfl : gg = false := by rw [h2 rfl]; decide
      clear h1 h2
      obtain ⟨b, hb⟩ : ∃ b, (sd == 0) = b := ⟨_, rfl⟩
      cases b
      all_goals
        go_wp2
        go_quiet (fail)
        go_wp2
        refine ⟨qi_mk _ _ rfl ⟨i + 1, by omega, by show _ = _; go_num, hide (HBF.out _)⟩, ?_⟩
        simp [Qmu, intOf, hu]
        omega
  · cases xs with
    | true =>
      clear h1 h2
      go_wp2
      go_quiet (fail)
      go_wp2
      refine ⟨qi_mk _ _ rfl ⟨i + 1, by omega, by show _ = _; go_num, hide (HBF.out _)⟩, ?_⟩
      simp [Qmu, intOf, hu]
      omega
    | false =>
      obtain rfl : gg = true := by rw [h2 rfl]; decide
      clear h1 h2
      go_wp2
      go_quiet (fail)
      go_wp2
      refine ⟨qi_mk _ _ rfl ⟨i + 1, by omega, by show _ = _; go_num, hide (HBF.out _)⟩, ?_⟩
      simp [Qmu, intOf, hu]
      omega
theorem o_loop3 (w0 w : World) (a : Act) (ae : Option Addr) (ce : Nat) (ac : Option Addr) (cc n : Nat) (s : Cst) (hon : On s []) (hwf : Wf n s) (hsw : Sw s.e.length s) (hE : EnR w0 (.slice ae s.e.length ce) s.e) (hC : CvR w0 (.slice ac s.s.length cc) (Bk.cvs s.e s.s s.i s.g)) (P0 : List PanicEntry → Act → World → Prop) (Q1 : Exit → Act → World → Prop)
    (hexit : ∀ (a' : Act) w', a' = oframe3 ae s.e.length ce ac s.s.length cc (fun k => a'.tmps.getD k undef) → Hid (Below w0.heap.size w0 w') → Q1 (.exit 4) a' w') (ha : a = oframe3 ae s.e.length ce ac s.s.length cc (fun k => a.tmps.getD k undef)) (hrel : QRel w0 s.e.length (a.tmps.getD 13 undef) w) :
    Code.wp Try.prog (Code.loop (obody 2)) (qmix P0 Q1) a w := by
  refine wp_loop (c := obody 2) (QI w0 ae s.e.length ce ac s.s.length cc) (Qmu s.e.length) (qi_mk a w ha hrel) (fun a' w' hI => ?_)
  obtain ⟨u, ⟨i, hi, hu, HB⟩, rfl⟩ := hI
  by_cases hlt : i < s.e.length
  · obtain ⟨x, hx⟩ : ∃ x, s.e[i]? = some x := ⟨_, List.getElem?_eq_getElem hlt⟩
    obtain ⟨a1, c1, e1, h1⟩ := hE
    obtain ⟨rfl, rfl⟩ : ae = a1 ∧ ce = c1 := by simpa using e1
    obtain ⟨ge, rfl, q1⟩ := h1 (fun e => by rw [e] at hlt; simp at hlt)
    obtain ⟨x0, x1, x2, x3⟩ := q1 i _ hx
    obtain ⟨c, hc, hcl, f1, f2⟩ := hon.finE hwf hx
    obtain ⟨a2, c2, e2, h2⟩ := hC
    rw [Bk.cvs_len] at e2
    obtain ⟨rfl, rfl⟩ : ac = a2 ∧ cc = c2 := by simpa using e2
    obtain ⟨gc, oc, rfl, q2⟩ := h2 (fun e => by have := Bk.cvs_len s.e s.s s.i s.g; rw [e] at this; simp at this; omega)
    obtain ⟨-, y1, y2, -⟩ := q2 c _ (Bk.cvs_at hcl)
    have hfin := hsw i x hlt hx
    refine o_round3 w0 w' u i ge _ ce gc oc _ cc c P0 Q1 hlt (by have := hwf.o.le; omega) hcl hu x.s x.h x.d _ _ (hide (by rw [← hc]; exact x0)) (hide x1) (hide x2) (hide x3) (hide y1) (hide y2) ?_ (fun g1 g2 => f1 g1 (by omega)) f2 HB
    rcases hon.d x (List.mem_of_getElem? hx) with ⟨g1, g2⟩ | ⟨g1, g2⟩
    · exact .inl ⟨by omega, g1⟩
    · exact .inr ⟨g2, g1⟩
  · obtain rfl : i = s.e.length := by omega
    have d1 : decide ((s.e.length : Int) < (s.e.length : Int)) = false := by simp
    have HX := hide hexit
    clear hexit hE hC
    conv => arg 2; whnf
    unfold oframe3
    go_wp2
    refine HX.out _ _ ?_ HB
    rfl
end Go.Proofs.Ytbepaimbbclejaa
