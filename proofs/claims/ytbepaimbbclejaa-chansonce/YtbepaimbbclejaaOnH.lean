import Derived.Test.YtbepaimbbclejaaOnD
/- The law ChansOnce: the last loop: what each channel is then. -/
namespace Go.Proofs.Ytbepaimbbclejaa
open Go.RowKit

def TRel (w0 : World) (k : Nat) (v : Value) (wr : World) : Prop := ∃ i : Nat, i ≤ k ∧ v = .int .i64 i ∧ Hid (Below w0.heap.size w0 wr)
def TI (w0 : World) (ae : Option Addr) (m ce : Nat) (ac : Option Addr) (k cc : Nat) (a : Act) (wr : World) : Prop := ∃ u : Nat → Value, TRel w0 k (u 15) wr ∧ a = oframe3 ae m ce ac k cc u
def Tmu (k : Nat) (a : Act) (_ : World) : Nat := k - (intOf (a.tmps.getD 15 undef)).toNat
theorem ti_mk {w0 : World} {ae : Option Addr} {m ce : Nat} {ac : Option Addr} {k cc : Nat} (a : Act) (wr : World) (ha : a = oframe3 ae m ce ac k cc (fun k => a.tmps.getD k undef)) (hrel : TRel w0 k (a.tmps.getD 15 undef) wr) : TI w0 ae m ce ac k cc a wr := ⟨_, hrel, ha⟩
set_option maxRecDepth 100000
set_option maxHeartbeats 4000000
theorem o_round4 (w0 wr : World) (u : Nat → Value) (i ce gc oc k cc : Nat) (E : List En) (ae : Option Addr) (P0 : List PanicEntry → Act → World → Prop) (Q1 : Exit → Act → World → Prop) (hlt : i < k) (hm : E.length ≤ 1000000) (hk : k ≤ 1000000) (hu : u 15 = .int .i64 i) (sl : Int) (gg : Bool) (I : List (Int × Int)) (iv : Value)
    (hE : Hid (EnR w0 (.slice ae E.length ce) E)) (C0 : Hid (w0.cell? ⟨gc, oc + i * 4, none⟩ = some (.int .i64 sl))) (C1 : Hid (w0.cell? ⟨gc, oc + i * 4 + 1, none⟩ = some (.int .i64 (Bk.send E (i : Int) : Int)))) (C2 : Hid (w0.cell? ⟨gc, oc + i * 4 + 2, none⟩ = some (.bool gg))) (C3 : Hid (w0.cell? ⟨gc, oc + i * 4 + 3, none⟩ = some iv)) (hI : Hid (ItR w0 iv I))
    (h1 : gg = true → I = []) (h2 : 0 < sl → (I.length : Int) ≤ sl) (hIl : I.length ≤ 1000000) (HB : Hid (Below w0.heap.size w0 wr)) :
    Code.wp Try.prog (obody 3) (Exit.then (fun a' w'' => TI w0 ae E.length ce (some ⟨gc, oc, none⟩) k cc a' w'' ∧ Tmu k a' w'' < Tmu k (oframe3 ae E.length ce (some ⟨gc, oc, none⟩) k cc u) wr) (qmix P0 Q1)) (oframe3 ae E.length ce (some ⟨gc, oc, none⟩) k cc u) wr := by
  have d1 : decide ((i : Int) < (k : Int)) = true := by simp; omega
  have i0 : (0 : Int) ≤ (i : Int) := by omega
  have i1 : (i : Int) < (k : Int) := by omega
  obtain ⟨ai, ci, rfl, -⟩ := hI.out
  have c0 := bsome HB.out C0.out
  have c1 := bsome HB.out C1.out
  have c2 := bsome HB.out C2.out
  have c3 := bsome HB.out C3.out
  obtain ⟨il, hil⟩ : ∃ il, I.length = il := ⟨_, rfl⟩
  have hg : gg = true → il = 0 := fun e => by rw [← hil, h1 e]; rfl
  rw [hil] at h2 hIl c3
  generalize hSn : Bk.send E (i : Int) = sn at c1
  have HSn := hide hSn
  have hsn : sn ≤ 1000000 := by rw [← hSn]; exact Nat.le_trans (Bk.send_le _ _) hm
  clear hSn C0 C1 C2 C3 h1 hI hil
  conv => arg 2; whnf
  unfold oframe3
  go_upto_region 35 with fail
  go_cut [202] from 167 to 202 (fun v wx => v = .bool false ∧ ∃ n, wx = wr.drewN n)
  case first =>
    cases gg with
    | true =>
      obtain rfl := hg rfl
      clear hg
      by_cases hs : 0 < sl
      · have e2 : decide ((0 : Int) < sl) = true := decide_eq_true hs
        have e3 : decide (sl < (0 : Int)) = false := decide_eq_false (by omega)
        clear h2
        go_wp2
        go_quiet (fail)
        go_wp2
        go_meet
        case rel => exact ⟨rfl, _, rfl⟩
      · have e2 : decide ((0 : Int) < sl) = false := decide_eq_false hs
        clear h2
        go_wp2
        go_quiet (fail)
        go_wp2
        go_meet
        case rel => exact ⟨rfl, _, rfl⟩
    | false =>
      clear hg
      by_cases hs : 0 < sl
      · have e2 : decide ((0 : Int) < sl) = true := decide_eq_true hs
        have e3 : decide (sl < (il : Int)) = false := decide_eq_false (by have := h2 hs; omega)
        clear h2
        go_wp2
        go_quiet (fail)
        go_wp2
        go_meet
        case rel => exact ⟨rfl, _, rfl⟩
      · have e2 : decide ((0 : Int) < sl) = false := decide_eq_false hs
        clear h2
        go_wp2
        go_quiet (fail)
        go_wp2
        go_meet
        case rel => exact ⟨rfl, _, rfl⟩
  case rest =>
    obtain ⟨rfl, n, hwc⟩ := hcut
    have HBc : Hid (Below w0.heap.size w0 wc) := hide (by rw [hwc]; exact below_drewN HB.out n)
    have c1 := bsome (by rw [hwc]; exact below_drewN (Below.refl _ _) n : Below wr.heap.size wr wc) c1
    clear hwc HB c0 c2 c3 hg h2
    go_wp2
    go_loopg [16, 17] E.length (fun gh nv jv wx => ∃ (j : Nat), gh = E.length - j ∧ j ≤ E.length ∧ jv = .int .i64 j ∧ nv = .int .i64 (Bk.send (E.take j) (i : Int) : Int) ∧ wx = wc)
    case atStart => exact ⟨0, rfl, Nat.zero_le _, rfl, by simp [Bk.send], rfl⟩
    case round =>
      obtain ⟨j, rfl, hj, rfl, rfl, hwx⟩ := hrel
      subst wr
      by_cases hjl : j < E.length
      · have dj : decide ((j : Int) < (E.length : Int)) = true := by simp; omega
        have j0 : (0 : Int) ≤ (j : Int) := by omega
        have j1 : (j : Int) < (E.length : Int) := by omega
        obtain ⟨x, hx⟩ : ∃ x, E[j]? = some x := ⟨_, List.getElem?_eq_getElem hjl⟩
        obtain ⟨a1, cp, e1, h1⟩ := hE.out
        obtain ⟨rfl, rfl⟩ : ae = a1 ∧ ce = cp := by simpa using e1
        obtain ⟨ge, rfl, q1⟩ := h1 (fun e => by rw [e] at hjl; simp at hjl)
        obtain ⟨y0, y1, y2, y3⟩ := q1 j _ hx
        have y0 := bsome HBc.out y0
        have y1 := bsome HBc.out y1
        have y2 := bsome HBc.out y2
        have hot := Bk.send_take hx (i : Int)
        have hnl : Bk.send (E.take j) (i : Int) ≤ j := Nat.le_trans (Bk.send_le _ _) (by rw [List.length_take]; omega)
        unfold Bk.cnt at hot
        generalize Bk.send (E.take j) (i : Int) = M at *
        obtain ⟨b1, h1⟩ : ∃ b, (x.c == (i : Int)) = b := ⟨_, rfl⟩
        rw [h1] at hot
        have HT := hide hot
        clear hx e1 q1 y3 hot
        cases b1 with
        | false =>
          go_wp2
          go_roundg (E.length - (j + 1))
          case measure => omega
          case rel => exact ⟨j + 1, rfl, by omega, by go_num, by rw [HT.out]; rfl, rfl⟩
        | true =>
          obtain ⟨b2, h2⟩ : ∃ b, x.s = b := ⟨_, rfl⟩
          rw [h2] at y1 HT
          cases b2 with
          | false =>
            go_wp2
            go_roundg (E.length - (j + 1))
            case measure => omega
            case rel => exact ⟨j + 1, rfl, by omega, by go_num, by rw [HT.out]; rfl, rfl⟩
          | true =>
            obtain ⟨b3, h3⟩ : ∃ b, (x.h == -2) = b := ⟨_, rfl⟩
            have h3' : (x.h != -2) = !b3 := by rw [← h3]; rfl
            rw [h3] at HT
            cases b3 with
            | false =>
              go_wp2
              go_roundg (E.length - (j + 1))
              case measure => omega
              case rel => exact ⟨j + 1, rfl, by omega, by go_num, by rw [HT.out]; go_num, rfl⟩
            | true =>
              go_wp2
              go_roundg (E.length - (j + 1))
              case measure => omega
              case rel => exact ⟨j + 1, rfl, by omega, by go_num, by rw [HT.out]; rfl, rfl⟩
      · obtain rfl : j = E.length := by omega
        have dj : decide ((E.length : Int) < (E.length : Int)) = false := by simp
        rw [List.take_length, HSn.out]
        have dn : ((sn : Int) != (sn : Int)) = false := by simp
        clear hE
        go_wp2
        refine ⟨ti_mk _ _ rfl ⟨i + 1, by omega, by show _ = _; go_num, HBc⟩, ?_⟩
        simp [Tmu, intOf, hu]
        omega
theorem o_loop4 (w0 w : World) (a : Act) (ae : Option Addr) (ce : Nat) (ac : Option Addr) (cc n : Nat) (s : Cst) (hon : On s []) (hwf : Wf n s) (hE : EnR w0 (.slice ae s.e.length ce) s.e) (hC : CvR w0 (.slice ac s.s.length cc) (Bk.cvs s.e s.s s.i s.g)) (P0 : List PanicEntry → Act → World → Prop) (Q1 : Exit → Act → World → Prop)
    (hexit : ∀ (a' : Act) w', a' = oframe3 ae s.e.length ce ac s.s.length cc (fun k => a'.tmps.getD k undef) → Hid (Below w0.heap.size w0 w') → Q1 (.exit 7) a' w') (ha : a = oframe3 ae s.e.length ce ac s.s.length cc (fun k => a.tmps.getD k undef)) (hrel : TRel w0 s.s.length (a.tmps.getD 15 undef) w) :
    Code.wp Try.prog (Code.loop (obody 3)) (qmix P0 Q1) a w := by
  refine wp_loop (c := obody 3) (TI w0 ae s.e.length ce ac s.s.length cc) (Tmu s.s.length) (ti_mk a w ha hrel) (fun a' w' hI => ?_)
  obtain ⟨u, ⟨i, hi, hu, HB⟩, rfl⟩ := hI
  by_cases hlt : i < s.s.length
  · obtain ⟨a2, c2, e2, h2⟩ := hC
    rw [Bk.cvs_len] at e2
    obtain ⟨rfl, rfl⟩ : ac = a2 ∧ cc = c2 := by simpa using e2
    obtain ⟨gc, oc, rfl, q2⟩ := h2 (fun e => by have := Bk.cvs_len s.e s.s s.i s.g; rw [e] at this; simp at this; omega)
    obtain ⟨y0, y1, y2, iv, y3, y4⟩ := q2 i _ (Bk.cvs_at hlt)
    obtain ⟨f1, f2, f3⟩ := hon.finC hwf hlt
    rw [f1] at y1
    refine o_round4 w0 w' u i ce gc oc _ cc s.e ae P0 Q1 hlt (by have := hwf.o.le; omega) (by have := hwf.o.ls; omega) hu _ _ _ iv (hide hE) (hide y0) (hide y1) (hide y2) (hide y3) (hide y4) f2 f3 ?_ HB
    have hI : s.i[i]? = some (s.i[i]'(by rw [hwf.o.lI]; exact hlt)) := List.getElem?_eq_getElem _
    have := hwf.o.li _ (List.mem_of_getElem? hI)
    unfold Bk.cv
    simp only [List.getD_eq_getElem?_getD, hI, Option.getD_some]
    omega
  · obtain rfl : i = s.s.length := by omega
    have d1 : decide ((s.s.length : Int) < (s.s.length : Int)) = false := by simp
    have HX := hide hexit
    clear hexit hE hC
    conv => arg 2; whnf
    unfold oframe3
    go_wp2
    refine HX.out _ _ ?_ HB
    rfl
end Go.Proofs.Ytbepaimbbclejaa
