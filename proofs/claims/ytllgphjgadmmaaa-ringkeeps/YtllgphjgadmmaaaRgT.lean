import Derived.Test.YtllgphjgadmmaaaRgS
import Derived.Deep.Cut
import Derived.Deep.CutRange
import Derived.Deep.LoopGhost
import Derived.BigQuiet
import Derived.Deep.Upon
/- Rings: the law RingKeeps. -/
namespace Go.Proofs.Ytllgphjgadmmaaa
open Go.RowKit

theorem Try.infoS : (Try.prog.info? 9).map (fun i => (i.zero, i.size, i.bytes)) = some (some (.string ⟨#[]⟩), 1, 16) := by kernel_rfl
theorem kp4 (x : Int) : ∃ q : Nat, q < 4 ∧ wrap64 ((IntKind.u64.wrap x).tmod 4) = (q : Int) := by
  have h0' : 0 ≤ IntKind.u64.wrap x := by rw [IntKind.wrap_u64]; omega
  have h1 := Int.tmod_eq_emod_of_nonneg (b := 4) h0'
  rw [h1]
  generalize IntKind.u64.wrap x = y at *
  refine ⟨(y % 4).toNat, by omega, ?_⟩
  unfold wrap64
  omega
theorem cellOneT (w : World) (x : Value) (t : TypeId) : ∀ (j : Nat) u, [x][j]? = some u → (w.alloc (.cells #[x] t)).cell? ((⟨w.heap.size, 0, none⟩ : Addr).add j) = some u := by
  intro j u hu
  match j, hu with
  | 0, hu => simp at hu; subst hu; simp [go_sem, Addr.add]
theorem own_sliceg {B t z n : Nat} {w : World} {v : Value} {xs : List Value} (h : w.ownsRow B t z v n xs) : ∃ a c, v = .slice a n c := by
  rcases h.2 with ⟨h, h0⟩ | ⟨g, cap, cur, hv, hg, rest⟩
  · exact ⟨none, 0, by rw [h, h0]⟩
  · exact ⟨_, cap, hv⟩
/-- Nothing is appended. -/
theorem wpList_append_zero {P : Program} {w : World} {ops : Array Oper} {rest : List Oper} {o : Oper} {a : Act} {Q : Exit → Act → World → Prop} (hgd : o.guard = none) (s x : Operand) (t : TypeId)
    (ho : o.op = .call { callee := .builtin .append, args := #[s, x], argTypes := #[t, t] }) (base : Nat) (e : TypeId) (i : TypeInfo) (size : Nat) (ht : P.underlying t = some (.slice e)) (hi : P.info? e = some i)
    (v : Value) (n : Nat) (xs : List Value) (hs : a.eval s = v) (hown : w.ownsRow base e size v n xs) (a0 : Option Addr) (c0 : Nat) (hx : a.eval x = .slice a0 0 c0) (h : wpList P ops Q rest (a.put o.dst v) w) : wpList P ops Q (o :: rest) a w :=
  wpList_plain hgd fun _ hK => by
    have hr : (Builtin.append_ #[t, t] o.type #[v, .slice a0 0 c0]).run P w = .ok v w := by
      have hsrc : Src P i.size t (.slice a0 0 c0) 0 [] w := by
        cases a0 with
        | none => exact Src.ofNil w ht c0
        | some ad => exact Src.ofSlice w ht ad 0 c0 [] (by simp) (fun j u hu => by simp at hu) (fun u hu => by simp at hu)
      rcases hown.2 with ⟨rfl, rfl⟩ | ⟨g, cap, cur, rfl, _, _, hnc, _⟩
      · exact run_append_nothing w t t o.type e i ht hi _ _ _ (Nat.le_refl _) _ hsrc
      · exact run_append_nothing w t t o.type e i ht hi _ _ _ hnc _ hsrc
    unfold Oper.wp execOp
    simp only [ho, resolve, invoke, builtin, Sem.run_bind, Sem.run_pure, Result.andThen_ok, List.map_toArray, List.map_cons, List.map_nil, hs, hx, hr]
    exact hK _ _ h
set_option maxRecDepth 100000 in
set_option maxHeartbeats 4000000 in
theorem gkeeps_any {RI : (Nat → Prop) → World → Nat → Nat → List Int → Prop} {RT : (Nat → Prop) → World → Nat → Nat → List ByteArray → Prop} (C : RingOK RI) (D : RingOT RT) (sl : Int) (L : List ByteArray) (v : Value) (T : List Int) (vt : Value) (w : World) (h : TRw w v L) (ht : IR w vt T) (hTl : T.length ≤ 9223372036854775807) (hLl : L.length ≤ 9223372036854775807) :
    Calls Try.prog 4 #[.int .i64 sl, v, vt] w fun e w' => e = .returned (.bool true) ∧ Below w.heap.size w w' := by
  have HC := hide C
  have HD := hide D
  have HS0 := hide h
  have HT0 := hide ht
  obtain ⟨av, cv, rfl, -⟩ := h
  obtain ⟨at', ct, rfl, -⟩ := ht
  obtain ⟨i9, hi9, hz0, hz1, hz2⟩ := info_parts Try.infoS
  clear C D
  by_cases hl : 200 < L.length
  · have d0 : (200 : Int) < (L.length : Int) := by omega
    go_enter Try.func4, Try.ntmps4
    go_wp2_with fail
    refine (rgBegun_any HC.out _).mono ?_
    rintro e w1 ⟨rfl, hb1⟩
    go_wp2
    go_ret
    exact ⟨rfl, hb1⟩
  · have d0 : decide ((200 : Int) < (L.length : Int)) = false := by simp; omega
    go_enter Try.func4, Try.ntmps4
    go_wp2_with fail
    refine (rgBegun_any HC.out _).mono ?_
    rintro e w1 ⟨rfl, hb1⟩
    have HB1 := hide hb1
    clear hb1
    go_wp2_with fail
    refine (HD.out.new sl _).mono ?_
    rintro e w2 ⟨p, F0, rfl, hr2, hb2, hf2⟩
    have HK2 : Hid (KT RT w1 w2 p sl.toNat F0 [] [] [] (.slice none 0 0) (.slice none 0 0)) := hide ⟨hr2, World.ownsRow_nil _ _ _ _, World.ownsRow_nil _ _ _ _, (fun b hb => by cases hb), (fun b hb => by cases hb), hf2, hb2⟩
    have HS1 := hide (HS0.out.keep HB1.out)
    have HT1 := hide (HT0.out.keep HB1.out)
    generalize hss : sl.toNat = s at *
    have HSS := hide hss
    clear hr2 hb2 hf2 HS0 HT0 hss
    go_wp2
    go_loopg [8, 9, 10] L.length (fun k pv gv iv wr => ∃ (i : Nat) (F : Nat → Prop) (R P G : List ByteArray), k = L.length - i ∧ i ≤ L.length ∧ iv = .int .i64 i ∧ Hid (P = G ++ R) ∧ Hid (P.length ≤ i) ∧ Hid (0 < s → R.length ≤ s) ∧ Hid (KT RT w1 wr p s F R P G pv gv))
    case atStart => exact ⟨0, F0, [], [], [], rfl, Nat.zero_le _, rfl, hide rfl, hide (Nat.zero_le _), hide (fun _ => Nat.zero_le _), HK2⟩
    case round =>
      clear HK2
      obtain ⟨i, F, R, P, G, rfl, hi, rfl, HPG, HPl, HRs, HK⟩ := hrel
      by_cases hlt : i < L.length
      · have d1 : decide ((i : Int) < (L.length : Int)) = true := by simp; omega
        obtain ⟨x, hx⟩ : ∃ x, L[i]? = some x := ⟨_, List.getElem?_eq_getElem hlt⟩
        obtain ⟨aP, cP, eP, hP⟩ := HS1.out
        obtain ⟨rfl, rfl⟩ : av = aP ∧ cv = cP := by simpa using eP
        obtain ⟨gP, oP, rfl, qP⟩ := hP (fun e => by rw [e] at hlt; simp at hlt)
        have X0 := hide (qP i x hx)
        have i0 : (0 : Int) ≤ (i : Int) := by omega
        have i1 : (i : Int) < (L.length : Int) := by omega
        have hRl : R.length ≤ 200 := by have h1 := congrArg List.length HPG.out; have h2 := HPl.out; rw [List.length_append] at h1; omega
        have hPl : P.length ≤ 200 := Nat.le_trans HPl.out (by omega)
        obtain ⟨ap, cp, e8⟩ := own_sliceg HK.out.po
        subst e8
        obtain ⟨ag, cg, e9⟩ := own_sliceg HK.out.go
        subst e9
        have x0 := bsome HK.out.bl X0.out
        clear qP hP eP hx
        have CP := hide (HD.out.put x HK.out.ri (by omega))
        obtain ⟨fb, hfb⟩ : ∃ fb, fullT s R = fb := ⟨_, rfl⟩
        rw [hfb] at CP
        have HFb := hide hfb
        clear hfb
        go_wp2_with fail
        refine CP.out.mono ?_
        rintro e w5 ⟨rfl, F', hr5, hk5, hf5⟩
        have HK5 := hide (HK.out.ring hr5 hk5 hf5)
        clear hr5 hk5 hf5 CP x0 HK
        have x0 := bsome HK5.out.bl X0.out
        go_upto_if 33 with fail
        go_cut [8] from 22 to 82 (fun v8 wx => ∃ (F : Nat → Prop) (R P : List ByteArray), Hid (P = G ++ R) ∧ Hid (P.length ≤ i + 1) ∧ Hid (0 < s → R.length ≤ s) ∧ Hid (KT RT w1 wx p s F R P G v8 (.slice ag G.length cg)))
        case first =>
          cases fb with
          | true =>
            have hf := HFb.out
            unfold fullT at hf
            simp only [Bool.and_eq_true, decide_eq_true_eq] at hf
            have hRe : R.length = s := by have := HRs.out hf.1; omega
            have hsl : sl = (s : Int) := by have := HSS.out; omega
            have HK6 : Hid (KT RT w1 w5 p s F' R P G (.slice ap P.length cp) (.slice ag G.length cg)) := hide (by have h := HK5.out; rw [if_pos rfl] at h; exact h)
            have CL := hide (HD.out.len HK6.out.ri)
            rw [hRe] at CL
            have dl : decide ((s : Int) < 1) = false := by simp; omega
            have dn : (((s : Nat) : Int) != ((s : Nat) : Int)) = false := by simp
            have HP1 : Hid (P.length ≤ i + 1) := hide (Nat.le_succ_of_le HPl.out)
            have HRe := hide hRe
            clear HK5 hf hRe
            subst hsl
            go_wp2_with fail
            refine CL.out.mono ?_
            rintro e w6 ⟨rfl, rfl⟩
            go_wp2
            go_meet
            case rel => exact ⟨F', R, P, HPG, HP1, HRs, HK6⟩
          | false =>
            have HK6 : Hid (KT RT w1 w5 p s F' (R ++ [x]) P G (.slice ap P.length cp) (.slice ag G.length cg)) := hide (by have h := HK5.out; rw [if_neg (by decide)] at h; exact h)
            have HR1 : Hid (0 < s → (R ++ [x]).length ≤ s) := hide (fun hs => by
              have hf := HFb.out
              unfold fullT at hf
              rw [decide_eq_true hs, Bool.true_and, decide_eq_false_iff_not] at hf
              rw [List.length_append, List.length_singleton]
              omega)
            have HP1 : Hid ((P ++ [x]).length ≤ i + 1) := hide (by have := HPl.out; rw [List.length_append, List.length_singleton]; omega)
            have HG1 : Hid (P ++ [x] = G ++ (R ++ [x])) := hide (by rw [HPG.out, List.append_assoc])
            have hw5 := HK6.out.bl.size
            clear HK5
            go_wp2_with (at_builtin; refine wpList_append_lies _ rfl _ _ 39 rfl w1.heap.size 9 i9 (.string ⟨#[]⟩) 1 16 Try.underlying39 hi9 hz0 hz1 hz2 rfl (by decide) _ _ _ rfl (by exact HK6.out.po.alloc _) ⟨w5.heap.size, 0, none⟩ 1 1 [.string x] rfl rfl (cellOneT w5 _ 9) (by intro u hu; simp at hu; subst hu; rfl) (by decide) (by unfold maxLen; omega) (by omega) (by simp; omega) _ rfl ?_)
            intro gq cap w7 hown hgrow hat hlt7
            have HK7 := hide ((HK6.out.keep HD.out ((Below.refl _ _).alloc (Nat.le_refl _) (.cells #[.string x] 9))).growP HD.out (x := x) (pv' := .slice (some ⟨gq, 0, none⟩) (P.length + 1) cap) hgrow hown (hat.imp (fun e => e.symm) (fun e => ⟨gq, rfl, by rw [e]; simp⟩)))
            clear hown hgrow hat hlt7 HK6
            go_wp2
            go_meet
            case rel => exact ⟨F', R ++ [x], P ++ [x], HG1, HP1, HR1, HK7⟩
        case rest =>
          clear HPG HPl HRs HK5 x0 HFb
          obtain ⟨F2, R2, P2, HPG, HPl, HRs, HK⟩ := hcut
          go_upto_if 51 with fail
          go_cut [11] from 22 to 82 (fun v11 wx => ∃ q : Nat, q < 4 ∧ v11 = .int .i64 (q : Int) ∧ wx = wc)
          case first =>
            by_cases hT : 0 < T.length
            · have dT : decide ((0 : Int) < (T.length : Int)) = true := decide_eq_true (by omega)
              have dz : ((T.length : Int) == 0) = false := beq_eq_false_iff_ne.2 (by omega)
              obtain ⟨m, hm⟩ : ∃ m, i % T.length = m := ⟨_, rfl⟩
              have hml : m < T.length := by rw [← hm]; exact Nat.mod_lt _ hT
              have hm1 : (i : Int).tmod (T.length : Int) = (m : Int) := by rw [Int.tmod_eq_emod_of_nonneg (by omega), ← hm]; rfl
              have hm2 : (i : Int) % (T.length : Int) = (m : Int) := by rw [← hm]; rfl
              obtain ⟨y, hy⟩ : ∃ y, T[m]? = some y := ⟨_, List.getElem?_eq_getElem hml⟩
              obtain ⟨aT, cT, eT, hT2⟩ := HT1.out.keep HK.out.bl
              obtain ⟨rfl, rfl⟩ : at' = aT ∧ ct = cT := by simpa using eT
              obtain ⟨gT, oT, rfl, qT⟩ := hT2 (List.ne_nil_of_mem (List.mem_of_getElem? hy))
              have y0 := qT m y hy
              obtain ⟨q, hq4, hq⟩ := kp4 y
              have m0 : (0 : Int) ≤ (m : Int) := by omega
              have m1 : (m : Int) < (T.length : Int) := by omega
              have hT3 : ¬ T.length = 0 := by omega
              clear qT hT2 eT hy hm
              go_wp2
              go_meet
              case rel => exact ⟨q, hq4, by first | rfl | rw [hq], rfl⟩
            · have hT0 : T.length = 0 := by omega
              have dT : decide ((0 : Int) < (T.length : Int)) = false := decide_eq_false (by omega)
              go_wp2
              go_meet
              case rel => exact ⟨0, by decide, rfl, rfl⟩
          case rest =>
            obtain ⟨q, hq4, rfl, hwx⟩ := hcut
            subst hwx
            go_wp2
            go_loopg [9, 11] q (fun k gv nv wr => ∃ (F : Nat → Prop) (R G : List ByteArray), k ≤ 4 ∧ nv = .int .i64 (k : Int) ∧ Hid (P2 = G ++ R) ∧ Hid (0 < s → R.length ≤ s) ∧ Hid (KT RT w1 wr p s F R P2 G u8 gv))
            case atStart => exact ⟨F2, R2, G, by omega, rfl, HPG, HRs, HK⟩
            case round =>
              clear HK HRs HPG
              obtain ⟨F3, R3, G3, hk4, rfl, HPG, HRs, HK⟩ := hrel
              obtain ⟨ag3, cg3, e9⟩ := own_sliceg HK.out.go
              subst e9
              have hGl : G3.length ≤ 201 := by have h1 := congrArg List.length HPG.out; have h2 := HPl.out; rw [List.length_append] at h1; omega
              cases gk with
              | zero =>
                have dk : decide ((0 : Int) < ((0 : Nat) : Int)) = false := by simp
                go_wp2
                go_roundg (L.length - (i + 1))
                case measure => omega
                case rel => exact ⟨i + 1, F3, R3, P2, G3, rfl, by omega, by go_num, HPG, HPl, HRs, HK⟩
              | succ gk =>
                have dk : decide ((0 : Int) < ((gk + 1 : Nat) : Int)) = true := decide_eq_true (by omega)
                have CT := hide (HD.out.take HK.out.ri)
                cases hR : R3 with
                | nil =>
                  rw [hR] at CT
                  go_wp2_with fail
                  refine CT.out.mono ?_
                  rintro e w5 ⟨rfl, F', hr5, hk5, hf5⟩
                  have HK5 := hide (HK.out.ring hr5 hk5 hf5)
                  have CL := hide (HD.out.len HK5.out.ri)
                  clear hr5 hk5 hf5 CT
                  go_wp2_with fail
                  refine CL.out.mono ?_
                  rintro e w6 ⟨rfl, rfl⟩
                  go_wp2
                  go_roundg gk
                  case measure => omega
                  case rel => exact ⟨F', [], G3, by omega, by go_num, by rw [← hR]; exact HPG, hide (fun _ => Nat.zero_le _), HK5⟩
                | cons y r =>
                  rw [hR] at CT HPG HRs
                  go_wp2_with fail
                  refine CT.out.mono ?_
                  rintro e w5 ⟨rfl, F', hr5, hk5, hf5⟩
                  have HK5 := hide (HK.out.ring hr5 hk5 hf5)
                  have hw5 := HK5.out.bl.size
                  have HG1 : Hid (P2 = (G3 ++ [y]) ++ r) := hide (by rw [HPG.out, List.append_assoc]; rfl)
                  have HR1 : Hid (0 < s → r.length ≤ s) := hide (fun hs => by have := HRs.out hs; rw [List.length_cons] at this; omega)
                  clear hr5 hk5 hf5 CT HK
                  go_wp2_with (at_builtin; refine wpList_append_lies _ rfl _ _ 39 rfl w1.heap.size 9 i9 (.string ⟨#[]⟩) 1 16 Try.underlying39 hi9 hz0 hz1 hz2 rfl (by decide) _ _ _ rfl (by exact HK5.out.go.alloc _) ⟨w5.heap.size, 0, none⟩ 1 1 [.string y] rfl rfl (cellOneT w5 _ 9) (by intro u hu; simp at hu; subst hu; rfl) (by decide) (by unfold maxLen; omega) (by omega) (by simp; omega) _ rfl ?_)
                  intro gq cap w7 hown hgrow hat hlt7
                  have HK7 := hide ((HK5.out.keep HD.out ((Below.refl _ _).alloc (Nat.le_refl _) (.cells #[.string y] 9))).growG HD.out (xs := [y]) (gv' := .slice (some ⟨gq, 0, none⟩) (G3.length + 1) cap) hgrow hown (hat.imp (fun e => e.symm) (fun e => ⟨gq, rfl, by rw [e]; simp⟩)))
                  clear hown hgrow hat hlt7 HK5
                  go_wp2
                  go_roundg gk
                  case measure => omega
                  case rel => exact ⟨F', r, G3 ++ [y], by omega, by go_num, HG1, HR1, HK7⟩
      · obtain rfl : i = L.length := by omega
        have d1 : decide ((L.length : Int) < (L.length : Int)) = false := by simp
        obtain ⟨ap, cp, e8⟩ := own_sliceg HK.out.po
        subst e8
        obtain ⟨ag, cg, e9⟩ := own_sliceg HK.out.go
        subst e9
        have hPl : P.length ≤ 200 := Nat.le_trans HPl.out (by omega)
        have hLe : G.length + R.length = P.length := by have h1 := congrArg List.length HPG.out; rw [List.length_append] at h1; omega
        have CA := hide (HD.out.all HK.out.ri (by omega))
        have hwz := HK.out.bl.size
        go_upto_region 24 with fail
        go_cut [9] from 83 (fun v9 wx => ∃ (F : Nat → Prop) (R : List ByteArray), Hid (KT RT w1 wx p s F R P P (.slice ap P.length cp) v9))
        case first =>
          cases hR : R with
          | nil =>
            rw [hR] at CA
            go_wp2_with fail
            refine CA.out.mono ?_
            rintro e w5 ⟨a5, c5, rfl, -, hb5⟩
            have HK5 := hide (HK.out.keep HD.out hb5)
            have HPE : Hid (G = P) := hide (by rw [HPG.out, hR, List.append_nil])
            clear hb5 CA
            go_wp2_with (at_builtin; refine wpList_append_zero rfl _ _ 39 rfl w1.heap.size 9 i9 1 Try.underlying39 hi9 _ _ _ rfl (by exact HK5.out.go) a5 c5 rfl ?_)
            go_wp2
            go_meet
            case rel => exact ⟨F, R, by rw [← HPE.out] at HK5 ⊢; exact HK5⟩
          | cons y r =>
            have hRp : 0 < R.length := by rw [hR]; simp
            have hRn : R ≠ [] := by rw [hR]; simp
            have HHR := hide hR
            clear hR
            go_wp2_with fail
            refine CA.out.mono ?_
            rintro e w5 ⟨a5, c5, rfl, hA5, hb5⟩
            obtain ⟨g5, o5, rfl, hA⟩ := hA5 hRn
            have HK5 := hide (HK.out.keep HD.out hb5)
            have HA := hide hA
            have hw5 := HK5.out.bl.size
            clear hb5 CA hA5 hA
            go_wp2_with (at_builtin; refine wpList_append_lies _ rfl _ _ 39 rfl w1.heap.size 9 i9 (.string ⟨#[]⟩) 1 16 Try.underlying39 hi9 hz0 hz1 hz2 rfl (by decide) _ _ _ rfl (by exact HK5.out.go) ⟨g5, o5, none⟩ R.length c5 (R.map .string) rfl (by simp) (fun j u hu => by
              rw [add_at]
              rw [List.getElem?_map, Option.map_eq_some_iff] at hu
              obtain ⟨z, hz, rfl⟩ := hu
              exact HA.out j z hz) (by intro u hu; rw [List.mem_map] at hu; obtain ⟨z, -, rfl⟩ := hu; rfl) hRp (by unfold maxLen; omega) (by omega) (by omega) _ rfl ?_)
            intro gq cap w7 hown hgrow hat hlt7
            have HK7 := hide (HK5.out.growG HD.out (xs := R) (gv' := .slice (some ⟨gq, 0, none⟩) P.length cap) hgrow (by rw [hLe]; exact hown) (hat.imp (fun e => e.symm) (fun e => ⟨gq, rfl, by rw [e]; exact Nat.le_refl _⟩)))
            clear hown hgrow hat hlt7 HK5
            go_wp2
            go_meet
            case rel => exact ⟨F, R, by have h := HK7.out; rw [← HPG.out] at h; exact hide h⟩
        case rest =>
          clear HK CA HPG HPl HRs hLe
          obtain ⟨F2, R2, HK⟩ := hcut
          obtain ⟨ag2, cg2, e9⟩ := own_sliceg HK.out.go
          subst e9
          have dn : (((P.length : Nat) : Int) != ((P.length : Nat) : Int)) = false := by simp
          have HE := hide (HB1.out.trans (HK.out.bl.mono HB1.out.size))
          go_wp2
          go_loopg [14] P.length (fun k iv wr => ∃ i : Nat, k = P.length - i ∧ i ≤ P.length ∧ iv = .int .i64 i ∧ Hid (Below wc.heap.size wc wr))
          case atStart => exact ⟨0, rfl, Nat.zero_le _, rfl, hide (Below.refl _ _)⟩
          case round =>
            obtain ⟨i, rfl, hi, rfl, HB⟩ := hrel
            by_cases hlt : i < P.length
            · have d2 : decide ((i : Int) < (P.length : Int)) = true := by simp; omega
              obtain ⟨x, hx⟩ : ∃ x, P[i]? = some x := ⟨_, List.getElem?_eq_getElem hlt⟩
              have hP0 : 0 < P.length := by omega
              obtain ⟨g1, c1, e1, -, -⟩ := HK.out.po.form hP0
              obtain ⟨g2, c2, e2, -, -⟩ := HK.out.go.form hP0
              obtain ⟨rfl, -⟩ : ap = some ⟨g1, 0, none⟩ ∧ cp = c1 := by simpa using e1
              obtain ⟨rfl, -⟩ : ag2 = some ⟨g2, 0, none⟩ ∧ cg2 = c2 := by simpa using e2
              have y1 := HK.out.po.cells (g := g1) rfl i (.string x) (by simp [hx])
              have y2 := HK.out.go.cells (g := g2) rfl i (.string x) (by simp [hx])
              rw [add_at, Nat.zero_add] at y1 y2
              have y1 := bsome HB.out y1
              have y2 := bsome HB.out y2
              have i0 : (0 : Int) ≤ (i : Int) := by omega
              have i1 : (i : Int) < (P.length : Int) := by omega
              clear e1 e2 hx
              go_wp2
              go_quiet (fail)
              go_wp2
              go_roundg (P.length - (i + 1))
              case measure => omega
              case rel => exact ⟨i + 1, rfl, by omega, by go_num, hide (HB.out.trans (below_drewN (Below.refl _ _) _))⟩
            · obtain rfl : i = P.length := by omega
              have d2 : decide ((P.length : Int) < (P.length : Int)) = false := by simp
              go_wp2
              go_ret
              exact ⟨rfl, HE.out.trans (HB.out.mono HE.out.size)⟩
end Go.Proofs.Ytllgphjgadmmaaa
