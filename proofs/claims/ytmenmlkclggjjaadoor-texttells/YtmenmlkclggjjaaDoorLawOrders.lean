/- The law TextOrders, walked: at every list of faults it answers true and writes nothing that was there. -/
import Derived.Test.YtmenmlkclggjjaaDoorOrderF
import Derived.Test.YtmenmlkclggjjaaDoorPlace
namespace Go.Proofs.YtmenmlkclggjjaaDoor
open Go.RowKit

theorem FSlice.open {w : World} {v : Value} {l : List (Int × Int)} (h : FSlice w v l) : ∃ a cap, v = .slice a l.length cap ∧ (0 < l.length → ∃ b off, a = some ⟨b, off, none⟩ ∧ b < w.heap.size ∧ FAt w b off l) := by
  rcases h with ⟨rfl, a, cap, rfl⟩ | ⟨hp, b, off, cap, rfl, hlt, hF⟩
  · exact ⟨a, cap, rfl, fun h => by simp at h⟩
  · exact ⟨_, cap, rfl, fun _ => ⟨b, off, rfl, hlt, hF⟩⟩

theorem FSlice.open_at {w : World} {a : Option Addr} {n cap : Nat} {l : List (Int × Int)} (h : FSlice w (.slice a n cap) l) (_hn : n = l.length) (hp : 0 < l.length) : ∃ b off, a = some ⟨b, off, none⟩ ∧ b < w.heap.size ∧ FAt w b off l := by
  rcases h with ⟨rfl, _⟩ | ⟨_, b, off, c, hv, hlt, hF⟩
  · simp at hp
  · simp only [Value.slice.injEq] at hv
    exact ⟨b, off, hv.1, hlt, hF⟩

/-- Is a thing among the first k? -/
def hasTo (x : Int × Int) (l : List (Int × Int)) : Nat → Bool
  | 0 => false
  | k + 1 => hasTo x l k || decide (l[k]?.getD (0, 0) = x)
theorem hasTo_of (x : Int × Int) (l : List (Int × Int)) (k : Nat) (i : Nat) (hi : i < k) (h : l[i]?.getD (0, 0) = x) : hasTo x l k = true := by
  induction k with
  | zero => omega
  | succ k ih =>
    simp only [hasTo, Bool.or_eq_true, decide_eq_true_eq]
    by_cases e : i = k
    · subst e; exact .inr h
    · exact .inl (ih (by omega))
theorem hasTo_mem (x : Int × Int) (l : List (Int × Int)) (h : x ∈ l) : hasTo x l l.length = true := by
  obtain ⟨i, hi, e⟩ := List.getElem_of_mem h
  exact hasTo_of x l l.length i hi (by rw [List.getElem?_eq_getElem hi]; exact e)

theorem ord_at (l : List (Int × Int)) (i : Nat) (hi : i < (Pl.ord l).length) : ((Pl.ord l)[i]?.getD (0, 0)).1 ≠ 0 ∧ (Pl.ord l)[i]?.getD (0, 0) ∈ l := by
  rw [List.getElem?_eq_getElem hi]
  have := (Pl.mem_ord l _).1 (List.getElem_mem hi)
  exact ⟨this.2, this.1⟩
theorem ord_lt (l : List (Int × Int)) (i : Nat) (hi : i + 1 < (Pl.ord l).length) : Pl.flt ((Pl.ord l)[i]?.getD (0, 0)) ((Pl.ord l)[i + 1]?.getD (0, 0)) = true := by
  rw [List.getElem?_eq_getElem hi, List.getElem?_eq_getElem (show i < (Pl.ord l).length by omega)]
  exact List.pairwise_iff_getElem.1 (Pl.ord_up l) i (i + 1) (by omega) hi (by omega)

theorem drew2 (w : World) (a b : Nat) : (w.drewN a).drewN b = w.drewN (a + b) := by simp [World.drewN, Nat.add_assoc]

/-- The three ways of one round: the first fault; one of the place before; one of a later place. -/
theorem round_cases {w : World} {g og : Nat} {O : List (Int × Int)} {l : List (Int × Int)} (hF : FAt w g og O) (_hAt : ∀ i, i < O.length → (O[i]?.getD (0, 0)).1 ≠ 0 ∧ O[i]?.getD (0, 0) ∈ l)
    (hLt : ∀ i, i + 1 < O.length → Pl.flt (O[i]?.getD (0, 0)) (O[i + 1]?.getD (0, 0)) = true) (i : Nat) (hi : i < O.length) :
    (i = 0 ∧ w.cell? ⟨g, og, none⟩ = some (.int .i64 (O[i]?.getD (0, 0)).1) ∧ w.cell? ⟨g, og + 1, none⟩ = some (.int .i64 (O[i]?.getD (0, 0)).2)) ∨
    (∃ (j : Nat) (y : Int × Int), i = j + 1 ∧ w.cell? ⟨g, og + (j + 1) * 2, none⟩ = some (.int .i64 (O[i]?.getD (0, 0)).1) ∧ w.cell? ⟨g, og + (j + 1) * 2 + 1, none⟩ = some (.int .i64 (O[i]?.getD (0, 0)).2) ∧
      w.cell? ⟨g, og + j * 2, none⟩ = some (.int .i64 y.1) ∧ w.cell? ⟨g, og + j * 2 + 1, none⟩ = some (.int .i64 y.2) ∧ decide ((O[i]?.getD (0, 0)).2 < y.2) = false ∧ ((O[i]?.getD (0, 0)).2 == y.2) = true ∧ decide ((O[i]?.getD (0, 0)).1 ≤ y.1) = false) ∨
    (∃ (j : Nat) (y : Int × Int), i = j + 1 ∧ w.cell? ⟨g, og + (j + 1) * 2, none⟩ = some (.int .i64 (O[i]?.getD (0, 0)).1) ∧ w.cell? ⟨g, og + (j + 1) * 2 + 1, none⟩ = some (.int .i64 (O[i]?.getD (0, 0)).2) ∧
      w.cell? ⟨g, og + j * 2, none⟩ = some (.int .i64 y.1) ∧ w.cell? ⟨g, og + j * 2 + 1, none⟩ = some (.int .i64 y.2) ∧ decide ((O[i]?.getD (0, 0)).2 < y.2) = false ∧ ((O[i]?.getD (0, 0)).2 == y.2) = false) := by
  obtain ⟨c0, c1⟩ := hF i hi
  match i, hi, c0, c1 with
  | 0, hi, c0, c1 => exact .inl ⟨rfl, by simpa using c0, by simpa using c1⟩
  | j + 1, hi, c0, c1 =>
    obtain ⟨y0, y1⟩ := hF j (by omega)
    have hlt := (Pl.flt_iff _ _).1 (hLt j hi)
    right
    by_cases e : (O[j + 1]?.getD (0, 0)).2 = (O[j]?.getD (0, 0)).2
    · exact .inl ⟨j, _, rfl, c0, c1, y0, y1, by simp; omega, by simpa using e, by simp; omega⟩
    · exact .inr ⟨j, _, rfl, c0, c1, y0, y1, by simp; omega, by simpa using e⟩

set_option maxRecDepth 100000 in
set_option maxHeartbeats 400000 in
theorem orders_huge (a0 : Option Addr) (n cap : Nat) (w : World) (h0 : 0 < w.heap.size) (h : w.cell? ⟨0, 5, none⟩ = some (.string ⟨#[102, 111, 114, 109]⟩)) (hm : n ≤ maxLen) (hbig : 300 < n) :
    Calls Tryd.prog 6 #[.slice a0 n cap] w fun e w' => e = .returned (.bool true) ∧ Below w.heap.size w w' := by
  unfold maxLen at hm
  go_enter Tryd.func6, Tryd.ntmps6
  go_wp2_with fail
  refine (begun_any _ h0 h).mono ?_
  rintro e w1 ⟨rfl, hb⟩
  go_wp2
  go_ret
  exact ⟨rfl, hb⟩

set_option maxRecDepth 100000 in
set_option maxHeartbeats 2000000 in
theorem orders_in (l : List (Int × Int)) (v : Value) (w : World) (h0 : 0 < w.heap.size) (h : w.cell? ⟨0, 5, none⟩ = some (.string ⟨#[102, 111, 114, 109]⟩)) (hl : l.length ≤ 300) (hv : FSlice w v l) :
    Calls Tryd.prog 6 #[v] w fun e w' => e = .returned (.bool true) ∧ Below w.heap.size w w' := by
  have d1 : decide ((300 : Int) < (l.length : Int)) = false := by simp; omega
  have hv0 := hide hv
  obtain ⟨va, cv, rfl, hvf⟩ := hv.open
  have HVF := hide hvf
  clear hv hvf
  go_enter Tryd.func6, Tryd.ntmps6
  go_wp2_with fail
  refine (begun_any _ h0 h).mono ?_
  rintro e w1 ⟨rfl, hb1⟩
  have hv1 := hv0.out.below hb1
  go_wp2_with fail
  refine (order_any l _ _ hl hv1).mono ?_
  rintro e w2 ⟨u, rfl, hown, hb2⟩
  have hOl : (Pl.ord l).length ≤ l.length := Pl.ordTo_len l l.length
  have hu2 := FSlice.of_own hown
  have HU2 := hide hu2
  obtain ⟨ua, cu, rfl, huf⟩ := hu2.open
  have hv2 := hv1.below hb2
  have z1 := hb1.size
  have z2 := hb2.size
  have HB : Hid (Below w.heap.size w w2) := hb1.trans (hb2.mono (by omega))
  have HV2 := hide hv2
  have HUF := hide huf
  have hAt := ord_at l
  have hLt := ord_lt l
  have hMem := Pl.mem_ord l
  have hOO := Pl.ord_ord l
  clear hv1 hv2 hu2 hown huf hb1 hb2
  generalize Pl.ord l = O at *
  have HAt := hide hAt
  have HLt := hide hLt
  have HMem := hide hMem
  have HOO := hide hOO
  clear hAt hLt hMem hOO
  go_wp2
  go_loopw [4] (fun i wr => ∃ k : Nat, k ≤ O.length ∧ i = .int .i64 k ∧ ∃ n, wr = w2.drewN n) (fun i _ => O.length - (intOf i).toNat)
  case atStart => exact ⟨0, Nat.zero_le _, rfl, 0, rfl⟩
  case round =>
    obtain ⟨i, hi, rfl, n, rfl⟩ := hrel
    by_cases hlt : i < O.length
    · obtain ⟨g, og, rfl, hg, hFO⟩ := HUF.out (by omega)
      have hcase := round_cases hFO HAt.out HLt.out i hlt
      obtain ⟨hne, hin⟩ := HAt.out i hlt
      have HIN := hide hin
      clear hFO hin
      generalize O[i]?.getD (0, 0) = x at *
      have e0 : (x.1 == 0) = false := by simpa using hne
      clear hne
      rcases hcase with ⟨rfl, c0, c1⟩ | ⟨j, y, rfl, c0, c1, y0, y1, f1, f2, f3⟩ | ⟨j, y, rfl, c0, c1, y0, y1, f1, f2⟩
      all_goals go_wp2
      all_goals go_quiet (fail)
      all_goals go_wp2
      all_goals
        go_loopw [5, 6] (fun f k wr => ∃ (m : Nat) (bb : Bool), m ≤ l.length ∧ k = .int .i64 m ∧ f = .bool bb ∧ bb = hasTo x l m ∧ ∃ n, wr = w2.drewN n) (fun _ k _ => l.length - (intOf k).toNat)
        case atStart => exact ⟨0, false, Nat.zero_le _, rfl, rfl, rfl, _, drew2 _ _ _⟩
        case round =>
          obtain ⟨m, bb, hm, rfl, rfl, hbb, n2, rfl⟩ := hrel
          have HBB := hide hbb
          clear hbb
          by_cases hlt2 : m < l.length
          · obtain ⟨b, ob, rfl, hb, hFl⟩ := HV2.out.open_at rfl (by omega)
            obtain ⟨a0, a1⟩ := hFl m hlt2
            have HM : Hid (hasTo x l (m + 1) = (hasTo x l m || decide (l[m]?.getD (0, 0) = x))) := rfl
            clear hFl
            generalize l[m]?.getD (0, 0) = q at *
            cases bb with
            | true =>
              go_wp2
              go_quiet (fail)
              go_wp2
              go_roundw
              case rel => exact ⟨m + 1, true, by omega, by go_num, rfl, by rw [HM.out, ← HBB.out]; rfl, _, rfl⟩
              case measure => simp [intOf]; omega
            | false =>
              have heq := fun W => eqlF q x W
              generalize hd : decide (q = x) = dd at heq HM
              have HD := hide hd
              clear hd
              go_wp2
              go_quiet (fail)
              go_wp2
              go_roundw
              case rel => exact ⟨m + 1, dd, by omega, by go_num, rfl, by rw [HM.out, ← HBB.out]; rfl, _, rfl⟩
              case measure => simp [intOf]; omega
          · obtain rfl : m = l.length := by omega
            obtain rfl : bb = true := HBB.out.trans (hasTo_mem x l HIN.out)
            go_wp2
            go_roundw
            case rel => exact ⟨_, hlt, by go_num, _, rfl⟩
            case measure => simp [intOf]; omega
    · obtain rfl : i = O.length := by omega
      clear hi hlt
      go_wp2
      go_loopw [7] (fun i wr => ∃ k : Nat, k ≤ l.length ∧ i = .int .i64 k ∧ ∃ n, wr = w2.drewN n) (fun i _ => l.length - (intOf i).toNat)
      case atStart => exact ⟨0, Nat.zero_le _, rfl, _, rfl⟩
      case round =>
        obtain ⟨k, hk, rfl, n3, rfl⟩ := hrel
        by_cases hlt : k < l.length
        · obtain ⟨b, ob, rfl, hb, hFl⟩ := HV2.out.open_at rfl (by omega)
          obtain ⟨a0, a1⟩ := hFl k hlt
          have hpl : l[k]?.getD (0, 0) ∈ l := by rw [List.getElem?_eq_getElem hlt]; exact List.getElem_mem hlt
          have HPL := hide hpl
          clear hFl hpl
          generalize l[k]?.getD (0, 0) = p at *
          obtain ⟨c, hc⟩ : ∃ c, (p.1 == 0) = c := ⟨_, rfl⟩
          have HCC := hide hc
          go_wp2
          go_loopw [8, 9] (fun f k wr => ∃ (m : Nat) (bb : Bool), m ≤ O.length ∧ k = .int .i64 m ∧ f = .bool bb ∧ bb = (c || hasTo p O m) ∧ ∃ n, wr = w2.drewN n) (fun _ k _ => O.length - (intOf k).toNat)
          case atStart => exact ⟨0, c, Nat.zero_le _, rfl, rfl, by simp [hasTo], _, rfl⟩
          case round =>
            obtain ⟨m, bb, hm, rfl, rfl, hbb, n4, rfl⟩ := hrel
            have HBB := hide hbb
            clear hbb
            by_cases hlt2 : m < O.length
            · obtain ⟨g, og, rfl, hg, hFO⟩ := HUF.out (by omega)
              obtain ⟨o0, o1⟩ := hFO m hlt2
              have HM : Hid (hasTo p O (m + 1) = (hasTo p O m || decide (O[m]?.getD (0, 0) = p))) := rfl
              clear hFO
              generalize O[m]?.getD (0, 0) = q at *
              cases bb with
              | true =>
                go_wp2
                go_quiet (fail)
                go_wp2
                go_roundw
                case rel => exact ⟨m + 1, true, by omega, by go_num, rfl, by rw [HM.out, ← Bool.or_assoc, ← HBB.out]; rfl, _, rfl⟩
                case measure => simp [intOf]; omega
              | false =>
                have heq : ∀ W, Sem.run Tryd.prog (binOp .eql 24 (.agg #[.int .i64 p.1, .int .i64 p.2]) (.agg #[.int .i64 q.1, .int .i64 q.2])) W = .ok (.bool (decide (q = p))) W := fun W => by rw [eqlF, show decide (p = q) = decide (q = p) from by simp [eq_comm]]
                generalize hd : decide (q = p) = dd at heq HM
                have HD := hide hd
                clear hd
                go_wp2
                go_quiet (fail)
                go_wp2
                go_roundw
                case rel => exact ⟨m + 1, dd, by omega, by go_num, rfl, by rw [HM.out, ← Bool.or_assoc, ← HBB.out]; rfl, _, rfl⟩
                case measure => simp [intOf]; omega
            · obtain rfl : m = O.length := by omega
              obtain rfl : bb = true := by
                rw [HBB.out]
                cases hcc : c with
                | true => rfl
                | false =>
                  have hp0 : p.1 ≠ 0 := by
                    have := HCC.out
                    rw [hcc] at this
                    simpa using this
                  rw [hasTo_mem p O ((HMem.out p).2 ⟨HPL.out, hp0⟩)]
                  rfl
              go_wp2
              go_roundw
              case rel => exact ⟨k + 1, hlt, by go_num, _, rfl⟩
              case measure => simp [intOf]; omega
        · have hbd : Below w2.heap.size w2 (w2.drewN n3) := below_drewN (Below.refl _ _) _
          have hu3 := HU2.out.below hbd
          go_wp2_with fail
          refine (order_any O _ _ (by omega) hu3).mono ?_
          rintro e w4 ⟨u4, rfl, hown4, hb4⟩
          have hu4 := hu3.below hb4
          rw [HOO.out] at hown4
          have hv4 := FSlice.of_own hown4
          have HU4 := hide hu4
          have HV4 := hide hv4
          clear hu3 hown4 hu4 hv4
          go_wp2_with fail
          refine (samef_any O _ _ _ (by omega) HV4.out HU4.out).mono ?_
          rintro e w5 ⟨rfl, hb5⟩
          go_wp2
          go_ret
          have z4 := hb4.size
          have zz := HB.out.size
          exact ⟨rfl, ((HB.out.trans (hbd.mono zz)).trans (hb4.mono (by simpa using zz))).trans (hb5.mono (by simp at z4; omega))⟩
end Go.Proofs.YtmenmlkclggjjaaDoor
