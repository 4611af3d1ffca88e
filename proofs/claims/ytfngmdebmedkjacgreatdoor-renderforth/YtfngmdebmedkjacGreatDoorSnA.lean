import Derived.Test.YtfngmdebmedkjacGreatDoorTkC
import Derived.Test.YtfngmdebmedkjacGreatDoorPlA
import Derived.Deep.RegionWith
import Derived.Deep.RegionHeld
import Derived.Deep.QuietTactic
import Derived.BigQuiet
/- The reader in memory; what a call of its methods keeps. -/
namespace Go.Proofs.YtfngmdebmedkjacGreatDoor
open Go.RowKit

/-- Of all blocks that were there, those of S alone may have turned. -/
structure Kp (S : List Nat) (w w' : World) : Prop where
  os : w'.os = w.os
  tape : w'.tape = w.tape
  output : w'.output = w.output
  size : w.heap.size ≤ w'.heap.size
  block : ∀ k, k < w.heap.size → k ∉ S → w'.heap[k]? = w.heap[k]?
theorem Kp.refl (S : List Nat) (w : World) : Kp S w w := ⟨rfl, rfl, rfl, Nat.le_refl _, fun _ _ _ => rfl⟩
theorem Kp.trans {S : List Nat} {a b c : World} (h : Kp S a b) (k : Kp S b c) : Kp S a c :=
  ⟨k.os.trans h.os, k.tape.trans h.tape, k.output.trans h.output, Nat.le_trans h.size k.size, fun i hi hn => (k.block i (Nat.lt_of_lt_of_le hi h.size) hn).trans (h.block i hi hn)⟩
theorem Kp.mono {S S' : List Nat} {a b : World} (h : Kp S a b) (hs : ∀ k, k ∈ S → k ∈ S') : Kp S' a b :=
  ⟨h.os, h.tape, h.output, h.size, fun i hi hn => h.block i hi (fun hm => hn (hs i hm))⟩
/-- What is new when the call begins need not be named. -/
theorem Kp.new {S : List Nat} {b : Nat} {w w' : World} (h : Kp (b :: S) w w') (hb : w.heap.size ≤ b) : Kp S w w' :=
  ⟨h.os, h.tape, h.output, h.size, fun i hi hn => h.block i hi (fun hm => by
    rcases List.mem_cons.1 hm with rfl | hm
    · omega
    · exact hn hm)⟩
theorem Kp.drew {S : List Nat} {a w : World} (h : Kp S a w) : Kp S a w.drew := ⟨h.os, h.tape, h.output, h.size, h.block⟩
theorem Kp.drewN {S : List Nat} {a w : World} (h : Kp S a w) (n : Nat) : Kp S a (w.drewN n) := ⟨h.os, h.tape, h.output, h.size, h.block⟩
theorem Kp.alloc {S : List Nat} {a w : World} (h : Kp S a w) (o : Obj) : Kp S a (w.alloc o) :=
  h.trans ⟨rfl, rfl, rfl, by simp, fun k hk _ => Below.heap_alloc _ _ _ hk⟩
theorem Kp.setCell {S : List Nat} {a w : World} (h : Kp S a w) {p : Addr} (hp : p.block ∈ S) (u : Value) : Kp S a (w.setCell p u) :=
  h.trans ⟨rfl, rfl, rfl, by simp [World.setCell], fun k _ hn => Below.heap_setCell _ _ _ _ (fun he => hn (he ▸ hp))⟩
theorem Kp.set_new {S : List Nat} {a w : World} (h : Kp S a w) {p : Addr} (hp : a.heap.size ≤ p.block) (u : Value) : Kp S a (w.setCell p u) :=
  ⟨h.os, h.tape, h.output, by simpa [World.setCell] using h.size, fun k hk hn => (Below.heap_setCell _ _ _ _ (by omega)).trans (h.block k hk hn)⟩
theorem Kp.rb {b : Nat} {S : List Nat} {a w : World} (h : Kp (b :: S) a w) (o : Nat) (u : Value) : Kp (b :: S) a (w.setCell ⟨b, o, none⟩ u) := h.setCell (List.mem_cons_self) u
theorem Kp.nb {b : Nat} {S : List Nat} {a w : World} (h : Kp S a w) (hb : a.heap.size ≤ b) (o : Nat) (u : Value) : Kp S a (w.setCell ⟨b, o, none⟩ u) := h.set_new (p := ⟨b, o, none⟩) hb u
theorem Kp.of_below {S : List Nat} {w w' : World} (h : Below w.heap.size w w') : Kp S w w' := ⟨h.os, h.tape, h.output, h.size, fun k hk _ => h.block k hk⟩
theorem Kp.grown {S : List Nat} {a w w' : World} {row : Option Nat} (h : Kp S a w) (hg : w.grownBy w' row) (hr : ∀ k, row = some k → a.heap.size ≤ k ∨ k ∈ S) : Kp S a w' :=
  ⟨hg.os.trans h.os, hg.tape.trans h.tape, hg.output.trans h.output, Nat.le_trans h.size hg.size, fun k hk hn => (hg.block k (Nat.lt_of_lt_of_le hk h.size) (fun e => by
    rcases hr k e.symm with h1 | h1
    · omega
    · exact hn h1)).trans (h.block k hk hn)⟩
theorem Kp.cell {S : List Nat} {w w' : World} (h : Kp S w w') {p : Addr} (hp : p.block < w.heap.size) (hn : p.block ∉ S) : w'.cell? p = w.cell? p := World.cell?_of_block (w := w) (h.block p.block hp hn)
theorem Kp.frozen {S : List Nat} {w w' : World} (h : Kp S w w') {p : Addr} (hp : p.block < w.heap.size) (hn : p.block ∉ S) : w'.frozen? p = w.frozen? p := World.frozen?_of_block (w := w) (h.block p.block hp hn)
theorem Kp.some {S : List Nat} {w w' : World} (h : Kp S w w') {p : Addr} {v : Value} (hv : w.cell? p = .some v) (hn : p.block ∉ S) : w'.cell? p = .some v :=
  (h.cell (World.block_lt_of_cell? w p hv) hn).trans hv
theorem Kp.below {w w' : World} (h : Kp [] w w') : Below w.heap.size w w' := ⟨h.os, h.tape, h.output, h.size, fun k hk => h.block k hk (by simp)⟩

/-- A reader: its block, its tokens and where they lie, the text's length. -/
structure Cx where
  rb : Nat
  tb : Nat
  cap : Nat
  a : Option Addr
  full : List Tk.Tok
  e : Nat

structure RD (c : Cx) (w : World) (n : Nat) (s : Sx.St) : Prop where
  hn : n ≤ c.full.length
  hm : c.full.length ≤ 12000
  he : c.e ≤ 12000
  rlt : c.rb < w.heap.size
  c0 : w.cell? ⟨c.rb, 0, none⟩ = some (.slice c.a c.full.length c.cap)
  c1 : w.cell? ⟨c.rb, 1, none⟩ = some (.int .i64 n)
  c2 : w.cell? ⟨c.rb, 2, none⟩ = some (.int .i64 c.e)
  c3 : w.cell? ⟨c.rb, 3, none⟩ = some (.int .i64 s.stmts)
  c4 : w.cell? ⟨c.rb, 4, none⟩ = some (.int .i64 s.dep)
  c5 : w.cell? ⟨c.rb, 5, none⟩ = some (.int .i64 s.opn)
  c6 : w.cell? ⟨c.rb, 6, none⟩ = some (.int .i64 s.parts)
  b3 : s.stmts ≤ 300
  b4 : s.dep ≤ 8
  b5 : s.opn ≤ 60
  b6 : s.parts + (c.full.length - n) ≤ 12000
  fz : ∀ o, w.frozen? ⟨c.rb, o, none⟩ = false
  ne : c.full ≠ [] → c.a = some ⟨c.tb, 0, none⟩ ∧ c.tb ≠ c.rb
  tk : ∀ (i : Nat) t, c.full[i]? = some t → w.cell? ⟨c.tb, i * 4, none⟩ = some (.int .i64 t.kind) ∧ w.cell? ⟨c.tb, i * 4 + 1, none⟩ = some (.int .i64 (t.at' : Int)) ∧
    w.cell? ⟨c.tb, i * 4 + 2, none⟩ = some (.string (bs t.text)) ∧ w.cell? ⟨c.tb, i * 4 + 3, none⟩ = some (.int .i64 t.n) ∧ t.at' ≤ 12000

theorem RD.keep {c : Cx} {w w' : World} {n : Nat} {s : Sx.St} {S : List Nat} (h : RD c w n s) (k : Kp S w w') (hr : c.rb ∉ S) (ht : c.full ≠ [] → c.tb ∉ S) : RD c w' n s :=
  { h with
    rlt := Nat.lt_of_lt_of_le h.rlt k.size
    c0 := k.some h.c0 hr
    c1 := k.some h.c1 hr
    c2 := k.some h.c2 hr
    c3 := k.some h.c3 hr
    c4 := k.some h.c4 hr
    c5 := k.some h.c5 hr
    c6 := k.some h.c6 hr
    fz := fun o => (k.frozen (p := ⟨c.rb, o, none⟩) h.rlt hr).trans (h.fz o)
    tk := fun i t ht' => by
      obtain ⟨h1, h2, h3, h4, h5⟩ := h.tk i t ht'
      have hne : c.tb ∉ S := ht (fun e => by rw [e] at ht'; simp at ht')
      exact ⟨k.some h1 hne, k.some h2 hne, k.some h3 hne, k.some h4 hne, h5⟩ }
end Go.Proofs.YtfngmdebmedkjacGreatDoor
/- Contracts of the reader's small methods: is it over, the place, the text, is it this one. -/
namespace Go.Proofs.YtfngmdebmedkjacGreatDoor
open Go.RowKit

theorem drew2 (w : World) (a b : Nat) : (w.drewN a).drewN b = w.drewN (a + b) := by simp [World.drewN, Nat.add_assoc]
theorem drop_last (l : List Tk.Tok) (n : Nat) (h : n ≤ l.length) (hn : ¬ n < l.length) : l.drop n = [] := by simp; omega
theorem drop_cons (l : List Tk.Tok) (n : Nat) (h : n < l.length) : ∃ t, l[n]? = some t ∧ l.drop n = t :: l.drop (n + 1) :=
  ⟨l[n], by simp [h], List.drop_eq_getElem_cons h⟩

set_option maxHeartbeats 400000 in
theorem over_any (c : Cx) (w : World) (n : Nat) (s : Sx.St) (h : RD c w n s) :
    Calls Tryz.prog 103 #[.pointer (some ⟨c.rb, 0, none⟩)] w fun e w' => e = .returned (.bool (c.full.drop n).isEmpty) ∧ ∃ k, w' = w.drewN k := by
  have c0 := h.c0
  have c1 := h.c1
  have hE : (c.full.drop n).isEmpty = ((n : Int) == (c.full.length : Int)) := by
    have := h.hn
    rw [Bool.eq_iff_iff]
    simp
    omega
  rw [hE]
  clear hE
  go_enter Tryz.func103, Tryz.ntmps103
  go_wp2
  go_quiet (fail)
  go_wp2
  go_ret
  exact ⟨rfl, _, rfl⟩

theorem RD.drewN {c : Cx} {w : World} {n : Nat} {s : Sx.St} (h : RD c w n s) (k : Nat) : RD c (w.drewN k) n s :=
  h.keep ((Kp.refl [] w).drewN k) (by simp) (by simp)

set_option maxHeartbeats 400000 in
theorem at_any (c : Cx) (w : World) (n : Nat) (s : Sx.St) (h : RD c w n s) :
    Calls Tryz.prog 139 #[.pointer (some ⟨c.rb, 0, none⟩)] w fun e w' => e = .returned (.int .i64 (Sx.place c.e (c.full.drop n))) ∧ ∃ k, w' = w.drewN k := by
  have HO := hide (fun w h => over_any c w n s h)
  have HH := hide h
  by_cases hlt : n < c.full.length
  · obtain ⟨t, ht, hd⟩ := drop_cons c.full n hlt
    obtain ⟨ha, _⟩ := h.ne (fun e => by rw [e] at hlt; simp at hlt)
    have hE : (c.full.drop n).isEmpty = false := by rw [hd]; rfl
    have HE := hide hE
    have HP : Hid (Sx.place c.e (c.full.drop n) = (t.at' : Int)) := by rw [hd]; rfl
    obtain ⟨_, k1, _, _, _⟩ := h.tk n t ht
    have c0 := h.c0
    have c1 := h.c1
    clear h hE hd ht
    rw [ha] at c0
    clear ha
    go_enter Tryz.func139, Tryz.ntmps139
    go_wp2_with fail
    refine (HO.out _ HH.out).mono ?_
    rintro e w1 ⟨rfl, k, rfl⟩
    rw [HE.out]
    go_wp2
    go_quiet (fail)
    go_wp2
    go_ret
    rw [HP.out]
    exact ⟨rfl, _, drew2 _ _ _⟩
  · have hd := drop_last c.full n h.hn hlt
    have hE : (c.full.drop n).isEmpty = true := by rw [hd]; rfl
    have HE := hide hE
    have HP : Hid (Sx.place c.e (c.full.drop n) = (c.e : Int)) := by rw [hd]; rfl
    have c2 := h.c2
    clear h hE hd
    go_enter Tryz.func139, Tryz.ntmps139
    go_wp2_with fail
    refine (HO.out _ HH.out).mono ?_
    rintro e w1 ⟨rfl, k, rfl⟩
    rw [HE.out]
    go_wp2
    go_ret
    rw [HP.out]
    exact ⟨rfl, _, rfl⟩
end Go.Proofs.YtfngmdebmedkjacGreatDoor
/- Contracts of the reader's small methods: the text, is it this one; faults. -/
namespace Go.Proofs.YtfngmdebmedkjacGreatDoor
open Go.RowKit

theorem bs_nil : bs [] = ⟨#[]⟩ := rfl
theorem bs_list (l : List UInt8) : (bs l).data.toList = l := by simp [bs]

set_option maxHeartbeats 400000 in
theorem text_any (c : Cx) (w : World) (n : Nat) (s : Sx.St) (h : RD c w n s) :
    Calls Tryz.prog 146 #[.pointer (some ⟨c.rb, 0, none⟩)] w fun e w' => e = .returned (.string (bs (Sx.txt (c.full.drop n)))) ∧ ∃ k, w' = w.drewN k := by
  have HO := hide (fun w h => over_any c w n s h)
  have HH := hide h
  by_cases hlt : n < c.full.length
  · obtain ⟨t, ht, hd⟩ := drop_cons c.full n hlt
    obtain ⟨ha, _⟩ := h.ne (fun e => by rw [e] at hlt; simp at hlt)
    have hE : (c.full.drop n).isEmpty = false := by rw [hd]; rfl
    have HE := hide hE
    have HP : Hid (Sx.txt (c.full.drop n) = t.text) := by rw [hd]; rfl
    obtain ⟨_, _, k1, _, _⟩ := h.tk n t ht
    have c0 := h.c0
    have c1 := h.c1
    clear h hE hd ht
    rw [ha] at c0
    clear ha
    go_enter Tryz.func146, Tryz.ntmps146
    go_wp2_with fail
    refine (HO.out _ HH.out).mono ?_
    rintro e w1 ⟨rfl, k, rfl⟩
    rw [HE.out]
    go_wp2
    go_quiet (fail)
    go_wp2
    go_ret
    rw [HP.out]
    exact ⟨rfl, _, drew2 _ _ _⟩
  · have hd := drop_last c.full n h.hn hlt
    have hE : (c.full.drop n).isEmpty = true := by rw [hd]; rfl
    have HE := hide hE
    have HP : Hid (Sx.txt (c.full.drop n) = []) := by rw [hd]; rfl
    clear h hE hd
    go_enter Tryz.func146, Tryz.ntmps146
    go_wp2_with fail
    refine (HO.out _ HH.out).mono ?_
    rintro e w1 ⟨rfl, k, rfl⟩
    rw [HE.out]
    go_wp2
    go_ret
    rw [HP.out]
    exact ⟨rfl, _, rfl⟩

theorem bs_eq (l : List UInt8) (x : ByteArray) : ((bs l).toList == x.toList) = decide (l = x.data.toList) := by
  rw [Lib.toList_data, Lib.toList_data, bs_list, Bool.eq_iff_iff]
  simp

set_option maxHeartbeats 400000 in
theorem sees_any (x : ByteArray) (c : Cx) (w : World) (n : Nat) (s : Sx.St) (h : RD c w n s) :
    Calls Tryz.prog 104 #[.pointer (some ⟨c.rb, 0, none⟩), .string x] w fun e w' => e = .returned (.bool (decide (Sx.txt (c.full.drop n) = x.data.toList))) ∧ ∃ k, w' = w.drewN k := by
  have HO := hide (text_any c w n s h)
  have HQ := hide (bs_eq (Sx.txt (c.full.drop n)) x)
  clear h
  generalize Sx.txt (c.full.drop n) = tx at *
  go_enter Tryz.func104, Tryz.ntmps104
  go_wp2_with fail
  refine HO.out.mono ?_
  rintro e w1 ⟨rfl, k, rfl⟩
  go_wp2
  go_ret
  rw [← HQ.out]
  exact ⟨rfl, _, rfl⟩

/-- What a reader gives up with. -/
def gv (code at' : Int) : List PanicEntry := [{ v := .iface 123 (.agg #[.int .i64 code, .int .i64 at']), recovered := false }]

set_option maxHeartbeats 400000 in
theorem fault_any (code : Int) (c : Cx) (w : World) (n : Nat) (s : Sx.St) (h : RD c w n s) :
    Calls Tryz.prog 105 #[.pointer (some ⟨c.rb, 0, none⟩), .int .i64 code] w fun e w' => e = .returned (.agg #[.int .i64 code, .int .i64 (Sx.place c.e (c.full.drop n))]) ∧ Below w.heap.size w w' := by
  have HO := hide (fun w h => at_any c w n s h)
  have HH := hide h
  clear h
  generalize Sx.place c.e (c.full.drop n) = p at *
  go_enter Tryz.func105, Tryz.ntmps105
  go_wp2_with fail
  refine (HO.out _ ?_).mono ?_
  · exact HH.out.keep (Kp.of_below (S := []) ((Below.refl _ _).alloc (Nat.le_refl _) _)) (by simp) (by simp)
  rintro e w1 ⟨rfl, k, rfl⟩
  go_wp2
  refine bodyPost_ret (v := .agg #[.int .i64 code, .int .i64 p]) (by simp [results, Tryz.results105, go_sem]) rfl ⟨rfl, ?_⟩
  exact ((below_drewN ((Below.refl _ _).alloc (Nat.le_refl _) _) _).setCell (by simp) _).setCell (by simp) _

set_option maxHeartbeats 400000 in
theorem unfit_any (c : Cx) (w : World) (n : Nat) (s : Sx.St) (h : RD c w n s) :
    Calls Tryz.prog 167 #[.pointer (some ⟨c.rb, 0, none⟩)] w fun e w' => e = .returned (.agg #[.int .i64 (Sx.ucode (c.full.drop n)), .int .i64 (Sx.place c.e (c.full.drop n))]) ∧ Below w.heap.size w w' := by
  have HO := hide (fun w h => over_any c w n s h)
  have HF := hide (fun code w h => fault_any code c w n s h)
  have HH := hide h
  by_cases hlt : n < c.full.length
  · obtain ⟨t, ht, hd⟩ := drop_cons c.full n hlt
    have HE : Hid ((c.full.drop n).isEmpty = false) := by rw [hd]; rfl
    have HP : Hid (Sx.ucode (c.full.drop n) = 5) := by rw [hd]; rfl
    clear h hd ht
    generalize Sx.place c.e (c.full.drop n) = p at *
    go_enter Tryz.func167, Tryz.ntmps167
    go_wp2_with fail
    refine (HO.out _ ?_).mono ?_
    · exact HH.out.keep (Kp.of_below (S := []) ((Below.refl _ _).alloc (Nat.le_refl _) _)) (by simp) (by simp)
    rintro e w1 ⟨rfl, k, rfl⟩
    rw [HE.out]
    go_wp2_with fail
    refine (HF.out _ _ ?_).mono ?_
    · exact (HH.out.keep (Kp.of_below (S := []) ((Below.refl _ _).alloc (Nat.le_refl _) _)) (by simp) (by simp)).drewN k
    rintro e w2 ⟨rfl, hb⟩
    have hb' := hb
    simp at hb'
    have f0 := hb'.frozen (p := ⟨w.heap.size, 0, none⟩) (by simp)
    have f1 := hb'.frozen (p := ⟨w.heap.size, 1, none⟩) (by simp)
    have g0 := hb'.cell (p := ⟨w.heap.size, 0, none⟩) (by simp)
    have g1 := hb'.cell (p := ⟨w.heap.size, 1, none⟩) (by simp)
    simp [go_sem] at f0 f1 g0 g1
    go_wp2
    refine bodyPost_ret (v := .agg #[.int .i64 5, .int .i64 p]) (by simp [results, Tryz.results167, go_sem, g0, g1]) rfl ⟨by rw [HP.out], ?_⟩
    exact (((below_drewN ((Below.refl _ _).alloc (Nat.le_refl _) _) _).trans (hb.mono (by simp))).setCell (by simp) _).setCell (by simp) _
  · have hd := drop_last c.full n h.hn hlt
    have HE : Hid ((c.full.drop n).isEmpty = true) := by rw [hd]; rfl
    have HP : Hid (Sx.ucode (c.full.drop n) = 6) := by rw [hd]; rfl
    clear h hd
    generalize Sx.place c.e (c.full.drop n) = p at *
    go_enter Tryz.func167, Tryz.ntmps167
    go_wp2_with fail
    refine (HO.out _ ?_).mono ?_
    · exact HH.out.keep (Kp.of_below (S := []) ((Below.refl _ _).alloc (Nat.le_refl _) _)) (by simp) (by simp)
    rintro e w1 ⟨rfl, k, rfl⟩
    rw [HE.out]
    go_wp2_with fail
    refine (HF.out _ _ ?_).mono ?_
    · exact (HH.out.keep (Kp.of_below (S := []) ((Below.refl _ _).alloc (Nat.le_refl _) _)) (by simp) (by simp)).drewN k
    rintro e w2 ⟨rfl, hb⟩
    have hb' := hb
    simp at hb'
    have f0 := hb'.frozen (p := ⟨w.heap.size, 0, none⟩) (by simp)
    have f1 := hb'.frozen (p := ⟨w.heap.size, 1, none⟩) (by simp)
    have g0 := hb'.cell (p := ⟨w.heap.size, 0, none⟩) (by simp)
    have g1 := hb'.cell (p := ⟨w.heap.size, 1, none⟩) (by simp)
    simp [go_sem] at f0 f1 g0 g1
    go_wp2
    refine bodyPost_ret (v := .agg #[.int .i64 6, .int .i64 p]) (by simp [results, Tryz.results167, go_sem, g0, g1]) rfl ⟨by rw [HP.out], ?_⟩
    exact (((below_drewN ((Below.refl _ _).alloc (Nat.le_refl _) _) _).trans (hb.mono (by simp))).setCell (by simp) _).setCell (by simp) _
end Go.Proofs.YtfngmdebmedkjacGreatDoor
/- Contracts of the reader's small methods: what must stand there; the next token. -/
namespace Go.Proofs.YtfngmdebmedkjacGreatDoor
open Go.RowKit

/-- What a method leaves: what it read, and the reader further on; or what it gives up with. -/
def Post {α : Type} (c : Cx) (S : List Nat) (w : World) (enc : World → α → Value → Prop) (r : Sx.Rs α) (e : Ending) (w' : World) : Prop := match r with
  | .inl (x, s, ts) => ∃ v n, e = .returned v ∧ enc w' x v ∧ ts = c.full.drop n ∧ RD c w' n s ∧ Kp S w w'
  | .inr (code, p, _) => e = .panicked (gv code p) ∧ Kp S w w'
def encU (_ : World) (_ : Unit) (v : Value) : Prop := v = .tuple #[]
def encT (_ : World) (x : List UInt8) (v : Value) : Prop := v = .string (bs x)
def encN (_ : World) (x : Int) (v : Value) : Prop := v = .int .i64 x

theorem cell_off (w : World) (b o o' : Nat) (v : Value) (h : o ≠ o') : (w.setCell ⟨b, o, none⟩ v).cell? ⟨b, o', none⟩ = w.cell? ⟨b, o', none⟩ := by
  refine World.cell?_setCell_other _ _ _ _ (fun he => h ?_)
  injection he

theorem RD.step {c : Cx} {w : World} {n : Nat} {s : Sx.St} (h : RD c w n s) (hlt : n < c.full.length) : RD c (w.setCell ⟨c.rb, 1, none⟩ (.int .i64 ((n : Int) + 1))) (n + 1) s :=
  { h with
    rlt := by simpa [World.setCell] using h.rlt
    c0 := (cell_off _ _ _ _ _ (by decide)).trans h.c0
    c1 := by rw [World.cell?_setCell_same (h := h.c1)]; simp
    c2 := (cell_off _ _ _ _ _ (by decide)).trans h.c2
    c3 := (cell_off _ _ _ _ _ (by decide)).trans h.c3
    c4 := (cell_off _ _ _ _ _ (by decide)).trans h.c4
    c5 := (cell_off _ _ _ _ _ (by decide)).trans h.c5
    c6 := (cell_off _ _ _ _ _ (by decide)).trans h.c6
    hn := hlt
    b6 := by have := h.b6; omega
    fz := fun o => by simpa using h.fz o
    tk := fun i t ht => by
      obtain ⟨h1, h2, h3, h4, h5⟩ := h.tk i t ht
      have hne := (h.ne (fun e => by rw [e] at ht; simp at ht)).2
      exact ⟨(World.cell?_setCell_far _ _ _ _ hne.symm).trans h1, (World.cell?_setCell_far _ _ _ _ hne.symm).trans h2, (World.cell?_setCell_far _ _ _ _ hne.symm).trans h3, (World.cell?_setCell_far _ _ _ _ hne.symm).trans h4, h5⟩ }
theorem RD.stmt {c : Cx} {w : World} {n : Nat} {s : Sx.St} (h : RD c w n s) (hlt : s.stmts < 300) : RD c (w.setCell ⟨c.rb, 3, none⟩ (.int .i64 ((s.stmts : Int) + 1))) n s.stmt :=
  { h with
    rlt := by simpa [World.setCell] using h.rlt
    c0 := (cell_off _ _ _ _ _ (by decide)).trans h.c0
    c1 := (cell_off _ _ _ _ _ (by decide)).trans h.c1
    c2 := (cell_off _ _ _ _ _ (by decide)).trans h.c2
    c3 := by rw [World.cell?_setCell_same (h := h.c3)]; simp [Sx.St.stmt]
    c4 := (cell_off _ _ _ _ _ (by decide)).trans h.c4
    c5 := (cell_off _ _ _ _ _ (by decide)).trans h.c5
    c6 := (cell_off _ _ _ _ _ (by decide)).trans h.c6
    b3 := hlt
    fz := fun o => by simpa using h.fz o
    tk := fun i t ht => by
      obtain ⟨h1, h2, h3, h4, h5⟩ := h.tk i t ht
      have hne := (h.ne (fun e => by rw [e] at ht; simp at ht)).2
      exact ⟨(World.cell?_setCell_far _ _ _ _ hne.symm).trans h1, (World.cell?_setCell_far _ _ _ _ hne.symm).trans h2, (World.cell?_setCell_far _ _ _ _ hne.symm).trans h3, (World.cell?_setCell_far _ _ _ _ hne.symm).trans h4, h5⟩ }
theorem RD.up {c : Cx} {w : World} {n : Nat} {s : Sx.St} (h : RD c w n s) (hlt : s.dep < 8) : RD c (w.setCell ⟨c.rb, 4, none⟩ (.int .i64 ((s.dep : Int) + 1))) n s.up :=
  { h with
    rlt := by simpa [World.setCell] using h.rlt
    c0 := (cell_off _ _ _ _ _ (by decide)).trans h.c0
    c1 := (cell_off _ _ _ _ _ (by decide)).trans h.c1
    c2 := (cell_off _ _ _ _ _ (by decide)).trans h.c2
    c3 := (cell_off _ _ _ _ _ (by decide)).trans h.c3
    c4 := by rw [World.cell?_setCell_same (h := h.c4)]; simp [Sx.St.up]
    c5 := (cell_off _ _ _ _ _ (by decide)).trans h.c5
    c6 := (cell_off _ _ _ _ _ (by decide)).trans h.c6
    b4 := hlt
    fz := fun o => by simpa using h.fz o
    tk := fun i t ht => by
      obtain ⟨h1, h2, h3, h4, h5⟩ := h.tk i t ht
      have hne := (h.ne (fun e => by rw [e] at ht; simp at ht)).2
      exact ⟨(World.cell?_setCell_far _ _ _ _ hne.symm).trans h1, (World.cell?_setCell_far _ _ _ _ hne.symm).trans h2, (World.cell?_setCell_far _ _ _ _ hne.symm).trans h3, (World.cell?_setCell_far _ _ _ _ hne.symm).trans h4, h5⟩ }
theorem RD.down {c : Cx} {w : World} {n : Nat} {s : Sx.St} (h : RD c w n s) (hlt : 0 < s.dep) : RD c (w.setCell ⟨c.rb, 4, none⟩ (.int .i64 ((s.dep : Int) - 1))) n s.down :=
  { h with
    rlt := by simpa [World.setCell] using h.rlt
    c0 := (cell_off _ _ _ _ _ (by decide)).trans h.c0
    c1 := (cell_off _ _ _ _ _ (by decide)).trans h.c1
    c2 := (cell_off _ _ _ _ _ (by decide)).trans h.c2
    c3 := (cell_off _ _ _ _ _ (by decide)).trans h.c3
    c4 := by rw [World.cell?_setCell_same (h := h.c4)]; simp only [Sx.St.down]; rw [show ((s.dep : Int) - 1) = ((s.dep - 1 : Nat) : Int) from by omega]
    c5 := (cell_off _ _ _ _ _ (by decide)).trans h.c5
    c6 := (cell_off _ _ _ _ _ (by decide)).trans h.c6
    b4 := by have := h.b4; simp only [Sx.St.down]; omega
    fz := fun o => by simpa using h.fz o
    tk := fun i t ht => by
      obtain ⟨h1, h2, h3, h4, h5⟩ := h.tk i t ht
      have hne := (h.ne (fun e => by rw [e] at ht; simp at ht)).2
      exact ⟨(World.cell?_setCell_far _ _ _ _ hne.symm).trans h1, (World.cell?_setCell_far _ _ _ _ hne.symm).trans h2, (World.cell?_setCell_far _ _ _ _ hne.symm).trans h3, (World.cell?_setCell_far _ _ _ _ hne.symm).trans h4, h5⟩ }
theorem RD.ent {c : Cx} {w : World} {n : Nat} {s : Sx.St} (h : RD c w n s) (hlt : s.opn < 60) : RD c (w.setCell ⟨c.rb, 5, none⟩ (.int .i64 ((s.opn : Int) + 1))) n { s with opn := s.opn + 1 } :=
  { h with
    rlt := by simpa [World.setCell] using h.rlt
    c0 := (cell_off _ _ _ _ _ (by decide)).trans h.c0
    c1 := (cell_off _ _ _ _ _ (by decide)).trans h.c1
    c2 := (cell_off _ _ _ _ _ (by decide)).trans h.c2
    c3 := (cell_off _ _ _ _ _ (by decide)).trans h.c3
    c4 := (cell_off _ _ _ _ _ (by decide)).trans h.c4
    c5 := by rw [World.cell?_setCell_same (h := h.c5)]; simp
    c6 := (cell_off _ _ _ _ _ (by decide)).trans h.c6
    b5 := hlt
    fz := fun o => by simpa using h.fz o
    tk := fun i t ht => by
      obtain ⟨h1, h2, h3, h4, h5⟩ := h.tk i t ht
      have hne := (h.ne (fun e => by rw [e] at ht; simp at ht)).2
      exact ⟨(World.cell?_setCell_far _ _ _ _ hne.symm).trans h1, (World.cell?_setCell_far _ _ _ _ hne.symm).trans h2, (World.cell?_setCell_far _ _ _ _ hne.symm).trans h3, (World.cell?_setCell_far _ _ _ _ hne.symm).trans h4, h5⟩ }
theorem RD.shut {c : Cx} {w : World} {n : Nat} {s : Sx.St} (h : RD c w n s) (hlt : 0 < s.opn) : RD c (w.setCell ⟨c.rb, 5, none⟩ (.int .i64 ((s.opn : Int) - 1))) n s.shut :=
  { h with
    rlt := by simpa [World.setCell] using h.rlt
    c0 := (cell_off _ _ _ _ _ (by decide)).trans h.c0
    c1 := (cell_off _ _ _ _ _ (by decide)).trans h.c1
    c2 := (cell_off _ _ _ _ _ (by decide)).trans h.c2
    c3 := (cell_off _ _ _ _ _ (by decide)).trans h.c3
    c4 := (cell_off _ _ _ _ _ (by decide)).trans h.c4
    c5 := by rw [World.cell?_setCell_same (h := h.c5)]; simp only [Sx.St.shut]; rw [show ((s.opn : Int) - 1) = ((s.opn - 1 : Nat) : Int) from by omega]
    c6 := (cell_off _ _ _ _ _ (by decide)).trans h.c6
    b5 := by have := h.b5; simp only [Sx.St.shut]; omega
    fz := fun o => by simpa using h.fz o
    tk := fun i t ht => by
      obtain ⟨h1, h2, h3, h4, h5⟩ := h.tk i t ht
      have hne := (h.ne (fun e => by rw [e] at ht; simp at ht)).2
      exact ⟨(World.cell?_setCell_far _ _ _ _ hne.symm).trans h1, (World.cell?_setCell_far _ _ _ _ hne.symm).trans h2, (World.cell?_setCell_far _ _ _ _ hne.symm).trans h3, (World.cell?_setCell_far _ _ _ _ hne.symm).trans h4, h5⟩ }
theorem RD.part {c : Cx} {w : World} {n : Nat} {s : Sx.St} (h : RD c w n s) (hlt : s.parts + 1 + (c.full.length - n) ≤ 12000) : RD c (w.setCell ⟨c.rb, 6, none⟩ (.int .i64 ((s.parts : Int) + 1))) n s.part :=
  { h with
    rlt := by simpa [World.setCell] using h.rlt
    c0 := (cell_off _ _ _ _ _ (by decide)).trans h.c0
    c1 := (cell_off _ _ _ _ _ (by decide)).trans h.c1
    c2 := (cell_off _ _ _ _ _ (by decide)).trans h.c2
    c3 := (cell_off _ _ _ _ _ (by decide)).trans h.c3
    c4 := (cell_off _ _ _ _ _ (by decide)).trans h.c4
    c5 := (cell_off _ _ _ _ _ (by decide)).trans h.c5
    c6 := by rw [World.cell?_setCell_same (h := h.c6)]; simp [Sx.St.part]
    b6 := hlt
    fz := fun o => by simpa using h.fz o
    tk := fun i t ht => by
      obtain ⟨h1, h2, h3, h4, h5⟩ := h.tk i t ht
      have hne := (h.ne (fun e => by rw [e] at ht; simp at ht)).2
      exact ⟨(World.cell?_setCell_far _ _ _ _ hne.symm).trans h1, (World.cell?_setCell_far _ _ _ _ hne.symm).trans h2, (World.cell?_setCell_far _ _ _ _ hne.symm).trans h3, (World.cell?_setCell_far _ _ _ _ hne.symm).trans h4, h5⟩ }

/-- The reader's blocks lie below B. -/
def Cx.below (c : Cx) (B : Nat) : Prop := c.rb < B ∧ (c.full ≠ [] → c.tb < B)
theorem RD.lt {c : Cx} {w : World} {n : Nat} {s : Sx.St} (h : RD c w n s) : c.below w.heap.size := ⟨h.rlt, fun hne => by
  obtain ⟨t, ht⟩ : ∃ t, c.full[0]? = some t := by
    cases hf : c.full with
    | nil => exact absurd hf hne
    | cons a l => exact ⟨a, by simp⟩
  exact World.block_lt_of_cell? w _ (h.tk 0 t ht).1⟩
theorem RD.set_new {c : Cx} {w : World} {n : Nat} {s : Sx.St} {B : Nat} (h : RD c w n s) (hB : c.below B) {p : Addr} (hp : B ≤ p.block) (v : Value) : RD c (w.setCell p v) n s :=
  h.keep (S := [p.block]) ((Kp.refl _ _).setCell (by simp) _) (by simp; have := hB.1; omega) (fun hne => by simp; have := hB.2 hne; omega)
theorem RD.alloc {c : Cx} {w : World} {n : Nat} {s : Sx.St} (h : RD c w n s) (o : Obj) : RD c (w.alloc o) n s := h.keep (S := []) ((Kp.refl _ _).alloc _) (by simp) (by simp)
theorem RD.drew {c : Cx} {w : World} {n : Nat} {s : Sx.St} (h : RD c w n s) : RD c w.drew n s := h.keep (S := []) ((Kp.refl _ _).drew) (by simp) (by simp)
theorem RD.below {c : Cx} {w w' : World} {n : Nat} {s : Sx.St} (h : RD c w n s) (hb : Below w.heap.size w w') : RD c w' n s := h.keep (S := []) (Kp.of_below hb) (by simp) (by simp)
end Go.Proofs.YtfngmdebmedkjacGreatDoor
