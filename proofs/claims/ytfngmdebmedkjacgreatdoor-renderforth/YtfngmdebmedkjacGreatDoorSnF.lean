import Derived.Test.YtfngmdebmedkjacGreatDoorSnE
/- Types, words of statements, a lone expression. -/
namespace Go.Proofs.YtfngmdebmedkjacGreatDoor
open Go.RowKit

theorem ty_eq (e : Nat) (acc : List UInt8) (s : Sx.St) (ts : List Tk.Tok) : Sx.ty e acc s ts =
    if Sx.txt ts = Sx.wSend ∨ Sx.txt ts = Sx.wRecv then (if acc.length = 3 then Sx.bad 7 e ts else Sx.ty e (acc ++ (Sx.txt ts).take 1) s ts.tail) else Sx.bnd (Sx.skp e Sx.wInt s ts) fun _ s r => .inl (acc ++ [105], s, r) := by
  cases ts with
  | nil => rfl
  | cons t r => rfl

theorem bs_snoc (l : List UInt8) (b : UInt8) : bs l ++ (⟨#[b]⟩ : ByteArray) = bs (l ++ [b]) := by
  apply ByteArray.ext
  rw [ByteArray.data_append]
  simp [bs]

theorem text_is {c : Cx} {w : World} {n : Nat} {s : Sx.St} (x : ByteArray) (hx : Sx.txt (c.full.drop n) = x.data.toList) (h : RD c w n s) :
    Calls Tryz.prog 146 #[.pointer (some ⟨c.rb, 0, none⟩)] w fun e w' => e = .returned (.string x) ∧ ∃ k, w' = w.drewN k := by
  have := text_any c w n s h
  rw [hx, show bs x.data.toList = x from by simp [bs]] at this
  exact this

set_option maxRecDepth 100000 in
set_option maxHeartbeats 2000000 in
theorem typeText_any (c : Cx) (w : World) (n : Nat) (s : Sx.St) (h : RD c w n s) :
    Calls Tryz.prog 144 #[.pointer (some ⟨c.rb, 0, none⟩)] w (Post c [c.rb] w encT (Sx.ty c.e [] s (c.full.drop n))) := by
  have HH := hide h
  clear h
  go_enter Tryz.func144, Tryz.ntmps144
  go_wp2
  go_loopw [3] (fun t wr => ∃ (acc : List UInt8) (n2 : Nat) (ba : ByteArray), t = .string ba ∧ Hid (ba = bs acc) ∧ acc.length ≤ 3 ∧ Hid (Sx.ty c.e [] s (c.full.drop n) = Sx.ty c.e acc s (c.full.drop n2)) ∧ RD c wr n2 s ∧ Kp [c.rb] w wr) (fun _ wr => c.full.length - nextOf c wr)
  case atStart => exact ⟨[], n, _, rfl, rfl, by simp, rfl, HH.out, Kp.refl _ _⟩
  case round =>
    obtain ⟨acc, n2, ba, rfl, HBA, hacc, HP, hd, hk⟩ := hrel
    have HD := hide hd
    have HK := hide hk
    have HE := hide (ty_eq c.e acc s (c.full.drop n2))
    have hsz : ba.size = acc.length := by rw [HBA.out, Lib.size_eq, bs_list]
    have HSZ := hide hsz
    clear hd hk hsz
    by_cases hs : Sx.txt (c.full.drop n2) = Sx.wSend
    · have hlt : n2 < c.full.length := txt_lt hs (by simp [Sx.wSend])
      have c1 := HD.out.c1
      have f1 := HD.out.fz 1
      have hm := HD.out.hm
      by_cases h3 : acc.length = 3
      · have HX : Hid (Sx.ty c.e acc s (c.full.drop n2) = .inr (7, Sx.place c.e (c.full.drop n2), c.full.drop n2)) := by
          show _ = _
          rw [HE.out, if_pos (.inl hs), if_pos h3]; rfl
        have hb3 : ba.size = 3 := by rw [HSZ.out, h3]
        have HS := hide hs
        clear hs h3
        go_wp2_with fail
        refine (sees_yes ⟨#[115, 101, 110, 100]⟩ HS.out (by exact HD.out)).mono ?_
        rintro e w2 ⟨rfl, k1, rfl⟩
        go_wp2_with fail
        refine (fault_any 7 c _ n2 s (by exact HD.out.drewN _)).mono ?_
        rintro e w3 ⟨rfl, hb⟩
        go_wp2
        rw [HP.out, HX.out]
        exact ⟨rfl, rfl, (HK.out.drewN _).trans (Kp.of_below hb)⟩
      · have HX : Hid (Sx.ty c.e acc s (c.full.drop n2) = Sx.ty c.e (acc ++ [115]) s (c.full.drop (n2 + 1))) := by
          show _ = _
          rw [HE.out, if_pos (.inl hs), if_neg h3, hs, List.tail_drop]; rfl
        have hb3 : ((ba.size : Int) == 3) = false := by rw [HSZ.out]; simp; omega
        have hb4 : ba.size ≤ 3 := by rw [HSZ.out]; exact hacc
        have hex : (⟨#[115, 101, 110, 100]⟩ : ByteArray).extract 0 1 = ⟨#[115]⟩ := by rfl
        have HCC : Hid (ba ++ (⟨#[115]⟩ : ByteArray) = bs (acc ++ [115])) := by
          show _ = _
          rw [HBA.out]
          exact bs_snoc _ _
        have HS := hide hs
        clear hs
        go_wp2_with fail
        refine (sees_yes ⟨#[115, 101, 110, 100]⟩ HS.out (by exact HD.out)).mono ?_
        rintro e w2 ⟨rfl, k1, rfl⟩
        go_wp2_with fail
        refine (text_is ⟨#[115, 101, 110, 100]⟩ HS.out (by exact HD.out.drewN _)).mono ?_
        rintro e w2 ⟨rfl, k2, rfl⟩
        go_wp2
        have hd9 := (HD.out.drewN (k1 + k2)).step hlt
        refine ⟨⟨acc ++ [115], n2 + 1, _, rfl, HCC.out, by simp; omega, HP.out.trans HX.out, hd9, Kp.rb (HK.out.drewN _) _ _⟩, ?_⟩
        rw [hd9.nx, HD.out.nx]
        omega
    · have HS0 := hide hs
      clear hs
      by_cases hs : Sx.txt (c.full.drop n2) = Sx.wRecv
      · have hlt : n2 < c.full.length := txt_lt hs (by simp [Sx.wRecv])
        have c1 := HD.out.c1
        have f1 := HD.out.fz 1
        have hm := HD.out.hm
        by_cases h3 : acc.length = 3
        · have HX : Hid (Sx.ty c.e acc s (c.full.drop n2) = .inr (7, Sx.place c.e (c.full.drop n2), c.full.drop n2)) := by
            show _ = _
            rw [HE.out, if_pos (.inr hs), if_pos h3]; rfl
          have hb3 : ba.size = 3 := by rw [HSZ.out, h3]
          have HS := hide hs
          clear hs h3
          go_wp2_with fail
          refine (sees_no ⟨#[115, 101, 110, 100]⟩ HS0.out HD.out).mono ?_
          rintro e w2 ⟨rfl, k9, rfl⟩
          go_wp2_with fail
          refine (sees_yes ⟨#[114, 101, 99, 118]⟩ HS.out (by exact HD.out.drewN _)).mono ?_
          rintro e w2 ⟨rfl, k1, rfl⟩
          go_wp2_with fail
          refine (fault_any 7 c _ n2 s (by exact HD.out.drewN _)).mono ?_
          rintro e w3 ⟨rfl, hb⟩
          go_wp2
          rw [HP.out, HX.out]
          exact ⟨rfl, rfl, (HK.out.drewN _).trans (Kp.of_below hb)⟩
        · have HX : Hid (Sx.ty c.e acc s (c.full.drop n2) = Sx.ty c.e (acc ++ [114]) s (c.full.drop (n2 + 1))) := by
            show _ = _
            rw [HE.out, if_pos (.inr hs), if_neg h3, hs, List.tail_drop]; rfl
          have hb3 : ((ba.size : Int) == 3) = false := by rw [HSZ.out]; simp; omega
          have hb4 : ba.size ≤ 3 := by rw [HSZ.out]; exact hacc
          have hex : (⟨#[114, 101, 99, 118]⟩ : ByteArray).extract 0 1 = ⟨#[114]⟩ := by rfl
          have HCC : Hid (ba ++ (⟨#[114]⟩ : ByteArray) = bs (acc ++ [114])) := by
            show _ = _
            rw [HBA.out]
            exact bs_snoc _ _
          have HS := hide hs
          clear hs
          go_wp2_with fail
          refine (sees_no ⟨#[115, 101, 110, 100]⟩ HS0.out HD.out).mono ?_
          rintro e w2 ⟨rfl, k9, rfl⟩
          go_wp2_with fail
          refine (sees_yes ⟨#[114, 101, 99, 118]⟩ HS.out (by exact HD.out.drewN _)).mono ?_
          rintro e w2 ⟨rfl, k1, rfl⟩
          go_wp2_with fail
          refine (text_is ⟨#[114, 101, 99, 118]⟩ HS.out (by exact HD.out.drewN _)).mono ?_
          rintro e w2 ⟨rfl, k2, rfl⟩
          go_wp2
          have hd9 := (HD.out.drewN (k9 + k1 + k2)).step hlt
          refine ⟨⟨acc ++ [114], n2 + 1, _, rfl, HCC.out, by simp; omega, HP.out.trans HX.out, hd9, Kp.rb (HK.out.drewN _) _ _⟩, ?_⟩
          rw [hd9.nx, HD.out.nx]
          omega
      · have HX : Hid (Sx.ty c.e acc s (c.full.drop n2) = Sx.bnd (Sx.skp c.e Sx.wInt s (c.full.drop n2)) fun _ s r => .inl (acc ++ [105], s, r)) := by
          show _ = _
          rw [HE.out, if_neg (fun h => h.elim HS0.out hs)]
        have hb4 : ba.size ≤ 3 := by rw [HSZ.out]; exact hacc
        have HCC : Hid (ba ++ (⟨#[105]⟩ : ByteArray) = bs (acc ++ [105])) := by
          show _ = _
          rw [HBA.out]
          exact bs_snoc _ _
        have HS := hide hs
        clear hs
        go_wp2_with fail
        refine (sees_no ⟨#[115, 101, 110, 100]⟩ HS0.out HD.out).mono ?_
        rintro e w2 ⟨rfl, k9, rfl⟩
        go_wp2_with fail
        refine (sees_no ⟨#[114, 101, 99, 118]⟩ HS.out (by exact HD.out.drewN _)).mono ?_
        rintro e w2 ⟨rfl, k1, rfl⟩
        go_wp2_with fail
        refine (skip_any ⟨#[105, 110, 116]⟩ (by simp) c _ n2 s (by exact HD.out.drewN _)).mono ?_
        intro e w3 hp
        rw [show (⟨#[105, 110, 116]⟩ : ByteArray).data.toList = Sx.wInt from rfl] at hp
        rcases hm : Sx.skp c.e Sx.wInt s (c.full.drop n2) with ⟨u, s3, r3⟩ | ⟨code, p, rest⟩
        · rw [hm] at hp
          obtain ⟨v3, n3, rfl, hv3, hr3, hd3, hk3⟩ := hp
          have HM := hide hm
          have HR3 := hide hr3
          have HD3 := hide hd3
          have HK3 := hide hk3
          clear hm hr3 hd3 hk3 hv3
          go_wp2
          go_ret
          rw [HP.out, HX.out, HM.out, HR3.out]
          exact ⟨_, n3, rfl, congrArg Value.string HCC.out, rfl, HD3.out, (HK.out.drewN _).trans HK3.out⟩
        · rw [hm] at hp
          obtain ⟨rfl, hk3⟩ := hp
          refine ⟨rfl, ?_⟩
          rw [HP.out, HX.out, hm]
          exact ⟨rfl, (HK.out.drewN _).trans hk3⟩
end Go.Proofs.YtfngmdebmedkjacGreatDoor
/- Words of statements; a lone expression. -/
namespace Go.Proofs.YtfngmdebmedkjacGreatDoor
open Go.RowKit

theorem doOf_none (x : List UInt8) (h : x ∉ Sx.dos) : Sx.doOf x = 0 := by
  have h1 : Sx.dos.idxOf x = Sx.dos.length := List.idxOf_eq_length h
  unfold Sx.doOf
  rw [h1]
  rfl
theorem ret_int {k : IntKind} {a b : Int} (h : a = b) : Ending.returned (.int k a) = .returned (.int k b) := by rw [h]
set_option maxRecDepth 100000 in
set_option maxHeartbeats 1000000 in
theorem doOf_any (x : ByteArray) (w : World) :
    Calls Tryz.prog 189 #[.string x] w fun e w' => e = .returned (.int .i64 (Sx.doOf x.data.toList)) ∧ w' = w := by
  rw [← Lib.toList_data]
  go_enter Tryz.func189, Tryz.ntmps189
  go_wp2
  all_goals
    go_ret
    refine ⟨ret_int ?_, rfl⟩
    first
    | (simp_all [Sx.doOf, Sx.dos, List.idxOf_cons]; done)
    | (rw [doOf_none _ (by simp_all [Sx.dos])]; rfl)
set_option maxRecDepth 100000 in
set_option maxHeartbeats 1000000 in
theorem exprs_any (f : Nat) (c : Cx) (w : World) (n : Nat) (s : Sx.St) (h : RD c w n s) (hf : ¬ Dry (Sx.pe c.e f 0 Sx.d0 s (c.full.drop n))) :
    Calls Tryz.prog 205 #[.pointer (some ⟨c.rb, 0, none⟩)] w (Post c [c.rb] w (fun w' l v => ∃ k, EL w' (fun b => w.heap.size ≤ b) k l v) (Sx.bnd (Sx.pe c.e f 0 Sx.d0 s (c.full.drop n)) fun x s r => .inl ([x], s, r))) := by
  have HC := hide ((pe_any f).1 c w n s h hf)
  clear h hf
  generalize Sx.pe c.e f 0 Sx.d0 s (c.full.drop n) = m at *
  go_enter Tryz.func205, Tryz.ntmps205
  go_wp2_with fail
  refine HC.out.mono ?_
  intro e w1 hp
  rcases m with ⟨x, s1, r1⟩ | ⟨code, p, rest⟩
  · obtain ⟨v, n1, rfl, hv, hr, hd, hk⟩ := hp
    obtain ⟨f1, op1, nm1, k1, L1, a1, len1, cap1, hl1, hx1, rfl, hE1⟩ := hv.open
    have HR := hide hr
    have HD := hide hd
    have HK := hide hk
    have HE1 := hide hE1
    have HX1 := hide hx1
    clear hr hd hk hE1 hx1 hl1 hv
    generalize hb : bs nm1 = bn1 at *
    have HBN := hide hb
    clear hb
    go_wp2
    go_ret
    refine ⟨_, n1, rfl, ⟨f1 + 1, ?_⟩, HR.out, HD.out.alloc _, HK.out.alloc _⟩
    rw [HX1.out]
    have X := X4.new w1 (.int .i64 op1) (.string bn1) (.int .i64 k1) (.slice a1 len1 cap1) 137
    exact EL.one HK.out.size X.c0 (by rw [HBN.out]; exact X.c1) X.c2 X.c3 (HE1.out.keep ((Kp.refl [] _).alloc _) (by simp))
  · obtain ⟨rfl, hk⟩ := hp
    exact ⟨rfl, rfl, hk⟩
end Go.Proofs.YtfngmdebmedkjacGreatDoor
