import Derived.Test.YtcdcoiobpbdmpaaGreatDoorMan
namespace Go.Proofs.YtcdcoiobpbdmpaaGreatDoor
open Go.RowKit
set_option maxRecDepth 100000 in
set_option maxHeartbeats 4000000 in
theorem stmtA_any (n:Nat) {C:MC} {m:MA} {s s':Lw.St} {bk:Int} {w:World} (P:Nat→Prop) (ax:Int) (A B T:List UInt8) (N:Int) (E body els:List Sx.Tr) (aE aB aL:Option Addr) (cE cB cL:Nat) (h:MK C m s bk ax w) (hE:EL w P (n+1) E (.slice aE E.length cE)) (hw:Sx.wE (n+1) E≤1000000)
  (hs:Lw.put s bk ax ⟨1,(Cd.nmb s.vs (bs A)),0,0,0,⟨#[]⟩,(Lw.stps s.vs (n+1) E),[],0,0,0⟩=some s'):
  Calls Tryz.prog 45 #[.pointer (some ⟨C.g,0,none⟩),.agg #[.int .i64 1,.int .i64 ax,.string (bs A),.string (bs B),.string (bs T),.int .i64 N,.slice aE E.length cE,.slice aB body.length cB,.slice aL els.length cL]] w fun e w'=>e= .returned (.tuple #[])∧ ∃ m',MK C m' s' bk ax w'∧MS C.g m w m' w':=by
 have HM:=hide h
 have HEL:=hide hE
 have HSS:=hide hs
 have HB0:Hid (Below w.heap.size w (w.alloc (.cells #[.int .i64 1,.int .i64 ax,.string (bs A),.string (bs B),.string (bs T),.int .i64 N,.slice aE E.length cE,.slice aB body.length cB,.slice aL els.length cL] 75))):=hide ((Below.refl _ _).alloc (Nat.le_refl _) _)
 clear h hE hs
 go_enter Tryz.func45,Tryz.ntmps45
 go_wp2
 obtain ⟨W,hW⟩: ∃ W,w.alloc (.cells #[.int .i64 1,.int .i64 ax,.string (bs A),.string (bs B),.string (bs T),.int .i64 N,.slice aE E.length cE,.slice aB body.length cB,.slice aL els.length cL] 75)=W:=⟨_,rfl⟩
 have HJ:Hid (∀ w',Below W.heap.size W w'→w'.cell? ⟨w.heap.size,2,none⟩=some (.string (bs A))∧w'.cell? ⟨w.heap.size,6,none⟩=some (.slice aE E.length cE)):=hide (fun w' hb=>⟨bsome hb (by rw [←hW];simp [go_sem]),bsome hb (by rw [←hW];simp [go_sem])⟩)
 have nbx: ¬ m.mut C.g w.heap.size:=HM.out.new (Nat.le_refl _)
 rw [hW] at HB0 ⊢
 clear hW
 have kc:Hid (Below W.heap.size W W.drew):=hide (below_drewN (Below.refl _ _) 1)
 obtain ⟨k2,k6⟩:=HJ.out W (Below.refl _ _)
 have HPU:=hide (fun w1 (hb:Below W.heap.size W w1) (ae:Option Addr) (ce:Nat) (her:ERn w1 (fun j=>j<w1.heap.size∧ ¬ m.mut C.g j∧ ¬ C.J j) (.slice ae (Lw.stps s.vs (n+1) E).length ce) (Lw.stps s.vs (n+1) E))=>mput2_any HM.out ⟨1,(Cd.nmb s.vs (bs A)),0,0,0,⟨#[]⟩,(Lw.stps s.vs (n+1) E),[],0,0,0⟩ HSS.out w1 (btrans HB0.out hb) ae ce none 0 her (AGn.nil _ _))
 unfold IV at HPU
 dsimp only at HPU
 (try simp only [List.length_nil] at HPU)
 have HNA:=hide (fun w1 (hb:Below W.heap.size W w1)=>mnum_any HM.out (bs A) w1 (btrans HB0.out hb))
 have HST:=hide (fun w1 (hb:Below W.heap.size W w1)=>msteps_any HM.out P (n+1) E _ HEL.out hw w1 (btrans HB0.out hb))
 unfold MsP at HST
 go_region_held3 (fun w'=>w'.cell? ⟨w.heap.size,2,none⟩=some (.string (bs A))∧w'.cell? ⟨w.heap.size,6,none⟩=some (.slice aE E.length cE)) ((first|exact ⟨by assumption,by assumption⟩|go_keep)) ((first
  |(go_at_call 30;with_reducible refine (HPU.out _ (by exact kc.out) _ _ (by exact HR.out)).mono ?_;rintro e w9 ⟨rfl,m9,hm9,hs9,hc9⟩;have HM9:=hide hm9;have HS9:=hide hs9;have k2:=hc9 _ _ k2 nbx;have k6:=hc9 _ _ k6 nbx;clear hm9 hs9 hc9)
  |(go_at_call 47;with_reducible refine (HNA.out _ (by exact kc.out)).mono ?_;rintro e wq ⟨rfl,hbq⟩;have kd:=hide (btrans kc.out hbq);clear kc;have kc:=kd;clear kd;(try (have HRQ:=hide (HR.out.below hbq);clear HR;have HR:=HRQ;clear HRQ));clear hbq;obtain ⟨k2,k6⟩:=HJ.out _ kc.out)
  |(go_at_call 74;with_reducible refine (HST.out _ (by exact kc.out)).mono ?_;rintro e wq ⟨u,rfl,ae,ce,rfl,her,hbq⟩;have kd:=hide (btrans kc.out hbq);clear kc;have kc:=kd;clear kd hbq;have HR:=hide her;clear her;obtain ⟨k2,k6⟩:=HJ.out _ kc.out)))
 all_goals
  go_wp2
  refine bodyPost_end (v:= .tuple #[]) (results_none rfl _ _ _) rfl ⟨rfl,m9,HM9.out,HS9.out⟩
set_option maxRecDepth 100000 in
set_option maxHeartbeats 4000000 in
theorem stmtB_any (n:Nat) {C:MC} {m:MA} {s s':Lw.St} {bk:Int} {w:World} (P:Nat→Prop) (ax:Int) (A B T:List UInt8) (N:Int) (E body els:List Sx.Tr) (aE aB aL:Option Addr) (cE cB cL:Nat) (h:MK C m s bk ax w) (hE:EL w P (n+1) E (.slice aE E.length cE)) (hw:Sx.wE (n+1) E≤1000000)
  (hs:Lw.put s bk ax ⟨1,(Cd.nmb s.vs (bs A)),0,0,0,⟨#[]⟩,(Lw.stps s.vs (n+1) E),[],0,0,0⟩=some s'):
  Calls Tryz.prog 45 #[.pointer (some ⟨C.g,0,none⟩),.agg #[.int .i64 2,.int .i64 ax,.string (bs A),.string (bs B),.string (bs T),.int .i64 N,.slice aE E.length cE,.slice aB body.length cB,.slice aL els.length cL]] w fun e w'=>e= .returned (.tuple #[])∧ ∃ m',MK C m' s' bk ax w'∧MS C.g m w m' w':=by
 have HM:=hide h
 have HEL:=hide hE
 have HSS:=hide hs
 have HB0:Hid (Below w.heap.size w (w.alloc (.cells #[.int .i64 2,.int .i64 ax,.string (bs A),.string (bs B),.string (bs T),.int .i64 N,.slice aE E.length cE,.slice aB body.length cB,.slice aL els.length cL] 75))):=hide ((Below.refl _ _).alloc (Nat.le_refl _) _)
 clear h hE hs
 go_enter Tryz.func45,Tryz.ntmps45
 go_wp2
 obtain ⟨W,hW⟩: ∃ W,w.alloc (.cells #[.int .i64 2,.int .i64 ax,.string (bs A),.string (bs B),.string (bs T),.int .i64 N,.slice aE E.length cE,.slice aB body.length cB,.slice aL els.length cL] 75)=W:=⟨_,rfl⟩
 have HJ:Hid (∀ w',Below W.heap.size W w'→w'.cell? ⟨w.heap.size,2,none⟩=some (.string (bs A))∧w'.cell? ⟨w.heap.size,6,none⟩=some (.slice aE E.length cE)):=hide (fun w' hb=>⟨bsome hb (by rw [←hW];simp [go_sem]),bsome hb (by rw [←hW];simp [go_sem])⟩)
 have nbx: ¬ m.mut C.g w.heap.size:=HM.out.new (Nat.le_refl _)
 rw [hW] at HB0 ⊢
 clear hW
 have kc:Hid (Below W.heap.size W W.drew):=hide (below_drewN (Below.refl _ _) 1)
 obtain ⟨k2,k6⟩:=HJ.out W (Below.refl _ _)
 have HPU:=hide (fun w1 (hb:Below W.heap.size W w1) (ae:Option Addr) (ce:Nat) (her:ERn w1 (fun j=>j<w1.heap.size∧ ¬ m.mut C.g j∧ ¬ C.J j) (.slice ae (Lw.stps s.vs (n+1) E).length ce) (Lw.stps s.vs (n+1) E))=>mput2_any HM.out ⟨1,(Cd.nmb s.vs (bs A)),0,0,0,⟨#[]⟩,(Lw.stps s.vs (n+1) E),[],0,0,0⟩ HSS.out w1 (btrans HB0.out hb) ae ce none 0 her (AGn.nil _ _))
 unfold IV at HPU
 dsimp only at HPU
 (try simp only [List.length_nil] at HPU)
 have HNA:=hide (fun w1 (hb:Below W.heap.size W w1)=>mnum_any HM.out (bs A) w1 (btrans HB0.out hb))
 have HST:=hide (fun w1 (hb:Below W.heap.size W w1)=>msteps_any HM.out P (n+1) E _ HEL.out hw w1 (btrans HB0.out hb))
 unfold MsP at HST
 go_region_held3 (fun w'=>w'.cell? ⟨w.heap.size,2,none⟩=some (.string (bs A))∧w'.cell? ⟨w.heap.size,6,none⟩=some (.slice aE E.length cE)) ((first|exact ⟨by assumption,by assumption⟩|go_keep)) ((first
  |(go_at_call 30;with_reducible refine (HPU.out _ (by exact kc.out) _ _ (by exact HR.out)).mono ?_;rintro e w9 ⟨rfl,m9,hm9,hs9,hc9⟩;have HM9:=hide hm9;have HS9:=hide hs9;have k2:=hc9 _ _ k2 nbx;have k6:=hc9 _ _ k6 nbx;clear hm9 hs9 hc9)
  |(go_at_call 47;with_reducible refine (HNA.out _ (by exact kc.out)).mono ?_;rintro e wq ⟨rfl,hbq⟩;have kd:=hide (btrans kc.out hbq);clear kc;have kc:=kd;clear kd;(try (have HRQ:=hide (HR.out.below hbq);clear HR;have HR:=HRQ;clear HRQ));clear hbq;obtain ⟨k2,k6⟩:=HJ.out _ kc.out)
  |(go_at_call 74;with_reducible refine (HST.out _ (by exact kc.out)).mono ?_;rintro e wq ⟨u,rfl,ae,ce,rfl,her,hbq⟩;have kd:=hide (btrans kc.out hbq);clear kc;have kc:=kd;clear kd hbq;have HR:=hide her;clear her;obtain ⟨k2,k6⟩:=HJ.out _ kc.out)))
 all_goals
  go_wp2
  refine bodyPost_end (v:= .tuple #[]) (results_none rfl _ _ _) rfl ⟨rfl,m9,HM9.out,HS9.out⟩
set_option maxRecDepth 100000 in
set_option maxHeartbeats 4000000 in
theorem stmtC_any (n:Nat) {C:MC} {m:MA} {s s':Lw.St} {bk:Int} {w:World} (P:Nat→Prop) (ax:Int) (A B T:List UInt8) (N:Int) (E body els:List Sx.Tr) (aE aB aL:Option Addr) (cE cB cL:Nat) (h:MK C m s bk ax w) (hE:EL w P (n+1) E (.slice aE E.length cE)) (hw:Sx.wE (n+1) E≤1000000)
  (hs:Lw.put s bk ax ⟨2,0,0,0,0,⟨#[]⟩,(Lw.stps s.vs (n+1) E),[],0,0,0⟩=some s'):
  Calls Tryz.prog 45 #[.pointer (some ⟨C.g,0,none⟩),.agg #[.int .i64 3,.int .i64 ax,.string (bs A),.string (bs B),.string (bs T),.int .i64 N,.slice aE E.length cE,.slice aB body.length cB,.slice aL els.length cL]] w fun e w'=>e= .returned (.tuple #[])∧ ∃ m',MK C m' s' bk ax w'∧MS C.g m w m' w':=by
 have HM:=hide h
 have HEL:=hide hE
 have HSS:=hide hs
 have HB0:Hid (Below w.heap.size w (w.alloc (.cells #[.int .i64 3,.int .i64 ax,.string (bs A),.string (bs B),.string (bs T),.int .i64 N,.slice aE E.length cE,.slice aB body.length cB,.slice aL els.length cL] 75))):=hide ((Below.refl _ _).alloc (Nat.le_refl _) _)
 clear h hE hs
 go_enter Tryz.func45,Tryz.ntmps45
 go_wp2_with fail
 refine (msteps_any HM.out P (n+1) E _ HEL.out hw _ HB0.out).mono ?_
 rintro e w1 ⟨u,rfl,ae,ce,rfl,her,hb1⟩
 have HR:=hide her
 have CP:=hide (mput2_any HM.out ⟨2,0,0,0,0,⟨#[]⟩,(Lw.stps s.vs (n+1) E),[],0,0,0⟩ HSS.out _ (btrans HB0.out hb1) ae ce none 0 HR.out (AGn.nil _ _))
 unfold IV at CP
 dsimp only at CP
 clear her hb1
 go_wp2_with fail
 refine CP.out.mono ?_
 rintro e w9 ⟨rfl,m9,hm9,hs9,-⟩
 have HM9:=hide hm9
 have HS9:=hide hs9
 clear hm9 hs9
 go_wp2
 refine bodyPost_end (v:= .tuple #[]) (results_none rfl _ _ _) rfl ⟨rfl,m9,HM9.out,HS9.out⟩
set_option maxRecDepth 100000 in
set_option maxHeartbeats 4000000 in
theorem stmtG_any (n:Nat) {C:MC} {m:MA} {s s':Lw.St} {bk:Int} {w:World} (P:Nat→Prop) (ax:Int) (A B T:List UInt8) (N:Int) (E body els:List Sx.Tr) (aE aB aL:Option Addr) (cE cB cL:Nat) (h:MK C m s bk ax w) (hE:EL w P (n+1) E (.slice aE E.length cE)) (_hw:Sx.wE (n+1) E≤1000000)
  (hs:Lw.put s bk ax ⟨7,(Cd.nmb s.vs (bs A)),0,0,0,⟨#[]⟩,[],[],0,0,0⟩=some s'):
  Calls Tryz.prog 45 #[.pointer (some ⟨C.g,0,none⟩),.agg #[.int .i64 7,.int .i64 ax,.string (bs A),.string (bs B),.string (bs T),.int .i64 N,.slice aE E.length cE,.slice aB body.length cB,.slice aL els.length cL]] w fun e w'=>e= .returned (.tuple #[])∧ ∃ m',MK C m' s' bk ax w'∧MS C.g m w m' w':=by
 have HM:=hide h
 have HEL:=hide hE
 have HSS:=hide hs
 have HB0:Hid (Below w.heap.size w (w.alloc (.cells #[.int .i64 7,.int .i64 ax,.string (bs A),.string (bs B),.string (bs T),.int .i64 N,.slice aE E.length cE,.slice aB body.length cB,.slice aL els.length cL] 75))):=hide ((Below.refl _ _).alloc (Nat.le_refl _) _)
 clear h hE hs
 go_enter Tryz.func45,Tryz.ntmps45
 go_wp2_with fail
 refine (mnum_any HM.out (bs A) _ HB0.out).mono ?_
 rintro e w1 ⟨rfl,hb1⟩
 have CP:=hide (mput2_any HM.out ⟨7,(Cd.nmb s.vs (bs A)),0,0,0,⟨#[]⟩,[],[],0,0,0⟩ HSS.out _ (btrans HB0.out hb1) none 0 none 0 (ERn.nil _ _) (AGn.nil _ _))
 unfold IV at CP
 dsimp only at CP
 clear hb1
 go_wp2_with fail
 refine CP.out.mono ?_
 rintro e w9 ⟨rfl,m9,hm9,hs9,-⟩
 have HM9:=hide hm9
 have HS9:=hide hs9
 clear hm9 hs9
 go_wp2
 refine bodyPost_end (v:= .tuple #[]) (results_none rfl _ _ _) rfl ⟨rfl,m9,HM9.out,HS9.out⟩
set_option maxRecDepth 100000 in
set_option maxHeartbeats 4000000 in
theorem stmtH_any (n:Nat) {C:MC} {m:MA} {s s':Lw.St} {bk:Int} {w:World} (P:Nat→Prop) (ax:Int) (A B T:List UInt8) (N:Int) (E body els:List Sx.Tr) (aE aB aL:Option Addr) (cE cB cL:Nat) (h:MK C m s bk ax w) (hE:EL w P (n+1) E (.slice aE E.length cE)) (_hw:Sx.wE (n+1) E≤1000000)
  (hs:Lw.put s bk ax ⟨8,(Cd.nmb s.vs (bs A)),0,0,0,⟨#[]⟩,[],[],0,0,0⟩=some s'):
  Calls Tryz.prog 45 #[.pointer (some ⟨C.g,0,none⟩),.agg #[.int .i64 8,.int .i64 ax,.string (bs A),.string (bs B),.string (bs T),.int .i64 N,.slice aE E.length cE,.slice aB body.length cB,.slice aL els.length cL]] w fun e w'=>e= .returned (.tuple #[])∧ ∃ m',MK C m' s' bk ax w'∧MS C.g m w m' w':=by
 have HM:=hide h
 have HEL:=hide hE
 have HSS:=hide hs
 have HB0:Hid (Below w.heap.size w (w.alloc (.cells #[.int .i64 8,.int .i64 ax,.string (bs A),.string (bs B),.string (bs T),.int .i64 N,.slice aE E.length cE,.slice aB body.length cB,.slice aL els.length cL] 75))):=hide ((Below.refl _ _).alloc (Nat.le_refl _) _)
 clear h hE hs
 go_enter Tryz.func45,Tryz.ntmps45
 go_wp2_with fail
 refine (mnum_any HM.out (bs A) _ HB0.out).mono ?_
 rintro e w1 ⟨rfl,hb1⟩
 have CP:=hide (mput2_any HM.out ⟨8,(Cd.nmb s.vs (bs A)),0,0,0,⟨#[]⟩,[],[],0,0,0⟩ HSS.out _ (btrans HB0.out hb1) none 0 none 0 (ERn.nil _ _) (AGn.nil _ _))
 unfold IV at CP
 dsimp only at CP
 clear hb1
 go_wp2_with fail
 refine CP.out.mono ?_
 rintro e w9 ⟨rfl,m9,hm9,hs9,-⟩
 have HM9:=hide hm9
 have HS9:=hide hs9
 clear hm9 hs9
 go_wp2
 refine bodyPost_end (v:= .tuple #[]) (results_none rfl _ _ _) rfl ⟨rfl,m9,HM9.out,HS9.out⟩
set_option maxRecDepth 100000 in
set_option maxHeartbeats 4000000 in
theorem stmtI_any (n:Nat) {C:MC} {m:MA} {s s':Lw.St} {bk:Int} {w:World} (P:Nat→Prop) (ax:Int) (A B T:List UInt8) (N:Int) (E body els:List Sx.Tr) (aE aB aL:Option Addr) (cE cB cL:Nat) (h:MK C m s bk ax w) (hE:EL w P (n+1) E (.slice aE E.length cE)) (_hw:Sx.wE (n+1) E≤1000000)
  (hs:Lw.put s bk ax ⟨9,(Cd.nmb s.vs (bs A)),0,0,0,⟨#[]⟩,[],[],0,0,0⟩=some s'):
  Calls Tryz.prog 45 #[.pointer (some ⟨C.g,0,none⟩),.agg #[.int .i64 9,.int .i64 ax,.string (bs A),.string (bs B),.string (bs T),.int .i64 N,.slice aE E.length cE,.slice aB body.length cB,.slice aL els.length cL]] w fun e w'=>e= .returned (.tuple #[])∧ ∃ m',MK C m' s' bk ax w'∧MS C.g m w m' w':=by
 have HM:=hide h
 have HEL:=hide hE
 have HSS:=hide hs
 have HB0:Hid (Below w.heap.size w (w.alloc (.cells #[.int .i64 9,.int .i64 ax,.string (bs A),.string (bs B),.string (bs T),.int .i64 N,.slice aE E.length cE,.slice aB body.length cB,.slice aL els.length cL] 75))):=hide ((Below.refl _ _).alloc (Nat.le_refl _) _)
 clear h hE hs
 go_enter Tryz.func45,Tryz.ntmps45
 go_wp2_with fail
 refine (mnum_any HM.out (bs A) _ HB0.out).mono ?_
 rintro e w1 ⟨rfl,hb1⟩
 have CP:=hide (mput2_any HM.out ⟨9,(Cd.nmb s.vs (bs A)),0,0,0,⟨#[]⟩,[],[],0,0,0⟩ HSS.out _ (btrans HB0.out hb1) none 0 none 0 (ERn.nil _ _) (AGn.nil _ _))
 unfold IV at CP
 dsimp only at CP
 clear hb1
 go_wp2_with fail
 refine CP.out.mono ?_
 rintro e w9 ⟨rfl,m9,hm9,hs9,-⟩
 have HM9:=hide hm9
 have HS9:=hide hs9
 clear hm9 hs9
 go_wp2
 refine bodyPost_end (v:= .tuple #[]) (results_none rfl _ _ _) rfl ⟨rfl,m9,HM9.out,HS9.out⟩
set_option maxRecDepth 100000 in
set_option maxHeartbeats 4000000 in
theorem stmtE_any (n:Nat) {C:MC} {m:MA} {s s':Lw.St} {bk:Int} {w:World} (P:Nat→Prop) (ax:Int) (A B T:List UInt8) (N:Int) (E body els:List Sx.Tr) (aE aB aL:Option Addr) (cE cB cL:Nat) (h:MK C m s bk ax w) (hE:EL w P (n+1) E (.slice aE E.length cE)) (_hw:Sx.wE (n+1) E≤1000000)
  (hs:Lw.put s bk ax ⟨4,(Cd.nmb s.vs (bs A)),(Cd.nmb s.vs (bs B)),0,0,⟨#[]⟩,[],[],0,0,0⟩=some s'):
  Calls Tryz.prog 45 #[.pointer (some ⟨C.g,0,none⟩),.agg #[.int .i64 5,.int .i64 ax,.string (bs A),.string (bs B),.string (bs T),.int .i64 N,.slice aE E.length cE,.slice aB body.length cB,.slice aL els.length cL]] w fun e w'=>e= .returned (.tuple #[])∧ ∃ m',MK C m' s' bk ax w'∧MS C.g m w m' w':=by
 have HM:=hide h
 have HEL:=hide hE
 have HSS:=hide hs
 have HB0:Hid (Below w.heap.size w (w.alloc (.cells #[.int .i64 5,.int .i64 ax,.string (bs A),.string (bs B),.string (bs T),.int .i64 N,.slice aE E.length cE,.slice aB body.length cB,.slice aL els.length cL] 75))):=hide ((Below.refl _ _).alloc (Nat.le_refl _) _)
 clear h hE hs
 go_enter Tryz.func45,Tryz.ntmps45
 go_wp2
 obtain ⟨W,hW⟩: ∃ W,w.alloc (.cells #[.int .i64 5,.int .i64 ax,.string (bs A),.string (bs B),.string (bs T),.int .i64 N,.slice aE E.length cE,.slice aB body.length cB,.slice aL els.length cL] 75)=W:=⟨_,rfl⟩
 have HJ:Hid (∀ w',Below W.heap.size W w'→w'.cell? ⟨w.heap.size,2,none⟩=some (.string (bs A))∧w'.cell? ⟨w.heap.size,3,none⟩=some (.string (bs B))):=hide (fun w' hb=>⟨bsome hb (by rw [←hW];simp [go_sem]),bsome hb (by rw [←hW];simp [go_sem])⟩)
 have nbx: ¬ m.mut C.g w.heap.size:=HM.out.new (Nat.le_refl _)
 rw [hW] at HB0 ⊢
 clear hW
 have kc:Hid (Below W.heap.size W W.drew):=hide (below_drewN (Below.refl _ _) 1)
 obtain ⟨k2,k3⟩:=HJ.out W (Below.refl _ _)
 have HPU:=hide (fun w1 (hb:Below W.heap.size W w1)=>mput2_any HM.out ⟨4,(Cd.nmb s.vs (bs A)),(Cd.nmb s.vs (bs B)),0,0,⟨#[]⟩,[],[],0,0,0⟩ HSS.out w1 (btrans HB0.out hb) none 0 none 0 (ERn.nil _ _) (AGn.nil _ _))
 unfold IV at HPU
 dsimp only at HPU
 (try simp only [List.length_nil] at HPU)
 have HNA:=hide (fun w1 (hb:Below W.heap.size W w1)=>mnum_any HM.out (bs A) w1 (btrans HB0.out hb))
 have HNB:=hide (fun w1 (hb:Below W.heap.size W w1)=>mnum_any HM.out (bs B) w1 (btrans HB0.out hb))
 go_region_held3 (fun w'=>w'.cell? ⟨w.heap.size,2,none⟩=some (.string (bs A))∧w'.cell? ⟨w.heap.size,3,none⟩=some (.string (bs B))) ((first|exact ⟨by assumption,by assumption⟩|go_keep)) ((first
  |(go_at_call 30;with_reducible refine (HPU.out _ (by exact kc.out)).mono ?_;rintro e w9 ⟨rfl,m9,hm9,hs9,hc9⟩;have HM9:=hide hm9;have HS9:=hide hs9;have k2:=hc9 _ _ k2 nbx;have k3:=hc9 _ _ k3 nbx;clear hm9 hs9 hc9)
  |(go_at_call 47;with_reducible refine (HNA.out _ (by exact kc.out)).mono ?_;rintro e wq ⟨rfl,hbq⟩;have kd:=hide (btrans kc.out hbq);clear kc;have kc:=kd;clear kd;(try (have HRQ:=hide (HR.out.below hbq);clear HR;have HR:=HRQ;clear HRQ));clear hbq;obtain ⟨k2,k3⟩:=HJ.out _ kc.out)
  |(go_at_call 47;with_reducible refine (HNB.out _ (by exact kc.out)).mono ?_;rintro e wq ⟨rfl,hbq⟩;have kd:=hide (btrans kc.out hbq);clear kc;have kc:=kd;clear kd;(try (have HRQ:=hide (HR.out.below hbq);clear HR;have HR:=HRQ;clear HRQ));clear hbq;obtain ⟨k2,k3⟩:=HJ.out _ kc.out)))
 all_goals
  go_wp2
  refine bodyPost_end (v:= .tuple #[]) (results_none rfl _ _ _) rfl ⟨rfl,m9,HM9.out,HS9.out⟩
set_option maxRecDepth 100000 in
set_option maxHeartbeats 4000000 in
theorem stmtD_any (n:Nat) {C:MC} {m:MA} {s s':Lw.St} {bk:Int} {w:World} (P:Nat→Prop) (ax:Int) (A B T:List UInt8) (N:Int) (E body els:List Sx.Tr) (aE aB aL:Option Addr) (cE cB cL:Nat) (h:MK C m s bk ax w) (hE:EL w P (n+1) E (.slice aE E.length cE)) (_hw:Sx.wE (n+1) E≤1000000) (hcl: ∀ w1:World,Calls Tryz.prog 26 #[.string (bs T)] w1 fun e w'=>e= .returned (.string (bs T))∧Below w1.heap.size w1 w')
  (hs:Lw.put s bk ax ⟨3,(Cd.nmb s.vs (bs A)),(Cd.nmb s.vs (bs B)),N,0,bs T,[],[],0,0,0⟩=some s'):
  Calls Tryz.prog 45 #[.pointer (some ⟨C.g,0,none⟩),.agg #[.int .i64 4,.int .i64 ax,.string (bs A),.string (bs B),.string (bs T),.int .i64 N,.slice aE E.length cE,.slice aB body.length cB,.slice aL els.length cL]] w fun e w'=>e= .returned (.tuple #[])∧ ∃ m',MK C m' s' bk ax w'∧MS C.g m w m' w':=by
 have HM:=hide h
 have HEL:=hide hE
 have HSS:=hide hs
 have HB0:Hid (Below w.heap.size w (w.alloc (.cells #[.int .i64 4,.int .i64 ax,.string (bs A),.string (bs B),.string (bs T),.int .i64 N,.slice aE E.length cE,.slice aB body.length cB,.slice aL els.length cL] 75))):=hide ((Below.refl _ _).alloc (Nat.le_refl _) _)
 have HCl:=hide hcl
 clear hcl
 clear h hE hs
 go_enter Tryz.func45,Tryz.ntmps45
 go_wp2
 obtain ⟨W,hW⟩: ∃ W,w.alloc (.cells #[.int .i64 4,.int .i64 ax,.string (bs A),.string (bs B),.string (bs T),.int .i64 N,.slice aE E.length cE,.slice aB body.length cB,.slice aL els.length cL] 75)=W:=⟨_,rfl⟩
 have HJ:Hid (∀ w',Below W.heap.size W w'→w'.cell? ⟨w.heap.size,2,none⟩=some (.string (bs A))∧w'.cell? ⟨w.heap.size,3,none⟩=some (.string (bs B))∧w'.cell? ⟨w.heap.size,4,none⟩=some (.string (bs T))∧w'.cell? ⟨w.heap.size,5,none⟩=some (.int .i64 N)):=hide (fun w' hb=>⟨bsome hb (by rw [←hW];simp [go_sem]),bsome hb (by rw [←hW];simp [go_sem]),bsome hb (by rw [←hW];simp [go_sem]),bsome hb (by rw [←hW];simp [go_sem])⟩)
 have nbx: ¬ m.mut C.g w.heap.size:=HM.out.new (Nat.le_refl _)
 rw [hW] at HB0 ⊢
 clear hW
 have kc:Hid (Below W.heap.size W W.drew):=hide (below_drewN (Below.refl _ _) 1)
 obtain ⟨k2,k3,k4,k5⟩:=HJ.out W (Below.refl _ _)
 have HPU:=hide (fun w1 (hb:Below W.heap.size W w1)=>mput2_any HM.out ⟨3,(Cd.nmb s.vs (bs A)),(Cd.nmb s.vs (bs B)),N,0,bs T,[],[],0,0,0⟩ HSS.out w1 (btrans HB0.out hb) none 0 none 0 (ERn.nil _ _) (AGn.nil _ _))
 unfold IV at HPU
 dsimp only at HPU
 (try simp only [List.length_nil] at HPU)
 have HNA:=hide (fun w1 (hb:Below W.heap.size W w1)=>mnum_any HM.out (bs A) w1 (btrans HB0.out hb))
 have HNB:=hide (fun w1 (hb:Below W.heap.size W w1)=>mnum_any HM.out (bs B) w1 (btrans HB0.out hb))
 go_region_held3 (fun w'=>w'.cell? ⟨w.heap.size,2,none⟩=some (.string (bs A))∧w'.cell? ⟨w.heap.size,3,none⟩=some (.string (bs B))∧w'.cell? ⟨w.heap.size,4,none⟩=some (.string (bs T))∧w'.cell? ⟨w.heap.size,5,none⟩=some (.int .i64 N)) ((first|exact ⟨by assumption,by assumption,by assumption,by assumption⟩|go_keep)) ((first
  |(go_at_call 30;with_reducible refine (HPU.out _ (by exact kc.out)).mono ?_;rintro e w9 ⟨rfl,m9,hm9,hs9,hc9⟩;have HM9:=hide hm9;have HS9:=hide hs9;have k2:=hc9 _ _ k2 nbx;have k3:=hc9 _ _ k3 nbx;have k4:=hc9 _ _ k4 nbx;have k5:=hc9 _ _ k5 nbx;clear hm9 hs9 hc9)
  |(go_at_call 47;with_reducible refine (HNA.out _ (by exact kc.out)).mono ?_;rintro e wq ⟨rfl,hbq⟩;have kd:=hide (btrans kc.out hbq);clear kc;have kc:=kd;clear kd;(try (have HRQ:=hide (HR.out.below hbq);clear HR;have HR:=HRQ;clear HRQ));clear hbq;obtain ⟨k2,k3,k4,k5⟩:=HJ.out _ kc.out)
  |(go_at_call 47;with_reducible refine (HNB.out _ (by exact kc.out)).mono ?_;rintro e wq ⟨rfl,hbq⟩;have kd:=hide (btrans kc.out hbq);clear kc;have kc:=kd;clear kd;(try (have HRQ:=hide (HR.out.below hbq);clear HR;have HR:=HRQ;clear HRQ));clear hbq;obtain ⟨k2,k3,k4,k5⟩:=HJ.out _ kc.out)
  |(go_at_call 26;with_reducible refine (HCl.out _).mono ?_;rintro e wq ⟨rfl,hbq⟩;have kd:=hide (btrans kc.out hbq);clear kc;have kc:=kd;clear kd;(try (have HRQ:=hide (HR.out.below hbq);clear HR;have HR:=HRQ;clear HRQ));clear hbq;obtain ⟨k2,k3,k4,k5⟩:=HJ.out _ kc.out)))
 all_goals
  go_wp2
  refine bodyPost_end (v:= .tuple #[]) (results_none rfl _ _ _) rfl ⟨rfl,m9,HM9.out,HS9.out⟩
end Go.Proofs.YtcdcoiobpbdmpaaGreatDoor
