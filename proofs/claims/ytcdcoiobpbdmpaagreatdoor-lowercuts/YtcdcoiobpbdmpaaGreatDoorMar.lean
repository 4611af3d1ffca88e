import Derived.Test.YtcdcoiobpbdmpaaGreatDoorMao
import Derived.Test.YtcdcoiobpbdmpaaGreatDoorMan
import Derived.Test.YtcdcoiobpbdmpaaGreatDoorMap
import Derived.Test.YtcdcoiobpbdmpaaGreatDoorMaq
namespace Go.Proofs.YtcdcoiobpbdmpaaGreatDoor
open Go.RowKit
namespace Lw
open Sx
def stmtX (ab:List Ab) (rc:St→Int→Tr→Option St) (n:Nat) (s:St) (bk D ax:Int) (A B T:List UInt8) (N:Int) (E body els:List Tr):Option St:=
    if 1000000<Sx.wE n E then none else if D=1∨D=2 then Lw.put s bk ax ⟨1,Cd.nmb s.vs (bs A),0,0,0,⟨#[]⟩,Lw.stps s.vs n E,[],0,0,0⟩
     else if D=3 then Lw.put s bk ax ⟨2,0,0,0,0,⟨#[]⟩,Lw.stps s.vs n E,[],0,0,0⟩
     else if D=4 then if 1000000<T.length then none else Lw.put s bk ax ⟨3,Cd.nmb s.vs (bs A),Cd.nmb s.vs (bs B),N,0,bs T,[],[],0,0,0⟩
     else if D=5 then Lw.put s bk ax ⟨4,Cd.nmb s.vs (bs A),Cd.nmb s.vs (bs B),0,0,⟨#[]⟩,[],[],0,0,0⟩
     else if D=6 then match E with
      |[]=>none
      |x::_=>match Lw.vat s.vs (Cd.nmb s.vs (bs A)) with
       |none=>none
       |some y=>if y.2=⟨#[115,105]⟩ then Lw.put s bk ax ⟨5,Cd.nmb s.vs (bs A),0,0,0,⟨#[]⟩,Lw.stps s.vs n [x],[],0,0,0⟩ else Lw.put s bk ax ⟨6,Cd.nmb s.vs (bs A),Cd.nmb s.vs (bs (Sx.eH x).2.1),0,0,⟨#[]⟩,[],[],0,0,0⟩
     else if D=7∨D=8∨D=9 then Lw.put s bk ax ⟨D,Cd.nmb s.vs (bs A),0,0,0,⟨#[]⟩,[],[],0,0,0⟩
     else if D=10 then match ab.findIdx? (fun g=>decide (g.1=bs A)) with
      |none=>none
      |some k=>(Lw.sps s n ((ab[k]?.map (·.2)).getD []) 0 E).bind fun q=>Lw.put s bk ax ⟨10,k,0,0,0,⟨#[]⟩,[],q,0,0,0⟩
     else if D=11 then Lw.either rc s bk ax ⟨11,Cd.nmb s.vs (bs A),Cd.nmb s.vs (bs B),0,0,⟨#[]⟩,[],[],0,0,0⟩ body els [bs A]
     else if D=12 then Lw.loop rc s bk ax ⟨11,Cd.nmb s.vs (bs A),Cd.nmb s.vs (bs B),0,0,⟨#[]⟩,[],[],0,0,0⟩ (2,Cd.nmb s.vs (bs B),0) body [bs A]
     else if D=13 then match E with
      |[]=>none
      |x::_=>if 1000000≤s.vs.length then none else
       (Lw.put ⟨s.vs++[(⟨#[]⟩,⟨#[105]⟩)],s.bs,s.is⟩ bk ax ⟨12,s.vs.length,0,0,0,⟨#[]⟩,Lw.stps (s.vs++[(⟨#[]⟩,⟨#[105]⟩)]) n E,[],0,0,0⟩).bind fun s1=>
        Lw.loop rc s1 bk ax ⟨13,s.vs.length,0,0,0,⟨#[]⟩,[],[],0,0,0⟩ (5,0,Cd.most (Sx.eH x).1 (Sx.eH x).2.2) body []
     else if D=14 then Lw.either rc s bk ax ⟨14,0,0,0,0,⟨#[]⟩,Lw.stps s.vs n E,[],0,0,0⟩ body els []
     else some s
theorem stmt_tS (ab:List Ab) (n:Nat) (s:St) (bk D ax:Int) (A B T:List UInt8) (N:Int) (E body els:List Tr):stmt ab (n+1) s bk (tS D ax A B T N E body els)=stmtX ab (stmt ab n) (n+1) s bk D ax A B T N E body els:=by
 rw [stmt]
 rfl
end Lw
theorem bs_sz (l:List UInt8):(bs l).size=l.length:=by simp [bs,ByteArray.size]
set_option maxRecDepth 100000 in
set_option maxHeartbeats 4000000 in
theorem stmtJ_any {C:MC} {m:MA} {s':Lw.St} {bk:Int} {w:World} (ax:Int) (A B T:List UInt8) (N:Int) (E body els:List Sx.Tr) (aE aB aL:Option Addr) (cE cB cL:Nat)
  (hC: ∀ w1 (_:Below w.heap.size w w1),Calls Tryz.prog 76 #[.pointer (some ⟨C.g,0,none⟩),.agg #[.int .i64 10,.int .i64 ax,.string (bs A),.string (bs B),.string (bs T),.int .i64 N,.slice aE E.length cE,.slice aB body.length cB,.slice aL els.length cL]] w1 fun e w'=>e= .returned (.tuple #[])∧ ∃ m',MK C m' s' bk ax w'∧MS C.g m w1 m' w'):
  Calls Tryz.prog 45 #[.pointer (some ⟨C.g,0,none⟩),.agg #[.int .i64 10,.int .i64 ax,.string (bs A),.string (bs B),.string (bs T),.int .i64 N,.slice aE E.length cE,.slice aB body.length cB,.slice aL els.length cL]] w fun e w'=>e= .returned (.tuple #[])∧ ∃ m',MK C m' s' bk ax w'∧MS C.g m w m' w':=by
 have HB0:Hid (Below w.heap.size w (w.alloc (.cells #[.int .i64 10,.int .i64 ax,.string (bs A),.string (bs B),.string (bs T),.int .i64 N,.slice aE E.length cE,.slice aB body.length cB,.slice aL els.length cL] 75))):=hide ((Below.refl _ _).alloc (Nat.le_refl _) _)
 have CC:=hide (hC _ HB0.out)
 clear hC
 go_enter Tryz.func45,Tryz.ntmps45
 go_wp2_with fail
 refine CC.out.mono ?_
 rintro e w9 ⟨rfl,m9,hm9,hs9⟩
 have HM9:=hide hm9
 have HS9:=hide ((MS.of_below HB0.out).trans hs9)
 clear hm9 hs9 CC
 go_wp2
 refine bodyPost_end (v:= .tuple #[]) (results_none rfl _ _ _) rfl ⟨rfl,m9,HM9.out,HS9.out⟩
set_option maxRecDepth 100000 in
set_option maxHeartbeats 4000000 in
theorem stmtM_any {C:MC} {m:MA} {s':Lw.St} {bk:Int} {w:World} (ax:Int) (A B T:List UInt8) (N:Int) (E body els:List Sx.Tr) (aE aB aL:Option Addr) (cE cB cL:Nat)
  (hC: ∀ w1 (_:Below w.heap.size w w1),Calls Tryz.prog 79 #[.pointer (some ⟨C.g,0,none⟩),.agg #[.int .i64 13,.int .i64 ax,.string (bs A),.string (bs B),.string (bs T),.int .i64 N,.slice aE E.length cE,.slice aB body.length cB,.slice aL els.length cL]] w1 fun e w'=>e= .returned (.tuple #[])∧ ∃ m',MK C m' s' bk ax w'∧MS C.g m w1 m' w'):
  Calls Tryz.prog 45 #[.pointer (some ⟨C.g,0,none⟩),.agg #[.int .i64 13,.int .i64 ax,.string (bs A),.string (bs B),.string (bs T),.int .i64 N,.slice aE E.length cE,.slice aB body.length cB,.slice aL els.length cL]] w fun e w'=>e= .returned (.tuple #[])∧ ∃ m',MK C m' s' bk ax w'∧MS C.g m w m' w':=by
 have HB0:Hid (Below w.heap.size w (w.alloc (.cells #[.int .i64 13,.int .i64 ax,.string (bs A),.string (bs B),.string (bs T),.int .i64 N,.slice aE E.length cE,.slice aB body.length cB,.slice aL els.length cL] 75))):=hide ((Below.refl _ _).alloc (Nat.le_refl _) _)
 have CC:=hide (hC _ HB0.out)
 clear hC
 go_enter Tryz.func45,Tryz.ntmps45
 go_wp2_with fail
 refine CC.out.mono ?_
 rintro e w9 ⟨rfl,m9,hm9,hs9⟩
 have HM9:=hide hm9
 have HS9:=hide ((MS.of_below HB0.out).trans hs9)
 clear hm9 hs9 CC
 go_wp2
 refine bodyPost_end (v:= .tuple #[]) (results_none rfl _ _ _) rfl ⟨rfl,m9,HM9.out,HS9.out⟩
set_option maxRecDepth 100000 in
set_option maxHeartbeats 4000000 in
theorem stmtX_any {C:MC} {m:MA} {s:Lw.St} {bk:Int} {w:World} (D ax:Int) (A B T:List UInt8) (N:Int) (E body els:List Sx.Tr) (aE aB aL:Option Addr) (cE cB cL:Nat) (h:MK C m s bk ax w) (hD: ∀ k ∈ [1,2,3,4,5,6,7,8,9,10,11,12,13,14],D ≠ k):
  Calls Tryz.prog 45 #[.pointer (some ⟨C.g,0,none⟩),.agg #[.int .i64 D,.int .i64 ax,.string (bs A),.string (bs B),.string (bs T),.int .i64 N,.slice aE E.length cE,.slice aB body.length cB,.slice aL els.length cL]] w fun e w'=>e= .returned (.tuple #[])∧ ∃ m',MK C m' s bk ax w'∧MS C.g m w m' w':=by
 have e1:(D == 1)=false:=by simpa using hD 1 (by simp)
 have d1:decide (D=1)=false:=by simpa using hD 1 (by simp)
 have e2:(D == 2)=false:=by simpa using hD 2 (by simp)
 have d2:decide (D=2)=false:=by simpa using hD 2 (by simp)
 have e3:(D == 3)=false:=by simpa using hD 3 (by simp)
 have d3:decide (D=3)=false:=by simpa using hD 3 (by simp)
 have e4:(D == 4)=false:=by simpa using hD 4 (by simp)
 have d4:decide (D=4)=false:=by simpa using hD 4 (by simp)
 have e5:(D == 5)=false:=by simpa using hD 5 (by simp)
 have d5:decide (D=5)=false:=by simpa using hD 5 (by simp)
 have e6:(D == 6)=false:=by simpa using hD 6 (by simp)
 have d6:decide (D=6)=false:=by simpa using hD 6 (by simp)
 have e7:(D == 7)=false:=by simpa using hD 7 (by simp)
 have d7:decide (D=7)=false:=by simpa using hD 7 (by simp)
 have e8:(D == 8)=false:=by simpa using hD 8 (by simp)
 have d8:decide (D=8)=false:=by simpa using hD 8 (by simp)
 have e9:(D == 9)=false:=by simpa using hD 9 (by simp)
 have d9:decide (D=9)=false:=by simpa using hD 9 (by simp)
 have e10:(D == 10)=false:=by simpa using hD 10 (by simp)
 have d10:decide (D=10)=false:=by simpa using hD 10 (by simp)
 have e11:(D == 11)=false:=by simpa using hD 11 (by simp)
 have d11:decide (D=11)=false:=by simpa using hD 11 (by simp)
 have e12:(D == 12)=false:=by simpa using hD 12 (by simp)
 have d12:decide (D=12)=false:=by simpa using hD 12 (by simp)
 have e13:(D == 13)=false:=by simpa using hD 13 (by simp)
 have d13:decide (D=13)=false:=by simpa using hD 13 (by simp)
 have e14:(D == 14)=false:=by simpa using hD 14 (by simp)
 have d14:decide (D=14)=false:=by simpa using hD 14 (by simp)
 have HB0:Hid (Below w.heap.size w (w.alloc (.cells #[.int .i64 D,.int .i64 ax,.string (bs A),.string (bs B),.string (bs T),.int .i64 N,.slice aE E.length cE,.slice aB body.length cB,.slice aL els.length cL] 75))):=hide ((Below.refl _ _).alloc (Nat.le_refl _) _)
 have HM:=hide h
 clear h hD
 go_enter Tryz.func45,Tryz.ntmps45
 go_wp2
 refine bodyPost_end (v:= .tuple #[]) (results_none rfl _ _ _) rfl ⟨rfl,m,HM.out.below HB0.out,MS.of_below HB0.out⟩
theorem stmt_any (ab:List Lw.Ab) (n:Nat):LSmT ab n:=by
 induction n with
 |zero=>
  intro C m s s' bk w P d c h hP hA hR hs
  obtain ⟨D,ax,A,B,T,N,E,body,els,uE,uB,uL,rfl,rfl,hE,hB,hO⟩:=hR
  exact absurd hB (by intro h;exact h)
 |succ n ih=>
  intro C m s s' bk w P d c h hP hA hR hs
  obtain ⟨D,ax,A,B,T,N,E,body,els,uE,uB,uL,rfl,rfl,hE,hB,hO⟩:=hR
  obtain ⟨aE,cE,rfl⟩:=hE.slice
  obtain ⟨aB,cB,rfl⟩:=hB.slice
  obtain ⟨aL,cL,rfl⟩:=hO.slice
  have hs':=hs
  rw [Lw.stmt_tS] at hs'
  unfold Lw.stmtX at hs'
  clear hs
  have h':MK C m s bk ax w:=h
  show Calls Tryz.prog 45 _ w fun e w'=>e= .returned (.tuple #[])∧ ∃ m',MK C m' s' bk ax w'∧MS C.g m w m' w'
  clear h
  by_cases hw:1000000<Sx.wE (n+1) E
  ·rw [if_pos hw] at hs';cases hs'
  rw [if_neg hw] at hs'
  have hw':Sx.wE (n+1) E≤1000000:=by omega
  by_cases q1:D=1
  ·subst q1
   rw [if_pos (.inl rfl)] at hs'
   exact stmtA_any n P ax A B T N E body els aE aB aL cE cB cL h' hE hw' hs'
  by_cases q2:D=2
  ·subst q2
   rw [if_pos (.inr rfl)] at hs'
   exact stmtB_any n P ax A B T N E body els aE aB aL cE cB cL h' hE hw' hs'
  rw [if_neg (by rintro (e|e)<;> contradiction)] at hs'
  by_cases q3:D=3
  ·subst q3
   rw [if_pos rfl] at hs'
   exact stmtC_any n P ax A B T N E body els aE aB aL cE cB cL h' hE hw' hs'
  rw [if_neg q3] at hs'
  by_cases q4:D=4
  ·subst q4
   rw [if_pos rfl] at hs'
   by_cases hT:1000000<T.length
   ·rw [if_pos hT] at hs';cases hs'
   rw [if_neg hT] at hs'
   exact stmtD_any n P ax A B T N E body els aE aB aL cE cB cL h' hE hw' (fun w1=>clone_any (bs T) w1 (by rw [bs_sz];omega)) hs'
  rw [if_neg q4] at hs'
  by_cases q5:D=5
  ·subst q5
   rw [if_pos rfl] at hs'
   exact stmtE_any n P ax A B T N E body els aE aB aL cE cB cL h' hE hw' hs'
  rw [if_neg q5] at hs'
  by_cases q6:D=6
  ·subst q6
   rw [if_pos rfl] at hs'
   cases hEE:E with
   |nil=>subst hEE;cases hs'
   |cons x r=>
    rw [←hEE]
    rw [hEE] at hs'
    dsimp only at hs'
    cases hv:Lw.vat s.vs (Cd.nmb s.vs (bs A)) with
    |none=>rw [hv] at hs';cases hs'
    |some y=>
     rw [hv] at hs'
     exact stmtF_any n P ax A B T N E body els aE aB aL cE cB cL h' hP hE hw' x r hEE y hv hs'
  rw [if_neg q6] at hs'
  by_cases q7:D=7
  ·subst q7
   rw [if_pos (.inl rfl)] at hs'
   exact stmtG_any n P ax A B T N E body els aE aB aL cE cB cL h' hE hw' hs'
  by_cases q8:D=8
  ·subst q8
   rw [if_pos (.inr (.inl rfl))] at hs'
   exact stmtH_any n P ax A B T N E body els aE aB aL cE cB cL h' hE hw' hs'
  by_cases q9:D=9
  ·subst q9
   rw [if_pos (.inr (.inr rfl))] at hs'
   exact stmtI_any n P ax A B T N E body els aE aB aL cE cB cL h' hE hw' hs'
  rw [if_neg (by rintro (e|e|e)<;> contradiction)] at hs'
  have keepB: ∀ w1 (_:Below w.heap.size w w1) (j:Nat),P j→j<w1.heap.size∧ ¬ m.mut C.g j:=fun w1 hb j hj=>⟨Nat.lt_of_lt_of_le (hP j hj).1 hb.size,(hP j hj).2⟩
  by_cases q10:D=10
  ·subst q10
   rw [if_pos rfl] at hs'
   cases hk:ab.findIdx? (fun g=>decide (g.1=bs A)) with
   |none=>rw [hk] at hs';cases hs'
   |some k=>
    rw [hk] at hs'
    obtain ⟨q,hq1,hq2⟩:=Option.bind_eq_some_iff.1 hs'
    exact stmtJ_any ax A B T N E body els aE aB aL cE cB cL (fun w1 hb=>spawn_any ab n P ax A B T N E body els aE aB aL cE cB cL (h'.below hb) (hA.keepX (Kx.of_below (X:=fun _=>True) hb) (fun _ _=>trivial)) (hE.keep (Kp.of_below (S:=[]) hb) (by simp)) hw' k hk q hq1 hq2)
  rw [if_neg q10] at hs'
  by_cases q11:D=11
  ·subst q11
   rw [if_pos rfl] at hs'
   exact stmtK_any ab n ih P ax A B T N E body els aE aB aL cE cB cL h' hP hA hE hw' hB hO hs'
  rw [if_neg q11] at hs'
  by_cases q12:D=12
  ·subst q12
   rw [if_pos rfl] at hs'
   exact stmtL_any ab n ih P ax A B T N E body els aE aB aL cE cB cL h' hP hA hE hw' hB hO hs'
  rw [if_neg q12] at hs'
  by_cases q13:D=13
  ·subst q13
   rw [if_pos rfl] at hs'
   cases hEE:E with
   |nil=>subst hEE;cases hs'
   |cons x r=>
    rw [←hEE]
    rw [hEE] at hs'
    dsimp only at hs'
    by_cases hv:1000000≤s.vs.length
    ·rw [if_pos hv] at hs';cases hs'
    rw [if_neg hv] at hs'
    obtain ⟨s1,hs1,hs2⟩:=Option.bind_eq_some_iff.1 hs'
    rw [←hEE] at hs1
    exact stmtM_any ax A B T N E body els aE aB aL cE cB cL (fun w1 hb=>repeat_any ab n ih P ax A B T N E body els aE aB aL cE cB cL (h'.below hb) (keepB w1 hb) (hA.keepX (Kx.of_below (X:=fun _=>True) hb) (fun _ _=>trivial)) (hE.keep (Kp.of_below (S:=[]) hb) (by simp)) hw' (hB.keepX (Kx.of_below (X:=fun _=>True) hb) (fun _ _=>trivial)) x r hEE (by omega) hs1 hs2)
  rw [if_neg q13] at hs'
  by_cases q14:D=14
  ·subst q14
   rw [if_pos rfl] at hs'
   exact stmtN_any ab n ih P ax A B T N E body els aE aB aL cE cB cL h' hP hA hE hw' hB hO hs'
  rw [if_neg q14] at hs'
  obtain rfl:=Option.some.inj hs'
  exact stmtX_any D ax A B T N E body els aE aB aL cE cB cL h' (by intro k hk;simp at hk;rcases hk with rfl|rfl|rfl|rfl|rfl|rfl|rfl|rfl|rfl|rfl|rfl|rfl|rfl|rfl<;> assumption)
end Go.Proofs.YtcdcoiobpbdmpaaGreatDoor
namespace Go.Proofs.YtcdcoiobpbdmpaaGreatDoor
open Go.RowKit
structure PCx (w:World) (N:Nat→Prop) (q:PV) (p:Cd.Pr):Prop where
 vars:VaR w (.slice q.av p.vars.length q.cv) p.vars
 nv: ∀ j,ob q.av=some j→N j
 blocks:BlR w (.slice q.ab p.blocks.length q.cb) p.blocks
 nb: ∀ j,ob q.ab=some j→N j
 ins:p.ins ≠ []→ ∃ g o,q.ai=some ⟨g,o,none⟩∧ ∀ (k:Nat) x,p.ins[k]? =some x→ ∃ ae ce aa ca,(∀ (j:Nat) u,(Cd.pcl x ae ce aa ca x.bk x.at')[j]? =some u→w.cell? ⟨g,o+k * 11+j,none⟩=some u)∧ERn w N (.slice ae x.e.length ce) x.e∧AGn w N (.slice aa x.args.length ca) x.args
 ni: ∀ j,ob q.ai=some j→N j
theorem BlR.keepX {X:Nat→Prop} {w w':World} {v:Value} {l:List (Int × Int × Int × Int)} (h:BlR w v l) (hb:Kx X w w') (hX: ∀ g,v.ownBlock=some g→X g):BlR w' v l:=by
 obtain ⟨a,c,h1,h2⟩:=h
 refine ⟨a,c,h1,fun hn=> ?_⟩
 obtain ⟨g,o,h3,h4⟩:=h2 hn
 have hg:X g:=hX g (by rw [h1,h3];rfl)
 exact ⟨g,o,h3,fun k x hx=>⟨hb.cell (h4 k x hx).1 hg,hb.cell (h4 k x hx).2.1 hg,hb.cell (h4 k x hx).2.2.1 hg,hb.cell (h4 k x hx).2.2.2 hg⟩⟩
theorem PCx.up {w w':World} {N N':Nat→Prop} {q:PV} {p:Cd.Pr} (h:PCx w N q p) (hk:Kx N w w') (hN: ∀ j,N j→N' j):PCx w' N' q p:=by
 refine ⟨h.vars.keepX hk (fun j hj=>h.nv j (by rw [←ob_own q.av p.vars.length q.cv];exact hj)),fun j hj=>hN j (h.nv j hj),h.blocks.keepX hk (fun j hj=>h.nb j (by rw [←ob_own q.ab p.blocks.length q.cb];exact hj)),fun j hj=>hN j (h.nb j hj),fun hn=> ?_,fun j hj=>hN j (h.ni j hj)⟩
 obtain ⟨g,o,h1,h2⟩:=h.ins hn
 refine ⟨g,o,h1,fun k x hx=> ?_⟩
 obtain ⟨ae,ce,aa,ca,h3,h4,h5⟩:=h2 k x hx
 exact ⟨ae,ce,aa,ca,fun j u hu=>hk.cell (h3 j u hu) (h.ni g (by rw [h1];rfl)),h4.up hk hN,h5.up hk hN⟩
theorem PCx.pc {w:World} {N:Nat→Prop} {q:PV} {p:Cd.Pr} (h:PCx w N q p):PC q p w:=by
 refine ⟨h.vars,h.blocks,q.ai,q.ci,rfl,fun hn=> ?_⟩
 obtain ⟨g,o,h1,h2⟩:=h.ins hn
 refine ⟨g,o,h1,fun k x hx=> ?_⟩
 obtain ⟨ae,ce,aa,ca,h3,h4,h5⟩:=h2 k x hx
 exact ⟨ae,ce,aa,ca,⟨h3 0 _ rfl,h3 1 _ rfl,h3 2 _ rfl,h3 3 _ rfl,h3 4 _ rfl,h3 5 _ rfl,h3 6 _ rfl,h3 7 _ rfl,h3 8 _ rfl,h3 9 _ rfl,h3 10 _ rfl,h4.1,h5.agR⟩⟩
theorem flatten_cell {z:Nat} (l:List (List Value)) (hz: ∀ c ∈ l,c.length=z) (k:Nat) (c:List Value) (hk:l[k]? =some c) (j:Nat) (u:Value) (hu:c[j]? =some u):l.flatten[k * z+j]? =some u:=by
 induction l generalizing k with
 |nil=>simp at hk
 |cons a r ih=>
  have ha:a.length=z:=hz a List.mem_cons_self
  cases k with
  |zero=>
   simp at hk
   subst hk
   have:=(List.getElem?_eq_some_iff.1 hu).1
   rw [List.flatten_cons,Nat.zero_mul,Nat.zero_add,List.getElem?_append_left this]
   exact hu
  |succ k=>
   rw [List.flatten_cons,List.getElem?_append_right (by rw [ha,Nat.succ_mul];omega),ha,show (k+1) * z+j - z=k * z+j from by rw [Nat.succ_mul];omega]
   exact ih (fun c hc=>hz c (List.mem_cons_of_mem _ hc)) k (by simpa using hk)
theorem MK.pcx {C:MC} {m:MA} {s:Lw.St} {bk at':Int} {w:World} (h:MK C m s bk at' w) (nm:ByteArray) (ps:Int):PCx w (fun j=>m.mut C.g j∨ ¬ C.J j∧j<w.heap.size) ⟨m.av,m.cv,m.ab,m.cb,m.ai,m.ci⟩ ⟨nm,s.vs,ps,s.bs,s.is⟩:=by
 obtain ⟨iv,i1,i2,i3⟩:=h.oi
 refine ⟨h.vaR,fun j hj=> .inl (.inr (.inl hj)),⟨m.ab,m.cb,rfl,fun hn=> ?_⟩,fun j hj=> .inl (.inr (.inr (.inl hj))),fun hn=> ?_,fun j hj=> .inl (.inr (.inr (.inr hj)))⟩
 ·rcases h.obk.2 with ⟨_,h0⟩|⟨g,cap,cur,hv,_⟩
  ·exact absurd (List.length_eq_zero_iff.1 h0) hn
  ·obtain ⟨h1,-⟩:m.ab=some ⟨g,0,none⟩∧m.cb=cap:=by simpa using hv
   refine ⟨g,0,h1,fun k x hx=> ?_⟩
   have hc:=h.obk.cells (g:=g) (by rw [h1];rfl)
   have e: ∀ (j:Nat) u,(Cd.bcl x)[j]? =some u→w.cell? ⟨g,k * 4+j,none⟩=some u:=fun j u hu=>by
    have:=hc (k * 4+j) u (flatMap_cell (f:=Cd.bcl) (z:=4) (fun _=>rfl) s.bs k x hx j u hu)
    rwa [add_off] at this
   simpa using ⟨e 0 _ rfl,e 1 _ rfl,e 2 _ rfl,e 3 _ rfl⟩
 ·rcases i1.2 with ⟨_,h0⟩|⟨g,cap,cur,hv,_⟩
  ·exact absurd (List.length_eq_zero_iff.1 h0) hn
  ·obtain ⟨h1,-⟩:m.ai=some ⟨g,0,none⟩∧m.ci=cap:=by simpa using hv
   refine ⟨g,0,h1,fun k x hx=> ?_⟩
   obtain ⟨cs,hcs,ae,ce,aa,ca,e1,e2,e3⟩:=i3 k x hx
   have hlen: ∀ c ∈ iv,c.length=11:=by
    intro c hc
    obtain ⟨j,hj,he⟩:=List.mem_iff_getElem.1 hc
    obtain ⟨y,hy⟩: ∃ y,s.is[j]? =some y:=⟨_,List.getElem?_eq_getElem (by omega)⟩
    obtain ⟨cs2,h4,h5⟩:=i3 j y hy
    rw [List.getElem?_eq_getElem hj] at h4
    obtain rfl:=Option.some.inj h4
    rw [←he];exact h5.len
   refine ⟨ae,ce,aa,ca,fun j u hu=> ?_,e2.up (Kx.refl _ _) (fun j hj=> .inr ⟨hj.2.2,hj.1⟩),e3.up (Kx.refl _ _) (fun j hj=> .inr ⟨hj.2.2,hj.1⟩)⟩
   rw [←e1] at hu
   have hc:=i1.cells (g:=g) (by rw [h1];rfl) (k * 11+j) u (flatten_cell iv hlen k cs hcs j u hu)
   rw [add_off] at hc
   simpa using hc
theorem lRP_len {d:Sx.Tr} {c:List Value} (h:RP d c):c.length=2:=by
 obtain ⟨nm,T,_,rfl⟩:=h;rfl
set_option maxRecDepth 100000 in
set_option maxHeartbeats 2000000 in
theorem madeC_any {C:MC} {m:MA} {s s':Lw.St} {bk at':Int} {w:World} (P:Nat→Prop) (h:MK C m s bk at' w) (bx:Nat) (hP: ∀ j,P j→j<w.heap.size∧ ¬ m.mut C.g j) (ps:List Sx.Tr) (a:Option Addr) (c:Nat) (hbx:w.cell? ⟨bx,2,none⟩=some (.slice a ps.length c)) (hps:Sl RP w P ps (.slice a ps.length c)) (hl:ps.length≤1000000)
  (hs:((Lw.over s bk at' (ps.map fun p=>bs (Sx.pH p).1)).bind fun s2=>Lw.put s2 bk at' ⟨17,0,0,0,0,⟨#[]⟩,[],[],0,0,0⟩)=some s'):
  Calls Tryz.prog 28 #[.pointer (some ⟨bx,0,none⟩),.pointer (some ⟨C.g,0,none⟩)] w fun e w'=>e= .returned (.tuple #[])∧ ∃ m',MK C m' s' bk at' w'∧MS C.g m w m' w':=by
 obtain ⟨s2,hs1,hs2⟩:=Option.bind_eq_some_iff.1 hs
 have HM:=hide h
 have HPP:=hide hP
 have HPS:=hide hps
 have HS1:=hide hs1
 have HS2:=hide hs2
 clear h hP hps hs hs1 hs2
 go_enter Tryz.func28,Tryz.ntmps28
 go_wp2
 go_loopw [7] (fun iv wr=> ∃ (i:Nat) (mi:MA) (si:Lw.St),i≤ps.length∧iv= .int .i64 i∧Hid (MK C mi si bk at' wr)∧Hid (MS C.g m w mi wr)∧Hid (Lw.over si bk at' ((ps.drop i).map fun p=>bs (Sx.pH p).1)=some s2)) (fun iv _=>ps.length - (intOf iv).toNat)
 case atStart=>exact ⟨0,m,s,Nat.zero_le _,rfl,HM,hide (MS.refl _ _ _),by simpa using HS1⟩
 case round=>
  obtain ⟨i,mi,si,hi,rfl,HMI,HSI,HO⟩:=hrel
  clear HS1 HM
  by_cases hlt:i<ps.length
  ·have d1:decide ((i:Int)<(ps.length:Int))=true:=by simp;omega
   obtain ⟨d,hd⟩: ∃ y,ps[i]? =some y:=⟨_,List.getElem?_eq_getElem hlt⟩
   obtain ⟨a',c',hv,hps⟩:=HPS.out
   obtain ⟨rfl,rfl⟩:a=a'∧c=c':=by simpa using hv
   rcases hps with h0|⟨b,off,cs,rfl,hPb,hr,hc⟩
   ·subst h0;simp at hlt
   obtain ⟨cc,hrp,hcc⟩:=hr.at (z:=2) (fun d c h=>lRP_len h) i d hd
   obtain ⟨nm,T,rfl,rfl⟩:=hrp
   have ho:=HO.out
   rw [show ps.drop i=Sx.tP nm T::ps.drop (i+1) from by rw [List.drop_eq_getElem_cons hlt,(List.getElem?_eq_some_iff.1 hd).2],List.map_cons] at ho
   obtain ⟨sj,ho1,ho2⟩:=Lw.over_cons ho
   have HO2:=hide ho2
   have ho3:Lw.over si bk at' [bs nm]=some sj:=by
    show (Lw.ov1 si bk at' (bs nm)).bind (fun s2=>some s2)=some sj
    have ho4:Lw.ov1 si bk at' (bs nm)=some sj:=ho1
    rw [ho4];rfl
   have x0:wr.cell? ⟨b,off+i * 2,none⟩=some (.string (bs nm)):=by
    have:=HSI.out.cell (hc _ _ (hcc 0 _ rfl)) (HPP.out b hPb).2
    simpa using this
   have x1:wr.cell? ⟨b,off+i * 2+1,none⟩=some (.string (bs T)):=by
    have:=HSI.out.cell (hc _ _ (hcc 1 _ rfl)) (HPP.out b hPb).2
    simpa [Nat.add_assoc] using this
   have hb2:Below wr.heap.size wr ((wr.alloc (.cells #[.string (bs nm),.string (bs T)] 55)).alloc (.cells #[.string (bs nm)] 9)):=((Below.refl _ _).alloc (Nat.le_refl _) _).alloc (by simp) _
   have CO:=hide (lOver_any (HMI.out.below hb2) (some ⟨wr.heap.size+1,0,none⟩) 1 [bs nm] (one_tx (by simp [go_sem])) (fun j hj=>by
    have e:wr.heap.size+1=j:=by simpa [ob] using hj
    rw [←e];exact HMI.out.new (by omega)) (by simp) ho3)
   have HB2:=hide hb2
   have hi0':(0:Int)≤(i:Int):=by omega
   have hi1':(i:Int)<(ps.length:Int):=by omega
   clear ho ho1 ho2 ho3 hd hr hc hcc hv hb2 HO
   go_wp2_with fail
   refine CO.out.mono ?_
   rintro e w3 ⟨rfl,m3,hm3,hs3⟩
   have HM3:=hide hm3
   have HS3:=hide (HSI.out.trans ((MS.of_below HB2.out).trans hs3))
   clear hm3 hs3 CO HB2 HMI HSI x0 x1
   go_wp2
   go_roundw
   case rel=>exact ⟨i+1,m3,sj,by omega,by go_num,HM3,HS3,HO2⟩
   case measure=>simp [intOf];omega
  ·obtain rfl:i=ps.length:=by omega
   have d1:decide ((ps.length:Int)<(ps.length:Int))=false:=by simp
   have hfin:si=s2:=by have:=HO.out;rw [List.drop_length] at this;exact Option.some.inj this
   subst hfin
   have CP:=hide (mput_any HMI.out ⟨17,0,0,0,0,⟨#[]⟩,[],[],0,0,0⟩ HS2.out none 0 none 0 (ERn.nil _ _) (AGn.nil _ _))
   unfold IV at CP
   dsimp only at CP
   clear HO
   go_wp2_with fail
   refine CP.out.mono ?_
   rintro e w2 ⟨rfl,m2,hm2,hs2⟩
   have HM2:=hide hm2
   have HS3:=hide (HSI.out.trans hs2)
   clear hm2 hs2 CP
   go_wp2
   refine bodyPost_end (v:= .tuple #[]) (results_none rfl _ _ _) rfl ⟨rfl,m2,HM2.out,HS3.out⟩
end Go.Proofs.YtcdcoiobpbdmpaaGreatDoor
namespace Go.Proofs.YtcdcoiobpbdmpaaGreatDoor
open Go.RowKit
def PV.cl (q:PV) (p:Cd.Pr):List Value:=[.string p.name,.slice q.av p.vars.length q.cv,.int .i64 p.params,.slice q.ab p.blocks.length q.cb,.slice q.ai p.ins.length q.ci]
def flatP (qs:List PV) (pr:List Cd.Pr):List Value:=(List.zipWith PV.cl qs pr).flatten
theorem flatP_snoc {qs:List PV} {pr:List Cd.Pr} (h:qs.length=pr.length) (q:PV) (p:Cd.Pr):flatP (qs++[q]) (pr++[p])=flatP qs pr++q.cl p:=by
 unfold flatP
 rw [List.zipWith_append h]
 simp
structure VO (w:World) (B gv ov:Nat) (out:List (List Lw.Vr)) (AV:List (Option Addr × Nat)):Prop where
 ln:AV.length=out.length
 gB:B≤gv
 at': ∀ (k:Nat) x a,out[k]? =some x→AV[k]? =some a→w.cell? ⟨gv,ov+k,none⟩=some (.slice a.1 x.length a.2)∧w.ownsRow 0 98 2 (.slice a.1 x.length a.2) x.length (x.flatMap Cd.vcl)∧ ∀ j,ob a.1=some j→B≤j∧j ≠ gv
 ap: ∀ (k k2:Nat) a a2,k ≠ k2→AV[k]? =some a→AV[k2]? =some a2→ ∀ j,ob a.1=some j→ob a2.1 ≠ some j
structure LI (cb:Nat) (F:Nat→Prop) (pr:List Cd.Pr) (main:Int) (ap:Option Addr) (cp:Nat) (w:World):Prop where
 c0:w.cell? ⟨cb,0,none⟩=some (.slice ap pr.length cp)
 c1:w.cell? ⟨cb,1,none⟩=some (.int .i64 main)
 fz: ∀ k,w.frozen? ⟨cb,k,none⟩=false
 ow: ∃ qs:List PV,qs.length=pr.length∧w.ownsRow (cb+1) 39 5 (.slice ap pr.length cp) pr.length (flatP qs pr)∧ ∀ (k:Nat) q p,qs[k]? =some q→pr[k]? =some p→PCx w (fun j=>j<w.heap.size∧j ≠ cb∧ob ap ≠ some j∧ ¬ F j) q p
theorem LI.lt {cb:Nat} {F:Nat→Prop} {pr:List Cd.Pr} {main:Int} {ap:Option Addr} {cp:Nat} {w:World} (h:LI cb F pr main ap cp w):cb<w.heap.size:=World.block_lt_of_cell? _ _ h.c0
theorem LI.apl {cb:Nat} {F:Nat→Prop} {pr:List Cd.Pr} {main:Int} {ap:Option Addr} {cp:Nat} {w:World} (h:LI cb F pr main ap cp w): ∀ j,ob ap=some j→cb+1≤j∧j<w.heap.size:=fun j hj=>by
 obtain ⟨qs,_,h2,_⟩:=h.ow
 exact h2.lt j (by rw [ob_own];exact hj)
theorem LI.keep {cb:Nat} {F:Nat→Prop} {pr:List Cd.Pr} {main:Int} {ap:Option Addr} {cp:Nat} {w w':World} (h:LI cb F pr main ap cp w) (hk:Kx (fun j=> ¬ F j) w w') (hF: ¬ F cb∧ ∀ j,ob ap=some j→ ¬ F j):LI cb F pr main ap cp w':=by
 obtain ⟨qs,h1,h2,h3⟩:=h.ow
 refine ⟨hk.cell h.c0 hF.1,hk.cell h.c1 hF.1,fun k=>(hk.frozen (p:=⟨cb,k,none⟩) h.lt hF.1).trans (h.fz k),qs,h1,own_keepT h2 (fun j hj=>hk.block j (h2.lt j hj).2 (hF.2 j (by rw [←ob_own ap pr.length cp];exact hj))),fun k q p hq hp=>(h3 k q p hq hp).up (hk.mono (fun j _ hj=>hj.2.2.2)) (fun j hj=>⟨Nat.lt_of_lt_of_le hj.1 hk.size,hj.2⟩)⟩
theorem LI.less {cb:Nat} {F F':Nat→Prop} {pr:List Cd.Pr} {main:Int} {ap:Option Addr} {cp:Nat} {w:World} (h:LI cb F pr main ap cp w) (hF: ∀ j,F' j→F j):LI cb F' pr main ap cp w:=by
 obtain ⟨qs,h1,h2,h3⟩:=h.ow
 exact ⟨h.c0,h.c1,h.fz,qs,h1,h2,fun k q p hq hp=>(h3 k q p hq hp).up (Kx.refl _ _) (fun j hj=>⟨hj.1,hj.2.1,hj.2.2.1,fun e=>hj.2.2.2 (hF j e)⟩)⟩
theorem LI.setMain {cb:Nat} {F:Nat→Prop} {pr:List Cd.Pr} {main:Int} {ap:Option Addr} {cp:Nat} {w:World} (h:LI cb F pr main ap cp w) (m2:Int):LI cb F pr m2 ap cp (w.setCell ⟨cb,1,none⟩ (.int .i64 m2)):=by
 obtain ⟨qs,h1,h2,h3⟩:=h.ow
 have hset: ∀ j,j ≠ cb→(w.setCell ⟨cb,1,none⟩ (.int .i64 m2)).heap[j]? =w.heap[j]? :=fun j hj=>Below.heap_setCell _ _ _ _ (fun e=>hj e)
 have hsz:(w.setCell ⟨cb,1,none⟩ (.int .i64 m2)).heap.size=w.heap.size:=by simp [World.setCell]
 refine ⟨(World.cell?_setCell_other _ _ _ _ (fun e=>by injection e with e1 e2;omega)).trans h.c0,World.cell?_setCell_same _ _ _ h.c1,fun k=>by rw [World.frozen?_setCell];exact h.fz k,qs,h1,own_keepT h2 (fun j hj=>hset j (by have:=(h2.lt j hj).1;omega)),fun k q p hq hp=>(h3 k q p hq hp).up ((Kx.refl _ _).set (.inr (fun hn=>hn.2.1 rfl)) _) (fun j hj=>⟨by rw [hsz];exact hj.1,hj.2⟩)⟩
theorem LI.push {cb:Nat} {F:Nat→Prop} {pr:List Cd.Pr} {main:Int} {ap:Option Addr} {cp:Nat} {w2 w7:World} {gn cap:Nat} {q:PV} {p:Cd.Pr} (h:LI cb F pr main ap cp w2) (hq:PCx w2 (fun j=>j<w2.heap.size∧j ≠ cb∧ob ap ≠ some j∧ ¬ F j) q p)
  (hown: ∀ xs,w2.ownsRow (cb+1) 39 5 (.slice ap pr.length cp) pr.length xs→w7.ownsRow (cb+1) 39 5 (.slice (some ⟨gn,0,none⟩) (pr.length+1) cap) (pr.length+1) (xs++q.cl p)) (hgr:w2.grownBy w7 (Value.slice ap pr.length cp).ownBlock) (hat:(Value.slice ap pr.length cp).ownBlock=some gn∨gn=w2.heap.size):
  LI cb F (pr++[p]) main (some ⟨gn,0,none⟩) cap (w7.setCell ⟨cb,0,none⟩ (.slice (some ⟨gn,0,none⟩) (pr.length+1) cap))∧Kx (fun j=>j ≠ cb∧ob ap ≠ some j) w2 (w7.setCell ⟨cb,0,none⟩ (.slice (some ⟨gn,0,none⟩) (pr.length+1) cap)):=by
 obtain ⟨qs,h1,h2,h3⟩:=h.ow
 rw [ob_own] at hgr hat
 have hcb:ob ap ≠ some cb:=fun e=>by have:=(h.apl cb e).1;omega
 have hbl: ∀ j,j<w2.heap.size→ob ap ≠ some j→w7.heap[j]? =w2.heap[j]? :=fun j hj hne=>hgr.block j hj (fun e=>hne e.symm)
 have hsz:(w7.setCell ⟨cb,0,none⟩ (.slice (some ⟨gn,0,none⟩) (pr.length+1) cap)).heap.size=w7.heap.size:=by simp [World.setCell]
 have hc: ∀ k,w7.cell? ⟨cb,k,none⟩=w2.cell? ⟨cb,k,none⟩:=fun k=>World.cell?_of_block (a:=⟨cb,k,none⟩) (hbl cb h.lt hcb)
 have kx:Kx (fun j=>j ≠ cb∧ob ap ≠ some j) w2 (w7.setCell ⟨cb,0,none⟩ (.slice (some ⟨gn,0,none⟩) (pr.length+1) cap)):=((Kx.refl _ _).grown hgr (fun k hk=> .inr (fun hn=>hn.2 hk))).set (.inr (fun hn=>hn.1 rfl)) _
 have hN: ∀ j,(j<w2.heap.size∧j ≠ cb∧ob ap ≠ some j∧ ¬ F j)→(j<(w7.setCell ⟨cb,0,none⟩ (.slice (some ⟨gn,0,none⟩) (pr.length+1) cap)).heap.size∧j ≠ cb∧ob (some (⟨gn,0,none⟩:Addr)) ≠ some j∧ ¬ F j):=fun j hj=>⟨by rw [hsz];exact Nat.lt_of_lt_of_le hj.1 hgr.size,hj.2.1,fun e=>by
  have e2:gn=j:=by simpa [ob] using e
  rcases hat with h4|h4
  ·exact hj.2.2.1 (by rw [h4,e2])
  ·have:=hj.1;omega,hj.2.2.2⟩
 refine ⟨⟨?_,?_,fun k=> ?_,qs++[q],by simp [h1],?_,fun k q2 p2 hq2 hp2=> ?_⟩,kx⟩
 ·rw [List.length_append];exact World.cell?_setCell_same _ _ _ ((hc 0).trans h.c0)
 ·exact (World.cell?_setCell_other _ _ _ _ (fun e=>by injection e with e1 e2;omega)).trans ((hc 1).trans h.c1)
 ·rw [World.frozen?_setCell]
  exact (World.frozen?_of_block (a:=⟨cb,k,none⟩) (hbl cb h.lt hcb)).trans (h.fz k)
 ·rw [List.length_append,flatP_snoc h1]
  exact ownsRow_setCell_below (hown _ h2) (a:=⟨cb,0,none⟩) (by show cb<cb+1;omega) _
 ·have kxN:=kx.mono (Y:=fun j=>j<w2.heap.size∧j ≠ cb∧ob ap ≠ some j∧ ¬ F j) (fun j _ hj=>⟨hj.2.1,hj.2.2.1⟩)
  rcases Nat.lt_or_ge k pr.length with hk|hk
  ·rw [List.getElem?_append_left (by omega)] at hq2
   rw [List.getElem?_append_left hk] at hp2
   exact (h3 k q2 p2 hq2 hp2).up kxN hN
  ·rw [List.getElem?_append_right (by omega)] at hq2
   rw [List.getElem?_append_right hk] at hp2
   have hk0:k - pr.length=0:=by
    have:=(List.getElem?_eq_some_iff.1 hp2).1
    simp at this;omega
   rw [show k - qs.length=0 from by omega] at hq2
   rw [hk0] at hp2
   obtain rfl:q=q2:=by simpa using hq2
   obtain rfl:p=p2:=by simpa using hp2
   exact hq.up kxN hN
theorem LI.abm {cb:Nat} {F:Nat→Prop} {pr:List Cd.Pr} {main:Int} {ap:Option Addr} {cp:Nat} {w:World} (h:LI cb F pr main ap cp w) (P:Nat→Prop) (hl:pr.length≤1000000) (hP: ∀ j,j<w.heap.size→ ¬ F j→P j) (hF: ∀ j,ob ap=some j→ ¬ F j):ABm w P (.slice ap pr.length cp) (pr.map fun p=>(p.name,p.vars)):=by
 obtain ⟨qs,h1,h2,h3⟩:=h.ow
 refine ⟨ap,cp,by rw [List.length_map],by rw [List.length_map];exact hl,fun hn=> ?_⟩
 rcases h2.2 with ⟨_,h0⟩|⟨g,cap,cur,hv,_⟩
 ·have:pr=[]:=List.length_eq_zero_iff.1 h0
  subst this;exact absurd rfl hn
 obtain ⟨h4,-⟩:ap=some ⟨g,0,none⟩∧cp=cap:=by simpa using hv
 have hg:=h2.lt g (by rw [h4];rfl)
 refine ⟨g,0,h4,hP g hg.2 (hF g (by rw [h4];rfl)),fun k x hx=> ?_⟩
 rw [List.getElem?_map] at hx
 obtain ⟨p,hp,rfl⟩:=Option.map_eq_some_iff.1 hx
 have hk:=(List.getElem?_eq_some_iff.1 hp).1
 obtain ⟨q,hq⟩: ∃ q,qs[k]? =some q:=⟨_,List.getElem?_eq_getElem (by omega)⟩
 have hz:(List.zipWith PV.cl qs pr)[k]? =some (q.cl p):=by rw [List.getElem?_zipWith,hq,hp]
 have hlen: ∀ c ∈ List.zipWith PV.cl qs pr,c.length=5:=by
  intro c hc
  obtain ⟨j,hj,he⟩:=List.mem_iff_getElem.1 hc
  rw [←he,List.getElem_zipWith];rfl
 have hc:=h2.cells (g:=g) (by rw [h4];rfl)
 have e: ∀ (j:Nat) u,(q.cl p)[j]? =some u→w.cell? ⟨g,k * 5+j,none⟩=some u:=fun j u hu=>by
  have:=hc (k * 5+j) u (flatten_cell _ hlen k _ hz j u hu)
  rwa [add_off] at this
 have hx:=h3 k q p hq hp
 refine ⟨q.av,q.cv,p.params,q.ab,p.blocks.length,q.cb,q.ai,p.ins.length,q.ci,?_,?_,?_,?_,?_,hx.vars,fun j hj=>hP j (hx.nv j hj).1 (hx.nv j hj).2.2.2⟩
 ·simpa using e 0 _ rfl
 ·simpa using e 1 _ rfl
 ·simpa using e 2 _ rfl
 ·simpa using e 3 _ rfl
 ·simpa using e 4 _ rfl
end Go.Proofs.YtcdcoiobpbdmpaaGreatDoor
