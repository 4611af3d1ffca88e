import Derived.Test.YtcdcoiobpbdmpaaGreatDoorMaa
namespace Go.Proofs.YtcdcoiobpbdmpaaGreatDoor
open Go.RowKit
def ansV (a:Tk.Ans) (p:Nat) (t:ByteArray):Value:=
 if a.code=0 then .tuple #[.agg #[.int .i64 a.kind,.int .i64 (p:Int),.string t,.int .i64 a.n],.agg #[.int .i64 0,.int .i64 0]]
 else .tuple #[.agg #[.int .i64 0,.int .i64 0,.string ⟨#[]⟩,.int .i64 0],.agg #[.int .i64 a.code,.int .i64 (p:Int)]]
set_option maxHeartbeats 400000 in
theorem numberToken_any (s:ByteArray) (p:Nat) (w:World) (hs:s.size≤1099511627776):
  Calls Tryz.prog 60 #[.string s,.int .i64 p] w fun e w'=>e= .returned (ansV (Tk.numAns s.data.toList) p s)∧Below w.heap.size w w':=by
 have hc:=fun w=>numberOf_any s w hs
 unfold Tk.numAns
 cases hn:Tk.numOf s.data.toList with
 |none=>
  rw [hn] at hc
  have HC:=hide hc
  clear hc hn
  go_enter Tryz.func60,Tryz.ntmps60
  go_wp2_with fail
  refine (HC.out _).mono ?_
  rintro e w1 ⟨rfl,hw⟩
  subst hw
  go_wp2
  exact bodyPost_ret (v:=ansV ⟨3,0,0,0⟩ p s) (by simp [results,Tryz.results60,go_sem,ansV]) rfl ⟨rfl,by first|exact ((Below.refl _ _).alloc (Nat.le_refl _) _).alloc (by simp) _|exact (((((((Below.refl _ _).alloc (Nat.le_refl _) _).alloc (by simp) _).setCell (by simp) _).setCell (by simp) _).setCell (by simp) _).setCell (by simp) _)⟩
 |some n=>
  rw [hn] at hc
  have HC:=hide hc
  clear hc hn
  go_enter Tryz.func60,Tryz.ntmps60
  go_wp2_with fail
  refine (HC.out _).mono ?_
  rintro e w1 ⟨rfl,hw⟩
  subst hw
  go_wp2
  exact bodyPost_ret (v:=ansV ⟨0,3,s.data.toList.length,n⟩ p s) (by simp [results,Tryz.results60,go_sem,ansV]) rfl ⟨rfl,by first|exact ((Below.refl _ _).alloc (Nat.le_refl _) _).alloc (by simp) _|exact (((((((Below.refl _ _).alloc (Nat.le_refl _) _).alloc (by simp) _).setCell (by simp) _).setCell (by simp) _).setCell (by simp) _).setCell (by simp) _)⟩
set_option maxHeartbeats 400000 in
theorem nameToken_any (s:ByteArray) (p:Nat) (w:World) (hw:WTab w) (hs:s.size≤1099511627776):
  Calls Tryz.prog 61 #[.string s,.int .i64 p] w fun e w'=>e= .returned (ansV (Tk.nameAns s.data.toList) p s)∧Below w.heap.size w w':=by
 have hc:=fun w hw=>word_any s w hw
 have hz:=Lib.size_eq s
 unfold Tk.nameAns
 cases hn:Tk.isW s.data.toList with
 |true=>
  rw [hn] at hc
  rw [if_pos rfl]
  have HC:=hide hc
  have HW:=hide hw
  clear hc hn hz hw
  go_enter Tryz.func61,Tryz.ntmps61
  go_wp2_with fail
  refine (HC.out _ (HW.out.below (by first|exact ((Below.refl _ _).alloc (Nat.le_refl _) _).alloc (by simp) _|exact (((((((Below.refl _ _).alloc (Nat.le_refl _) _).alloc (by simp) _).setCell (by simp) _).setCell (by simp) _).setCell (by simp) _).setCell (by simp) _)))).mono ?_
  rintro e w1 ⟨rfl,hw⟩
  subst hw
  go_wp2
  exact bodyPost_ret (v:=ansV ⟨0,1,s.data.toList.length,0⟩ p s) (by simp [results,Tryz.results61,go_sem,ansV]) rfl ⟨rfl,by first|exact ((Below.refl _ _).alloc (Nat.le_refl _) _).alloc (by simp) _|exact (((((((Below.refl _ _).alloc (Nat.le_refl _) _).alloc (by simp) _).setCell (by simp) _).setCell (by simp) _).setCell (by simp) _).setCell (by simp) _)⟩
 |false=>
  rw [hn] at hc
  rw [if_neg (by simp)]
  have HC:=hide hc
  have HW:=hide hw
  by_cases h12:12<s.size
  ·rw [if_pos (by omega)]
   have d1:decide ((12:Int)<(s.size:Int))=true:=by simp;omega
   clear hc hn hz hw
   go_enter Tryz.func61,Tryz.ntmps61
   go_wp2_with fail
   refine (HC.out _ (HW.out.below (by first|exact ((Below.refl _ _).alloc (Nat.le_refl _) _).alloc (by simp) _|exact (((((((Below.refl _ _).alloc (Nat.le_refl _) _).alloc (by simp) _).setCell (by simp) _).setCell (by simp) _).setCell (by simp) _).setCell (by simp) _)))).mono ?_
   rintro e w1 ⟨rfl,hw⟩
   subst hw
   go_wp2
   exact bodyPost_ret (v:=ansV ⟨4,0,0,0⟩ p s) (by simp [results,Tryz.results61,go_sem,ansV]) rfl ⟨rfl,by first|exact ((Below.refl _ _).alloc (Nat.le_refl _) _).alloc (by simp) _|exact (((((((Below.refl _ _).alloc (Nat.le_refl _) _).alloc (by simp) _).setCell (by simp) _).setCell (by simp) _).setCell (by simp) _).setCell (by simp) _)⟩
  ·rw [if_neg (by omega)]
   have d1:decide ((12:Int)<(s.size:Int))=false:=by simp;omega
   clear hc hn hz hw
   go_enter Tryz.func61,Tryz.ntmps61
   go_wp2_with fail
   refine (HC.out _ (HW.out.below (by first|exact ((Below.refl _ _).alloc (Nat.le_refl _) _).alloc (by simp) _|exact (((((((Below.refl _ _).alloc (Nat.le_refl _) _).alloc (by simp) _).setCell (by simp) _).setCell (by simp) _).setCell (by simp) _).setCell (by simp) _)))).mono ?_
   rintro e w1 ⟨rfl,hw⟩
   subst hw
   go_wp2
   exact bodyPost_ret (v:=ansV ⟨0,2,s.data.toList.length,0⟩ p s) (by simp [results,Tryz.results61,go_sem,ansV]) rfl ⟨rfl,by first|exact ((Below.refl _ _).alloc (Nat.le_refl _) _).alloc (by simp) _|exact (((((((Below.refl _ _).alloc (Nat.le_refl _) _).alloc (by simp) _).setCell (by simp) _).setCell (by simp) _).setCell (by simp) _).setCell (by simp) _)⟩
def signBytes:ByteArray:=⟨#[40,41,123,125,44,59,43,45,42,60,61]⟩
theorem index_low (l:List UInt8) (c:UInt8): -1≤Lib.indexByte l c:=by
 induction l with
 |nil=>simp [Lib.indexByte]
 |cons b t ih=>
  simp only [Lib.indexByte]
  repeat' split
  all_goals omega
theorem index_has (l:List UInt8) (c:UInt8):(0≤Lib.indexByte l c) ↔ l.contains c=true:=by
 induction l with
 |nil=>simp [Lib.indexByte]
 |cons b t ih=>
  have hl:=index_low t c
  simp only [Lib.indexByte,List.contains_cons,Bool.or_eq_true]
  rw [←ih]
  by_cases h:b=c
  ·subst h;simp
  ·have h1:(b == c)=false:=by simpa using h
   have h2:(c == b)=false:=by simpa using fun e=>h e.symm
   rw [h1,h2]
   simp only [Bool.false_eq_true,if_false,false_or]
   by_cases h3:Lib.indexByte t c= -1
   ·rw [h3];simp
   ·rw [if_neg (by simpa using h3)];omega
theorem index_signs (b:UInt8):(0≤Lib.indexByte signBytes.data.toList b) ↔ Tk.signs.contains b=true:=index_has _ b
def signLen (l:List UInt8):Nat:=if Lib.hasPrefix l [61,61] then 2 else if Tk.signs.contains (l.headD 0) then 1 else 0
set_option maxHeartbeats 400000 in
theorem signSize_any (s:ByteArray) (w:World) (h0:0<s.size):
  Calls Tryz.prog 62 #[.string s] w fun e w'=>e= .returned (.int .i64 (signLen s.data.toList:Int))∧w'=w:=by
 have hd:=drop_at s 0 h0
 rw [List.drop_zero] at hd
 have hh:s.data.toList.headD 0=s[0]:=by rw [hd];rfl
 unfold signLen
 rw [hh]
 clear hd hh
 have hp:=fun w=>hasPrefix_any s ⟨#[61,61]⟩ w
 have hi:=fun w=>indexByte_any signBytes (s[0].toNat:Int) w
 have e1:(⟨#[61,61]⟩:ByteArray).data.toList=[61,61]:=rfl
 rw [e1] at hp
 have e2:((s[0].toNat:Int)).toNat.toUInt8=s[0]:=by simp
 rw [e2] at hi
 have hx:=index_signs s[0]
 have HP:=hide hp
 have HI:=hide hi
 clear hp hi
 cases hpre:Lib.hasPrefix s.data.toList [61,61]
 ·rw [if_neg (by simp)]
  generalize Lib.indexByte signBytes.data.toList s[0]=q at *
  cases hc:Tk.signs.contains s[0]
  ·rw [if_neg (by simp)]
   have hq:decide (0≤q)=false:=by rw [hc] at hx;simpa using hx
   clear hx hc
   go_enter Tryz.func62,Tryz.ntmps62
   go_wp2_with (first|(go_at_call 84;refine (HP.out _).mono ?_;rintro e w' ⟨rfl,hw⟩;subst hw)|(go_at_call 89;refine (HI.out _).mono ?_;rintro e w' ⟨rfl,hw⟩;subst hw))
   go_ret
   exact ⟨rfl,rfl⟩
  ·rw [if_pos rfl]
   have hq:decide (0≤q)=true:=by rw [hc] at hx;simpa using hx
   clear hx hc
   go_enter Tryz.func62,Tryz.ntmps62
   go_wp2_with (first|(go_at_call 84;refine (HP.out _).mono ?_;rintro e w' ⟨rfl,hw⟩;subst hw)|(go_at_call 89;refine (HI.out _).mono ?_;rintro e w' ⟨rfl,hw⟩;subst hw))
   go_ret
   exact ⟨rfl,rfl⟩
 ·rw [if_pos rfl]
  clear hx
  go_enter Tryz.func62,Tryz.ntmps62
  go_wp2_with (first|(go_at_call 84;refine (HP.out _).mono ?_;rintro e w' ⟨rfl,hw⟩;subst hw)|(go_at_call 89;refine (HI.out _).mono ?_;rintro e w' ⟨rfl,hw⟩;subst hw))
  go_ret
  exact ⟨rfl,rfl⟩
end Go.Proofs.YtcdcoiobpbdmpaaGreatDoor
namespace Go.Proofs.YtcdcoiobpbdmpaaGreatDoor
open Go.RowKit
theorem ansV_congr (a:Tk.Ans) (p:Nat) (t t':ByteArray) (h:a.code=0→t=t'):ansV a p t=ansV a p t':=by
 unfold ansV
 split
 ·rename_i h0;rw [h h0]
 ·rfl
theorem ansV_form (a:Tk.Ans) (p:Nat) (t:ByteArray): ∃ k q t' n c r,ansV a p t= .tuple #[.agg #[.int .i64 k,.int .i64 q,.string t',.int .i64 n],.agg #[.int .i64 c,.int .i64 r]]:=by
 unfold ansV
 split
 ·exact ⟨_,_,_,_,_,_,rfl⟩
 ·exact ⟨_,_,_,_,_,_,rfl⟩
theorem ext_list (s:ByteArray) (a b:Nat):(s.extract a b).data.toList=(s.data.toList.drop a).take (b - a):=by
 rw [←Lib.toList_data,Lib.extract_toList]
theorem signAns_eq (l:List UInt8) (hl:l ≠ []):Tk.signAns l=if signLen l=0 then ⟨2,0,0,0⟩ else ⟨0,4,signLen l,0⟩:=by
 unfold Tk.signAns signLen
 split
 ·exact absurd rfl hl
 ·simp [Lib.hasPrefix]
 ·rename_i b t hn
  have hp:Lib.hasPrefix (b::t) [61,61]=false:=by
   cases hq:Lib.hasPrefix (b::t) [61,61] with
   |false=>rfl
   |true=>
    exfalso
    obtain ⟨r,hr⟩:=List.isPrefixOf_iff_prefix.1 hq
    simp only [List.cons_append,List.nil_append,List.cons.injEq] at hr
    exact hn r hr.1.symm hr.2.symm
  rw [hp]
  by_cases hc:Tk.signs.contains b=true
  ·simp only [List.headD_cons,hc,Bool.false_eq_true,if_false,if_true]
   rfl
  ·simp only [List.headD_cons,hc,Bool.false_eq_true,if_false]
   rfl
theorem drop_ne (s:ByteArray) (p:Nat) (h:p<s.size):s.data.toList.drop p ≠ []:=by
 rw [drop_at s p h];simp
theorem head_run (s:ByteArray) (p r:Nat) (hr:0<r) (hp:p+r≤s.size) (h0:0<(s.extract p (p+r)).size):(s.extract p (p+r))[0]=(s.data.toList.drop p).headD 0:=by
 have h1:=drop_at (s.extract p (p+r)) 0 h0
 rw [List.drop_zero,ext_list] at h1
 rw [drop_at s p (by omega)] at h1 ⊢
 rw [show p+r - p=(r - 1)+1 from by omega,List.take_succ_cons] at h1
 simp only [List.cons.injEq] at h1
 exact h1.1.symm
structure ResAt (w:World) (b:Nat):Prop where
 c0:w.cell? ⟨b,0,none⟩=some (.int .i64 0)
 c1:w.cell? ⟨b,1,none⟩=some (.int .i64 0)
 c2:w.cell? ⟨b,2,none⟩=some (.string ⟨#[]⟩)
 c3:w.cell? ⟨b,3,none⟩=some (.int .i64 0)
 d0:w.cell? ⟨b+1,0,none⟩=some (.int .i64 0)
 d1:w.cell? ⟨b+1,1,none⟩=some (.int .i64 0)
 f0:w.frozen? ⟨b,0,none⟩=false
 f1:w.frozen? ⟨b,1,none⟩=false
 f2:w.frozen? ⟨b,2,none⟩=false
 f3:w.frozen? ⟨b,3,none⟩=false
 g0:w.frozen? ⟨b+1,0,none⟩=false
 g1:w.frozen? ⟨b+1,1,none⟩=false
theorem resAt_of {w w4:World} (hb:Below (w.heap.size+2) ((w.alloc (.cells #[.int .i64 0,.int .i64 0,.string ⟨#[]⟩,.int .i64 0] 103)).alloc (.cells #[.int .i64 0,.int .i64 0] 31)) w4):ResAt w4 w.heap.size:=by
 constructor
 ·rw [hb.cell (p:=⟨w.heap.size,0,none⟩) (by show w.heap.size<_;omega)];simp [go_sem]
 ·rw [hb.cell (p:=⟨w.heap.size,1,none⟩) (by show w.heap.size<_;omega)];simp [go_sem]
 ·rw [hb.cell (p:=⟨w.heap.size,2,none⟩) (by show w.heap.size<_;omega)];simp [go_sem]
 ·rw [hb.cell (p:=⟨w.heap.size,3,none⟩) (by show w.heap.size<_;omega)];simp [go_sem]
 ·rw [hb.cell (p:=⟨w.heap.size+1,0,none⟩) (by show w.heap.size+1<_;omega)];simp [go_sem]
 ·rw [hb.cell (p:=⟨w.heap.size+1,1,none⟩) (by show w.heap.size+1<_;omega)];simp [go_sem]
 ·rw [hb.frozen (p:=⟨w.heap.size,0,none⟩) (by show w.heap.size<_;omega)];simp [go_sem]
 ·rw [hb.frozen (p:=⟨w.heap.size,1,none⟩) (by show w.heap.size<_;omega)];simp [go_sem]
 ·rw [hb.frozen (p:=⟨w.heap.size,2,none⟩) (by show w.heap.size<_;omega)];simp [go_sem]
 ·rw [hb.frozen (p:=⟨w.heap.size,3,none⟩) (by show w.heap.size<_;omega)];simp [go_sem]
 ·rw [hb.frozen (p:=⟨w.heap.size+1,0,none⟩) (by show w.heap.size+1<_;omega)];simp [go_sem]
 ·rw [hb.frozen (p:=⟨w.heap.size+1,1,none⟩) (by show w.heap.size+1<_;omega)];simp [go_sem]
set_option maxHeartbeats 1000000 in
theorem tokenAt_run (s:ByteArray) (p r:Nat) (w:World) (hw:WTab w) (hs:s.size≤20000) (hr:Tk.run (s.data.toList.drop p)=r) (h0:0<r) (hp:p+r≤s.size):
  Calls Tryz.prog 35 #[.string s,.int .i64 p] w fun e w'=>e= .returned (ansV (if Tk.isD ((s.data.toList.drop p).headD 0) then Tk.numAns ((s.data.toList.drop p).take r) else Tk.nameAns ((s.data.toList.drop p).take r)) p (s.extract p (p+r)))∧Below w.heap.size w w':=by
 have hre:=fun w=>runEnd_any s p w (by omega) (by omega)
 rw [hr] at hre
 obtain ⟨X,hX⟩: ∃ X,X=s.extract p (p+r):=⟨_,rfl⟩
 have hxs:X.size=r:=by rw [hX,ByteArray.size_extract];omega
 have hx0:0<X.size:=by omega
 have hxl:X.data.toList=(s.data.toList.drop p).take r:=by rw [hX,ext_list,show p+r - p=r from by omega]
 have hh:X[0]=(s.data.toList.drop p).headD 0:=by subst hX;exact head_run s p r h0 hp hx0
 have hcl:=fun w=>clone_any X w (by omega)
 have hnu:=fun w=>numberToken_any X p w (by omega)
 have hna:=fun w hw=>nameToken_any X p w hw (by omega)
 have hdi:=fun w=>isDigit_any X[0] w
 rw [←hX,←hh,←hxl]
 generalize Tk.numAns X.data.toList=A1 at *
 generalize Tk.nameAns X.data.toList=A2 at *
 have HX:=hide hX
 have HRE:=hide hre
 have HCL:=hide hcl
 have HNU:=hide hnu
 have HNA:=hide hna
 have HDI:=hide hdi
 have HW:=hide hw
 have d1:decide (p<p+r)=true:=by simp;omega
 clear hre hcl hnu hna hdi hw hh hr hxl hX
 obtain ⟨k1,q1,t1,n1,c1,r1,hv1⟩:=ansV_form A1 p X
 obtain ⟨k2,q2,t2,n2,c2,r2,hv2⟩:=ansV_form A2 p X
 rw [hv1] at HNU
 rw [hv2] at HNA
 cases hD:Tk.isD X[0]
 ·rw [if_neg (by simp),hv2]
  clear hv1 hv2
  go_enter Tryz.func35,Tryz.ntmps35
  go_wp2_with fail
  refine (HRE.out _).mono ?_
  rintro e w1 ⟨rfl,hw⟩
  subst hw
  go_wp2_with fail
  rw [←HX.out]
  refine (HCL.out _).mono ?_
  rintro e w2 ⟨rfl,hb2⟩
  have hb02:Below w.heap.size w w2:=(((Below.refl _ w).alloc (Nat.le_refl _) _).alloc (by simp) _).trans (hb2.mono (by simp;omega))
  have HB2:=hide (hb2.mono (B':=w.heap.size+2) (by simp))
  have hz2:w.heap.size+2≤w2.heap.size:=by have:=hb2.size;simpa using this
  clear hb2
  go_wp2_with fail
  refine (HDI.out _).mono ?_
  rintro e w3 ⟨rfl,hw⟩
  subst hw
  go_wp2_with fail
  refine (HNA.out _ (HW.out.below hb02)).mono ?_
  rintro e w4 ⟨rfl,hb4⟩
  have hz4:=hb4.size
  have hb04:=hide (hb02.trans (hb4.mono (by omega)))
  obtain ⟨c0,c1',c2',c3,d0,d1',f0,f1,f2,f3,g0,g1⟩:=resAt_of (HB2.out.trans (hb4.mono (by omega)))
  clear hb4 hb02
  go_wp2
  exact bodyPost_ret (v:= .tuple #[.agg #[.int .i64 k2,.int .i64 q2,.string t2,.int .i64 n2],.agg #[.int .i64 c2,.int .i64 r2]]) (by simp [results,Tryz.results35,go_sem, *]) rfl ⟨rfl,((((((hb04.out.setCell (by simp) _).setCell (by simp) _).setCell (by simp) _).setCell (by simp) _).setCell (by simp) _).setCell (by simp) _)⟩
 ·rw [if_pos rfl,hv1]
  clear hv1 hv2
  go_enter Tryz.func35,Tryz.ntmps35
  go_wp2_with fail
  refine (HRE.out _).mono ?_
  rintro e w1 ⟨rfl,hw⟩
  subst hw
  go_wp2_with fail
  rw [←HX.out]
  refine (HCL.out _).mono ?_
  rintro e w2 ⟨rfl,hb2⟩
  have hb02:Below w.heap.size w w2:=(((Below.refl _ w).alloc (Nat.le_refl _) _).alloc (by simp) _).trans (hb2.mono (by simp;omega))
  have HB2:=hide (hb2.mono (B':=w.heap.size+2) (by simp))
  have hz2:w.heap.size+2≤w2.heap.size:=by have:=hb2.size;simpa using this
  clear hb2
  go_wp2_with fail
  refine (HDI.out _).mono ?_
  rintro e w3 ⟨rfl,hw⟩
  subst hw
  go_wp2_with fail
  refine (HNU.out _).mono ?_
  rintro e w4 ⟨rfl,hb4⟩
  have hz4:=hb4.size
  have hb04:=hide (hb02.trans (hb4.mono (by omega)))
  obtain ⟨c0,c1',c2',c3,d0,d1',f0,f1,f2,f3,g0,g1⟩:=resAt_of (HB2.out.trans (hb4.mono (by omega)))
  clear hb4 hb02
  go_wp2
  exact bodyPost_ret (v:= .tuple #[.agg #[.int .i64 k1,.int .i64 q1,.string t1,.int .i64 n1],.agg #[.int .i64 c1,.int .i64 r1]]) (by simp [results,Tryz.results35,go_sem, *]) rfl ⟨rfl,((((((hb04.out.setCell (by simp) _).setCell (by simp) _).setCell (by simp) _).setCell (by simp) _).setCell (by simp) _).setCell (by simp) _)⟩
set_option maxHeartbeats 1000000 in
theorem tokenAt_sign (s:ByteArray) (p m:Nat) (w:World) (hs:s.size≤20000) (hr:Tk.run (s.data.toList.drop p)=0) (hp:p<s.size) (hm:signLen (s.data.toList.drop p)=m) (hpm:p+m≤s.size):
  Calls Tryz.prog 35 #[.string s,.int .i64 p] w fun e w'=>e= .returned (ansV (if m=0 then ⟨2,0,0,0⟩ else ⟨0,4,m,0⟩) p (s.extract p (p+m)))∧Below w.heap.size w w':=by
 have hre:=fun w=>runEnd_any s p w (by omega) (by omega)
 rw [hr] at hre
 have hsz:(s.extract p s.size).size=s.size - p:=by rw [ByteArray.size_extract];omega
 have hsg:=fun w=>signSize_any (s.extract p s.size) w (by omega)
 rw [ext_list,List.take_of_length_le (by rw [List.length_drop,←Lib.size_eq];omega),hm] at hsg
 have hxs:(s.extract p (p+m)).size=m:=by rw [ByteArray.size_extract];omega
 have hcl:=fun w=>clone_any (s.extract p (p+m)) w (by omega)
 have HRE:=hide hre
 have HSG:=hide hsg
 have HCL:=hide hcl
 clear hre hsg hcl hr hm hxs hsz
 by_cases h0:m=0
 ·subst h0
  rw [if_pos rfl]
  go_enter Tryz.func35,Tryz.ntmps35
  go_wp2_with fail
  refine (HRE.out _).mono ?_
  rintro e w1 ⟨rfl,hw⟩
  subst hw
  go_wp2_with fail
  refine (HSG.out _).mono ?_
  rintro e w2 ⟨rfl,hw⟩
  subst hw
  go_wp2
  exact bodyPost_ret (v:=ansV ⟨2,0,0,0⟩ p (s.extract p (p+0))) (by simp [results,Tryz.results35,go_sem,ansV]) rfl ⟨rfl,by first|exact ((Below.refl _ _).alloc (Nat.le_refl _) _).alloc (by simp) _|exact (((((((Below.refl _ _).alloc (Nat.le_refl _) _).alloc (by simp) _).setCell (by simp) _).setCell (by simp) _).setCell (by simp) _).setCell (by simp) _)⟩
 ·rw [if_neg h0]
  have d1:((m:Int) == 0)=false:=by simp;omega
  have hm0:0<m:=by omega
  clear h0
  go_enter Tryz.func35,Tryz.ntmps35
  go_wp2_with fail
  refine (HRE.out _).mono ?_
  rintro e w1 ⟨rfl,hw⟩
  subst hw
  go_wp2_with fail
  refine (HSG.out _).mono ?_
  rintro e w2 ⟨rfl,hw⟩
  subst hw
  go_wp2_with fail
  refine (HCL.out _).mono ?_
  rintro e w2 ⟨rfl,hb2⟩
  have hb02:Below w.heap.size w w2:=(((Below.refl _ w).alloc (Nat.le_refl _) _).alloc (by simp) _).trans (hb2.mono (by simp;omega))
  obtain ⟨c0,c1',c2',c3,d0,d1',f0,f1,f2,f3,g0,g1⟩:=resAt_of (hb2.mono (B':=w.heap.size+2) (by simp))
  clear hb2
  have HB:=hide hb02
  clear hb02
  go_wp2
  exact bodyPost_ret (v:=ansV ⟨0,4,m,0⟩ p (s.extract p (p+m))) (by simp [results,Tryz.results35,go_sem,ansV, *]) rfl ⟨rfl,by exact ((((((HB.out.setCell (by simp) _).setCell (by simp) _).setCell (by simp) _).setCell (by simp) _).setCell (by simp) _).setCell (by simp) _)⟩
theorem ext_bs (s:ByteArray) (p k:Nat):s.extract p (p+k)=bs ((s.data.toList.drop p).take k):=by
 apply ByteArray.ext
 apply Array.toList_inj.1
 rw [ext_list,show p+k - p=k from by omega]
 simp [bs]
theorem signLen_le (l:List UInt8) (hl:l ≠ []):signLen l≤l.length:=by
 have h1:=List.length_pos_iff.2 hl
 unfold signLen
 split
 ·rename_i h
  exact (List.isPrefixOf_iff_prefix.1 h).length_le
 ·split<;> omega
theorem tokenAt_any (s:ByteArray) (p:Nat) (w:World) (hw:WTab w) (hs:s.size≤20000) (hp:p<s.size):
  Calls Tryz.prog 35 #[.string s,.int .i64 p] w fun e w'=>e= .returned (ansV (Tk.tok (s.data.toList.drop p)) p (bs ((s.data.toList.drop p).take (Tk.tok (s.data.toList.drop p)).len)))∧Below w.heap.size w w':=by
 have hl:=drop_ne s p hp
 have hlen:(s.data.toList.drop p).length=s.size - p:=by rw [List.length_drop,←Lib.size_eq]
 have hrl:=Tk.run_le (s.data.toList.drop p)
 by_cases hr:0<Tk.run (s.data.toList.drop p)
 ·have h:=tokenAt_run s p _ w hw hs rfl hr (by omega)
  have e:Tk.tok (s.data.toList.drop p)=if Tk.isD ((s.data.toList.drop p).headD 0) then Tk.numAns ((s.data.toList.drop p).take (Tk.run (s.data.toList.drop p))) else Tk.nameAns ((s.data.toList.drop p).take (Tk.run (s.data.toList.drop p))):=by
   unfold Tk.tok
   rw [if_pos hr]
  rw [←e] at h
  rw [ansV_congr _ p _ (bs ((s.data.toList.drop p).take (Tk.tok (s.data.toList.drop p)).len)) ?_] at h
  ·exact h
  ·intro hc
   rw [ext_bs]
   congr 2
   rw [e] at hc ⊢
   split at hc
   ·rename_i hd
    rw [if_pos hd,Tk.numAns_len _ hc,List.length_take];omega
   ·rename_i hd
    rw [if_neg hd,Tk.nameAns_len _ hc,List.length_take];omega
 ·have hr0:Tk.run (s.data.toList.drop p)=0:=by omega
  have hsl:=signLen_le _ hl
  have h:=tokenAt_sign s p _ w hs hr0 hp rfl (by omega)
  have e:Tk.tok (s.data.toList.drop p)=if signLen (s.data.toList.drop p)=0 then ⟨2,0,0,0⟩ else ⟨0,4,signLen (s.data.toList.drop p),0⟩:=by
   unfold Tk.tok
   rw [if_neg hr,signAns_eq _ hl]
  rw [←e] at h
  rw [ansV_congr _ p _ (bs ((s.data.toList.drop p).take (Tk.tok (s.data.toList.drop p)).len)) ?_] at h
  ·exact h
  ·intro hc
   rw [ext_bs]
   congr 2
   rw [e] at hc ⊢
   split at hc
   ·cases hc
   ·rename_i hd
    rw [if_neg hd]
end Go.Proofs.YtcdcoiobpbdmpaaGreatDoor
