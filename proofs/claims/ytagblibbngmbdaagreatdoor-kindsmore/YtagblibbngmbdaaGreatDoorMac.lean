import Derived.Test.YtagblibbngmbdaaGreatDoorMab
import Derived.Deep.QuietTactic
import Derived.BigQuiet
import Derived.Deep.RegionWith
set_option maxRecDepth 100000
set_option maxHeartbeats 1000000
namespace Go.Proofs.YtagblibbngmbdaaGreatDoor
open Go.RowKit
def ansV (a:Tk.Ans) (p:Nat) (t:ByteArray):Value:=
 if a.code=0 then .tuple #[.agg #[.int .i64 a.kind,.int .i64 (p:Int),.string t,.int .i64 a.n],.agg #[.int .i64 0,.int .i64 0]]
 else .tuple #[.agg #[.int .i64 0,.int .i64 0,.string ⟨#[]⟩,.int .i64 0],.agg #[.int .i64 a.code,.int .i64 (p:Int)]]
theorem zc7 (s:ByteArray) (p:Nat) (w:World) (hs:s.size≤1099511627776):
  Calls Tryz.prog 74 #[.string s,.int .i64 p] w fun e w'=>e= .returned (ansV (Tk.numAns s.data.toList) p s)∧Below w.heap.size w w':=by
 have hc:=fun w=>zfc s w hs
 unfold Tk.numAns
 cases hn:Tk.numOf s.data.toList with
 |none=>
  rw [hn] at hc
  have HC:=hide hc
  clear hc hn
  go_enter Tryz.func74,Tryz.ntmps74
  go_wp2_with fail
  refine (HC.out _).mono ?_
  rintro e w1 ⟨rfl,hw⟩
  subst hw
  go_wp2
  exact bodyPost_ret (v:=ansV ⟨3,0,0,0⟩ p s) (by simp [results,Tryz.results74,go_sem,ansV]) rfl ⟨rfl,by first|exact ((Below.refl _ _).alloc (Nat.le_refl _) _).alloc (by simp) _|exact (((((((Below.refl _ _).alloc (Nat.le_refl _) _).alloc (by simp) _).setCell (by simp) _).setCell (by simp) _).setCell (by simp) _).setCell (by simp) _)⟩
 |some n=>
  rw [hn] at hc
  have HC:=hide hc
  clear hc hn
  go_enter Tryz.func74,Tryz.ntmps74
  go_wp2_with fail
  refine (HC.out _).mono ?_
  rintro e w1 ⟨rfl,hw⟩
  subst hw
  go_wp2
  exact bodyPost_ret (v:=ansV ⟨0,3,s.data.toList.length,n⟩ p s) (by simp [results,Tryz.results74,go_sem,ansV]) rfl ⟨rfl,by first|exact ((Below.refl _ _).alloc (Nat.le_refl _) _).alloc (by simp) _|exact (((((((Below.refl _ _).alloc (Nat.le_refl _) _).alloc (by simp) _).setCell (by simp) _).setCell (by simp) _).setCell (by simp) _).setCell (by simp) _)⟩
theorem zei (s:ByteArray) (p:Nat) (w:World) (hw:WTab w) (hs:s.size≤1099511627776):
  Calls Tryz.prog 75 #[.string s,.int .i64 p] w fun e w'=>e= .returned (ansV (Tk.nameAns s.data.toList) p s)∧Below w.heap.size w w':=by
 have hc:=fun w hw=>zhm s w hw
 have hz:=Lib.size_eq s
 unfold Tk.nameAns
 cases hn:Tk.isW s.data.toList with
 |true=>
  rw [hn] at hc
  rw [if_pos rfl]
  have HC:=hide hc
  have HW:=hide hw
  clear hc hn hz hw
  go_enter Tryz.func75,Tryz.ntmps75
  go_wp2_with fail
  refine (HC.out _ (HW.out.below (by first|exact ((Below.refl _ _).alloc (Nat.le_refl _) _).alloc (by simp) _|exact (((((((Below.refl _ _).alloc (Nat.le_refl _) _).alloc (by simp) _).setCell (by simp) _).setCell (by simp) _).setCell (by simp) _).setCell (by simp) _)))).mono ?_
  rintro e w1 ⟨rfl,hw⟩
  subst hw
  go_wp2
  exact bodyPost_ret (v:=ansV ⟨0,1,s.data.toList.length,0⟩ p s) (by simp [results,Tryz.results75,go_sem,ansV]) rfl ⟨rfl,by first|exact ((Below.refl _ _).alloc (Nat.le_refl _) _).alloc (by simp) _|exact (((((((Below.refl _ _).alloc (Nat.le_refl _) _).alloc (by simp) _).setCell (by simp) _).setCell (by simp) _).setCell (by simp) _).setCell (by simp) _)⟩
 |false=>
  rw [hn] at hc
  rw [if_neg (by simp)]
  have HC:=hide hc
  have HW:=hide hw
  by_cases h12:12<s.size
  ·rw [if_pos (by omega)]
   have d1:decide ((12:Int)<(s.size:Int))=true:=by simp;omega
   clear hc hn hz hw
   go_enter Tryz.func75,Tryz.ntmps75
   go_wp2_with fail
   refine (HC.out _ (HW.out.below (by first|exact ((Below.refl _ _).alloc (Nat.le_refl _) _).alloc (by simp) _|exact (((((((Below.refl _ _).alloc (Nat.le_refl _) _).alloc (by simp) _).setCell (by simp) _).setCell (by simp) _).setCell (by simp) _).setCell (by simp) _)))).mono ?_
   rintro e w1 ⟨rfl,hw⟩
   subst hw
   go_wp2
   exact bodyPost_ret (v:=ansV ⟨4,0,0,0⟩ p s) (by simp [results,Tryz.results75,go_sem,ansV]) rfl ⟨rfl,by first|exact ((Below.refl _ _).alloc (Nat.le_refl _) _).alloc (by simp) _|exact (((((((Below.refl _ _).alloc (Nat.le_refl _) _).alloc (by simp) _).setCell (by simp) _).setCell (by simp) _).setCell (by simp) _).setCell (by simp) _)⟩
  ·rw [if_neg (by omega)]
   have d1:decide ((12:Int)<(s.size:Int))=false:=by simp;omega
   clear hc hn hz hw
   go_enter Tryz.func75,Tryz.ntmps75
   go_wp2_with fail
   refine (HC.out _ (HW.out.below (by first|exact ((Below.refl _ _).alloc (Nat.le_refl _) _).alloc (by simp) _|exact (((((((Below.refl _ _).alloc (Nat.le_refl _) _).alloc (by simp) _).setCell (by simp) _).setCell (by simp) _).setCell (by simp) _).setCell (by simp) _)))).mono ?_
   rintro e w1 ⟨rfl,hw⟩
   subst hw
   go_wp2
   exact bodyPost_ret (v:=ansV ⟨0,2,s.data.toList.length,0⟩ p s) (by simp [results,Tryz.results75,go_sem,ansV]) rfl ⟨rfl,by first|exact ((Below.refl _ _).alloc (Nat.le_refl _) _).alloc (by simp) _|exact (((((((Below.refl _ _).alloc (Nat.le_refl _) _).alloc (by simp) _).setCell (by simp) _).setCell (by simp) _).setCell (by simp) _).setCell (by simp) _)⟩
def zc8:ByteArray:=⟨#[40,41,123,125,44,59,43,45,42,60,61]⟩
theorem zjw (l:List UInt8) (c:UInt8): -1≤Lib.indexByte l c:=by
 induction l with
 |nil=>simp [Lib.indexByte]
 |cons b t ih=>
  simp only [Lib.indexByte]
  repeat' split
  all_goals omega
theorem zjx (l:List UInt8) (c:UInt8):(0≤Lib.indexByte l c) ↔ l.contains c=true:=by
 induction l with
 |nil=>simp [Lib.indexByte]
 |cons b t ih=>
  have hl:=zjw t c
  simp only [Lib.indexByte,List.contains_cons,Bool.or_eq_true]
  rw [←ih]
  by_cases h:b=c
  ·subst h;simp
  ·have h1:(b == c)=false:=by simpa using h
   have h2:(c == b)=false:=by simpa using fun e=>h e.symm
   rw [h1,h2]
   simp only [Bool.false_eq_true,if_false,false_or]
   by_cases h3:Lib.indexByte t c= -1
   ·rw [h3];simp
   ·rw [if_neg (by simpa using h3)];omega
theorem zgp (b:UInt8):(0≤Lib.indexByte zc8.data.toList b) ↔ Tk.signs.contains b=true:=zjx _ b
def zbo (l:List UInt8):Nat:=if Lib.hasPrefix l [61,61] then 2 else if Tk.signs.contains (l.headD 0) then 1 else 0
theorem zfd (s:ByteArray) (w:World) (h0:0<s.size):
  Calls Tryz.prog 76 #[.string s] w fun e w'=>e= .returned (.int .i64 (zbo s.data.toList:Int))∧w'=w:=by
 have hd:=za0 s 0 h0
 rw [List.drop_zero] at hd
 have hh:s.data.toList.headD 0=s[0]:=by rw [hd];rfl
 unfold zbo
 rw [hh]
 clear hd hh
 have hp:=fun w=>zce s ⟨#[61,61]⟩ w
 have hi:=fun w=>zef zc8 (s[0].toNat:Int) w
 have e1:(⟨#[61,61]⟩:ByteArray).data.toList=[61,61]:=rfl
 rw [e1] at hp
 have e2:((s[0].toNat:Int)).toNat.toUInt8=s[0]:=by simp
 rw [e2] at hi
 have hx:=zgp s[0]
 have HP:=hide hp
 have HI:=hide hi
 clear hp hi
 cases hpre:Lib.hasPrefix s.data.toList [61,61]
 ·rw [if_neg (by simp)]
  generalize Lib.indexByte zc8.data.toList s[0]=q at *
  cases hc:Tk.signs.contains s[0]
  ·rw [if_neg (by simp)]
   have hq:decide (0≤q)=false:=by rw [hc] at hx;simpa using hx
   clear hx hc
   go_enter Tryz.func76,Tryz.ntmps76
   go_wp2_with (first|(go_at_call 102;refine (HP.out _).mono ?_;rintro e w' ⟨rfl,hw⟩;subst hw)|(go_at_call 103;refine (HI.out _).mono ?_;rintro e w' ⟨rfl,hw⟩;subst hw))
   go_ret
   exact ⟨rfl,rfl⟩
  ·rw [if_pos rfl]
   have hq:decide (0≤q)=true:=by rw [hc] at hx;simpa using hx
   clear hx hc
   go_enter Tryz.func76,Tryz.ntmps76
   go_wp2_with (first|(go_at_call 102;refine (HP.out _).mono ?_;rintro e w' ⟨rfl,hw⟩;subst hw)|(go_at_call 103;refine (HI.out _).mono ?_;rintro e w' ⟨rfl,hw⟩;subst hw))
   go_ret
   exact ⟨rfl,rfl⟩
 ·rw [if_pos rfl]
  clear hx
  go_enter Tryz.func76,Tryz.ntmps76
  go_wp2_with (first|(go_at_call 102;refine (HP.out _).mono ?_;rintro e w' ⟨rfl,hw⟩;subst hw)|(go_at_call 103;refine (HI.out _).mono ?_;rintro e w' ⟨rfl,hw⟩;subst hw))
  go_ret
  exact ⟨rfl,rfl⟩
end Go.Proofs.YtagblibbngmbdaaGreatDoor
namespace Go.Proofs.YtagblibbngmbdaaGreatDoor
open Go.RowKit
theorem zd1 (a:Tk.Ans) (p:Nat) (t t':ByteArray) (h:a.code=0→t=t'):ansV a p t=ansV a p t':=by
 unfold ansV
 split
 ·rename_i h0;rw [h h0]
 ·rfl
theorem zfe (a:Tk.Ans) (p:Nat) (t:ByteArray): ∃ k q t' n c r,ansV a p t= .tuple #[.agg #[.int .i64 k,.int .i64 q,.string t',.int .i64 n],.agg #[.int .i64 c,.int .i64 r]]:=by
 unfold ansV
 split
 ·exact ⟨_,_,_,_,_,_,rfl⟩
 ·exact ⟨_,_,_,_,_,_,rfl⟩
theorem zc0 (s:ByteArray) (a b:Nat):(s.extract a b).data.toList=(s.data.toList.drop a).take (b - a):=by
 rw [←Lib.toList_data,Lib.extract_toList]
theorem zh1 (l:List UInt8) (hl:l ≠ []):Tk.signAns l=if zbo l=0 then ⟨2,0,0,0⟩ else ⟨0,4,zbo l,0⟩:=by
 unfold Tk.signAns zbo
 split
 ·exact absurd rfl hl
 ·simp [Lib.hasPrefix]
 ·rename_i b t hn
  have hp:Lib.hasPrefix (b::t) [61,61]=false:=by
   cases hq:Lib.hasPrefix (b::t) [61,61] with
   |false=>rfl
   |true=>
    exfalso
    obtain ⟨r,hr⟩:=List.isPrefixOf_iff_prefix.1 hq
    simp only [List.cons_append,List.nil_append,List.cons.injEq] at hr
    exact hn r hr.1.symm hr.2.symm
  rw [hp]
  by_cases hc:Tk.signs.contains b=true
  ·simp only [List.headD_cons,hc,Bool.false_eq_true,if_false,if_true]
   rfl
  ·simp only [List.headD_cons,hc,Bool.false_eq_true,if_false]
   rfl
theorem zjy (s:ByteArray) (p:Nat) (h:p<s.size):s.data.toList.drop p ≠ []:=by
 rw [za0 s p h];simp
theorem zlf (s:ByteArray) (p r:Nat) (hr:0<r) (hp:p+r≤s.size) (h0:0<(s.extract p (p+r)).size):(s.extract p (p+r))[0]=(s.data.toList.drop p).headD 0:=by
 have h1:=za0 (s.extract p (p+r)) 0 h0
 rw [List.drop_zero,zc0] at h1
 rw [za0 s p (by omega)] at h1 ⊢
 rw [show p+r - p=(r - 1)+1 from by omega,List.take_succ_cons] at h1
 simp only [List.cons.injEq] at h1
 exact h1.1.symm
structure ResAt (w:World) (b:Nat):Prop where
 c0:w.cell? ⟨b,0,none⟩=some (.int .i64 0)
 c1:w.cell? ⟨b,1,none⟩=some (.int .i64 0)
 c2:w.cell? ⟨b,2,none⟩=some (.string ⟨#[]⟩)
 c3:w.cell? ⟨b,3,none⟩=some (.int .i64 0)
 d0:w.cell? ⟨b+1,0,none⟩=some (.int .i64 0)
 d1:w.cell? ⟨b+1,1,none⟩=some (.int .i64 0)
 f0:w.frozen? ⟨b,0,none⟩=false
 f1:w.frozen? ⟨b,1,none⟩=false
 f2:w.frozen? ⟨b,2,none⟩=false
 f3:w.frozen? ⟨b,3,none⟩=false
 g0:w.frozen? ⟨b+1,0,none⟩=false
 g1:w.frozen? ⟨b+1,1,none⟩=false
theorem zej {w w4:World} (hb:Below (w.heap.size+2) ((w.alloc (.cells #[.int .i64 0,.int .i64 0,.string ⟨#[]⟩,.int .i64 0] 103)).alloc (.cells #[.int .i64 0,.int .i64 0] 30)) w4):ResAt w4 w.heap.size:=by
 constructor
 ·rw [hb.cell (p:=⟨w.heap.size,0,none⟩) (by show w.heap.size<_;omega)];simp [go_sem]
 ·rw [hb.cell (p:=⟨w.heap.size,1,none⟩) (by show w.heap.size<_;omega)];simp [go_sem]
 ·rw [hb.cell (p:=⟨w.heap.size,2,none⟩) (by show w.heap.size<_;omega)];simp [go_sem]
 ·rw [hb.cell (p:=⟨w.heap.size,3,none⟩) (by show w.heap.size<_;omega)];simp [go_sem]
 ·rw [hb.cell (p:=⟨w.heap.size+1,0,none⟩) (by show w.heap.size+1<_;omega)];simp [go_sem]
 ·rw [hb.cell (p:=⟨w.heap.size+1,1,none⟩) (by show w.heap.size+1<_;omega)];simp [go_sem]
 ·rw [hb.frozen (p:=⟨w.heap.size,0,none⟩) (by show w.heap.size<_;omega)];simp [go_sem]
 ·rw [hb.frozen (p:=⟨w.heap.size,1,none⟩) (by show w.heap.size<_;omega)];simp [go_sem]
 ·rw [hb.frozen (p:=⟨w.heap.size,2,none⟩) (by show w.heap.size<_;omega)];simp [go_sem]
 ·rw [hb.frozen (p:=⟨w.heap.size,3,none⟩) (by show w.heap.size<_;omega)];simp [go_sem]
 ·rw [hb.frozen (p:=⟨w.heap.size+1,0,none⟩) (by show w.heap.size+1<_;omega)];simp [go_sem]
 ·rw [hb.frozen (p:=⟨w.heap.size+1,1,none⟩) (by show w.heap.size+1<_;omega)];simp [go_sem]
theorem zgq (s:ByteArray) (p r:Nat) (w:World) (hw:WTab w) (hs:s.size≤20000) (hr:Tk.run (s.data.toList.drop p)=r) (h0:0<r) (hp:p+r≤s.size):
  Calls Tryz.prog 50 #[.string s,.int .i64 p] w fun e w'=>e= .returned (ansV (if Tk.isD ((s.data.toList.drop p).headD 0) then Tk.numAns ((s.data.toList.drop p).take r) else Tk.nameAns ((s.data.toList.drop p).take r)) p (s.extract p (p+r)))∧Below w.heap.size w w':=by
 have hre:=fun w=>zcq s p w (by omega) (by omega)
 rw [hr] at hre
 obtain ⟨X,hX⟩: ∃ X,X=s.extract p (p+r):=⟨_,rfl⟩
 have hxs:X.size=r:=by rw [hX,ByteArray.size_extract];omega
 have hx0:0<X.size:=by omega
 have hxl:X.data.toList=(s.data.toList.drop p).take r:=by rw [hX,zc0,show p+r - p=r from by omega]
 have hh:X[0]=(s.data.toList.drop p).headD 0:=by subst hX;exact zlf s p r h0 hp hx0
 have hcl:=fun w=>zc6 X w (by omega)
 have hnu:=fun w=>zc7 X p w (by omega)
 have hna:=fun w hw=>zei X p w hw (by omega)
 have hdi:=fun w=>zaz X[0] w
 rw [←hX,←hh,←hxl]
 generalize Tk.numAns X.data.toList=A1 at *
 generalize Tk.nameAns X.data.toList=A2 at *
 have HX:=hide hX
 have HRE:=hide hre
 have HCL:=hide hcl
 have HNU:=hide hnu
 have HNA:=hide hna
 have HDI:=hide hdi
 have HW:=hide hw
 have d1:decide (p<p+r)=true:=by simp;omega
 clear hre hcl hnu hna hdi hw hh hr hxl hX
 obtain ⟨k1,q1,t1,n1,c1,r1,hv1⟩:=zfe A1 p X
 obtain ⟨k2,q2,t2,n2,c2,r2,hv2⟩:=zfe A2 p X
 rw [hv1] at HNU
 rw [hv2] at HNA
 cases hD:Tk.isD X[0]
 ·rw [if_neg (by simp),hv2]
  clear hv1 hv2
  go_enter Tryz.func50,Tryz.ntmps50
  go_wp2_with fail
  refine (HRE.out _).mono ?_
  rintro e w1 ⟨rfl,hw⟩
  subst hw
  go_wp2_with fail
  rw [←HX.out]
  refine (HCL.out _).mono ?_
  rintro e w2 ⟨rfl,hb2⟩
  have hb02:Below w.heap.size w w2:=(((Below.refl _ w).alloc (Nat.le_refl _) _).alloc (by simp) _).trans (hb2.mono (by simp;omega))
  have HB2:=hide (hb2.mono (B':=w.heap.size+2) (by simp))
  have hz2:w.heap.size+2≤w2.heap.size:=by have:=hb2.size;simpa using this
  clear hb2
  go_wp2_with fail
  refine (HDI.out _).mono ?_
  rintro e w3 ⟨rfl,hw⟩
  subst hw
  go_wp2_with fail
  refine (HNA.out _ (HW.out.below hb02)).mono ?_
  rintro e w4 ⟨rfl,hb4⟩
  have hz4:=hb4.size
  have hb04:=hide (hb02.trans (hb4.mono (by omega)))
  obtain ⟨c0,c1',c2',c3,d0,d1',f0,f1,f2,f3,g0,g1⟩:=zej (HB2.out.trans (hb4.mono (by omega)))
  clear hb4 hb02
  go_wp2
  exact bodyPost_ret (v:= .tuple #[.agg #[.int .i64 k2,.int .i64 q2,.string t2,.int .i64 n2],.agg #[.int .i64 c2,.int .i64 r2]]) (by simp [results,Tryz.results50,go_sem, *]) rfl ⟨rfl,((((((hb04.out.setCell (by simp) _).setCell (by simp) _).setCell (by simp) _).setCell (by simp) _).setCell (by simp) _).setCell (by simp) _)⟩
 ·rw [if_pos rfl,hv1]
  clear hv1 hv2
  go_enter Tryz.func50,Tryz.ntmps50
  go_wp2_with fail
  refine (HRE.out _).mono ?_
  rintro e w1 ⟨rfl,hw⟩
  subst hw
  go_wp2_with fail
  rw [←HX.out]
  refine (HCL.out _).mono ?_
  rintro e w2 ⟨rfl,hb2⟩
  have hb02:Below w.heap.size w w2:=(((Below.refl _ w).alloc (Nat.le_refl _) _).alloc (by simp) _).trans (hb2.mono (by simp;omega))
  have HB2:=hide (hb2.mono (B':=w.heap.size+2) (by simp))
  have hz2:w.heap.size+2≤w2.heap.size:=by have:=hb2.size;simpa using this
  clear hb2
  go_wp2_with fail
  refine (HDI.out _).mono ?_
  rintro e w3 ⟨rfl,hw⟩
  subst hw
  go_wp2_with fail
  refine (HNU.out _).mono ?_
  rintro e w4 ⟨rfl,hb4⟩
  have hz4:=hb4.size
  have hb04:=hide (hb02.trans (hb4.mono (by omega)))
  obtain ⟨c0,c1',c2',c3,d0,d1',f0,f1,f2,f3,g0,g1⟩:=zej (HB2.out.trans (hb4.mono (by omega)))
  clear hb4 hb02
  go_wp2
  exact bodyPost_ret (v:= .tuple #[.agg #[.int .i64 k1,.int .i64 q1,.string t1,.int .i64 n1],.agg #[.int .i64 c1,.int .i64 r1]]) (by simp [results,Tryz.results50,go_sem, *]) rfl ⟨rfl,((((((hb04.out.setCell (by simp) _).setCell (by simp) _).setCell (by simp) _).setCell (by simp) _).setCell (by simp) _).setCell (by simp) _)⟩
theorem zff (s:ByteArray) (p m:Nat) (w:World) (hs:s.size≤20000) (hr:Tk.run (s.data.toList.drop p)=0) (hp:p<s.size) (hm:zbo (s.data.toList.drop p)=m) (hpm:p+m≤s.size):
  Calls Tryz.prog 50 #[.string s,.int .i64 p] w fun e w'=>e= .returned (ansV (if m=0 then ⟨2,0,0,0⟩ else ⟨0,4,m,0⟩) p (s.extract p (p+m)))∧Below w.heap.size w w':=by
 have hre:=fun w=>zcq s p w (by omega) (by omega)
 rw [hr] at hre
 have hsz:(s.extract p s.size).size=s.size - p:=by rw [ByteArray.size_extract];omega
 have hsg:=fun w=>zfd (s.extract p s.size) w (by omega)
 rw [zc0,List.take_of_length_le (by rw [List.length_drop,←Lib.size_eq];omega),hm] at hsg
 have hxs:(s.extract p (p+m)).size=m:=by rw [ByteArray.size_extract];omega
 have hcl:=fun w=>zc6 (s.extract p (p+m)) w (by omega)
 have HRE:=hide hre
 have HSG:=hide hsg
 have HCL:=hide hcl
 clear hre hsg hcl hr hm hxs hsz
 by_cases h0:m=0
 ·subst h0
  rw [if_pos rfl]
  go_enter Tryz.func50,Tryz.ntmps50
  go_wp2_with fail
  refine (HRE.out _).mono ?_
  rintro e w1 ⟨rfl,hw⟩
  subst hw
  go_wp2_with fail
  refine (HSG.out _).mono ?_
  rintro e w2 ⟨rfl,hw⟩
  subst hw
  go_wp2
  exact bodyPost_ret (v:=ansV ⟨2,0,0,0⟩ p (s.extract p (p+0))) (by simp [results,Tryz.results50,go_sem,ansV]) rfl ⟨rfl,by first|exact ((Below.refl _ _).alloc (Nat.le_refl _) _).alloc (by simp) _|exact (((((((Below.refl _ _).alloc (Nat.le_refl _) _).alloc (by simp) _).setCell (by simp) _).setCell (by simp) _).setCell (by simp) _).setCell (by simp) _)⟩
 ·rw [if_neg h0]
  have d1:((m:Int) == 0)=false:=by simp;omega
  have hm0:0<m:=by omega
  clear h0
  go_enter Tryz.func50,Tryz.ntmps50
  go_wp2_with fail
  refine (HRE.out _).mono ?_
  rintro e w1 ⟨rfl,hw⟩
  subst hw
  go_wp2_with fail
  refine (HSG.out _).mono ?_
  rintro e w2 ⟨rfl,hw⟩
  subst hw
  go_wp2_with fail
  refine (HCL.out _).mono ?_
  rintro e w2 ⟨rfl,hb2⟩
  have hb02:Below w.heap.size w w2:=(((Below.refl _ w).alloc (Nat.le_refl _) _).alloc (by simp) _).trans (hb2.mono (by simp;omega))
  obtain ⟨c0,c1',c2',c3,d0,d1',f0,f1,f2,f3,g0,g1⟩:=zej (hb2.mono (B':=w.heap.size+2) (by simp))
  clear hb2
  have HB:=hide hb02
  clear hb02
  go_wp2
  exact bodyPost_ret (v:=ansV ⟨0,4,m,0⟩ p (s.extract p (p+m))) (by simp [results,Tryz.results50,go_sem,ansV, *]) rfl ⟨rfl,by exact ((((((HB.out.setCell (by simp) _).setCell (by simp) _).setCell (by simp) _).setCell (by simp) _).setCell (by simp) _).setCell (by simp) _)⟩
theorem zmc (s:ByteArray) (p k:Nat):s.extract p (p+k)=bs ((s.data.toList.drop p).take k):=by
 apply ByteArray.ext
 apply Array.toList_inj.1
 rw [zc0,show p+k - p=k from by omega]
 simp [bs]
theorem zh2 (l:List UInt8) (hl:l ≠ []):zbo l≤l.length:=by
 have h1:=List.length_pos_iff.2 hl
 unfold zbo
 split
 ·rename_i h
  exact (List.isPrefixOf_iff_prefix.1 h).length_le
 ·split<;> omega
theorem zgr (s:ByteArray) (p:Nat) (w:World) (hw:WTab w) (hs:s.size≤20000) (hp:p<s.size):
  Calls Tryz.prog 50 #[.string s,.int .i64 p] w fun e w'=>e= .returned (ansV (Tk.tok (s.data.toList.drop p)) p (bs ((s.data.toList.drop p).take (Tk.tok (s.data.toList.drop p)).len)))∧Below w.heap.size w w':=by
 have hl:=zjy s p hp
 have hlen:(s.data.toList.drop p).length=s.size - p:=by rw [List.length_drop,←Lib.size_eq]
 have hrl:=Tk.run_le (s.data.toList.drop p)
 by_cases hr:0<Tk.run (s.data.toList.drop p)
 ·have h:=zgq s p _ w hw hs rfl hr (by omega)
  have e:Tk.tok (s.data.toList.drop p)=if Tk.isD ((s.data.toList.drop p).headD 0) then Tk.numAns ((s.data.toList.drop p).take (Tk.run (s.data.toList.drop p))) else Tk.nameAns ((s.data.toList.drop p).take (Tk.run (s.data.toList.drop p))):=by
   unfold Tk.tok
   rw [if_pos hr]
  rw [←e] at h
  rw [zd1 _ p _ (bs ((s.data.toList.drop p).take (Tk.tok (s.data.toList.drop p)).len)) ?_] at h
  ·exact h
  ·intro hc
   rw [zmc]
   congr 2
   rw [e] at hc ⊢
   split at hc
   ·rename_i hd
    rw [if_pos hd,Tk.numAns_len _ hc,List.length_take];omega
   ·rename_i hd
    rw [if_neg hd,Tk.nameAns_len _ hc,List.length_take];omega
 ·have hr0:Tk.run (s.data.toList.drop p)=0:=by omega
  have hsl:=zh2 _ hl
  have h:=zff s p _ w hs hr0 hp rfl (by omega)
  have e:Tk.tok (s.data.toList.drop p)=if zbo (s.data.toList.drop p)=0 then ⟨2,0,0,0⟩ else ⟨0,4,zbo (s.data.toList.drop p),0⟩:=by
   unfold Tk.tok
   rw [if_neg hr,zh1 _ hl]
  rw [←e] at h
  rw [zd1 _ p _ (bs ((s.data.toList.drop p).take (Tk.tok (s.data.toList.drop p)).len)) ?_] at h
  ·exact h
  ·intro hc
   rw [zmc]
   congr 2
   rw [e] at hc ⊢
   split at hc
   ·cases hc
   ·rename_i hd
    rw [if_neg hd]
end Go.Proofs.YtagblibbngmbdaaGreatDoor
set_option maxRecDepth 100000
set_option maxHeartbeats 1000000
namespace Go.Proofs.YtagblibbngmbdaaGreatDoor
open Go.RowKit
theorem Tryz.infoTok:(Tryz.prog.info? 103).map (fun i=>(i.zero,i.size,i.bytes))=some (some (.agg #[.int .i64 0,.int .i64 0,.string ⟨#[]⟩,.int .i64 0]),4,40):=by kernel_rfl
def zbd:List Tk.Tok→List Value
 |[]=>[]
 |x::r=> .int .i64 x.kind:: .int .i64 (x.at':Int):: .string (bs x.text):: .int .i64 x.n::zbd r
theorem zh3 (a b:List Tk.Tok):zbd (a++b)=zbd a++zbd b:=by
 induction a with
 |nil=>rfl
 |cons x r ih=>simp [zbd,ih]
def scanV (v:Value) (r:List Tk.Tok × Int × Int):Value:= .tuple #[v,.agg #[.int .i64 r.2.1,.int .i64 r.2.2]]
structure FltAt (w:World) (b:Nat):Prop where
 c0:w.cell? ⟨b,0,none⟩=some (.int .i64 0)
 c1:w.cell? ⟨b,1,none⟩=some (.int .i64 0)
 f0:w.frozen? ⟨b,0,none⟩=false
 f1:w.frozen? ⟨b,1,none⟩=false
theorem zho {w w4:World} (hb:Below (w.heap.size+1) (w.alloc (.cells #[.int .i64 0,.int .i64 0] 30)) w4):FltAt w4 w.heap.size:=by
 constructor
 ·rw [hb.cell (p:=⟨w.heap.size,0,none⟩) (by show w.heap.size<_;omega)];simp [go_sem]
 ·rw [hb.cell (p:=⟨w.heap.size,1,none⟩) (by show w.heap.size<_;omega)];simp [go_sem]
 ·rw [hb.frozen (p:=⟨w.heap.size,0,none⟩) (by show w.heap.size<_;omega)];simp [go_sem]
 ·rw [hb.frozen (p:=⟨w.heap.size,1,none⟩) (by show w.heap.size<_;omega)];simp [go_sem]
theorem zjz {w w':World} {B t z n:Nat} {v:Value} {xs:List Value} (h:w.ownsRow B t z v n xs) (hb:Below w.heap.size w w'):w'.ownsRow B t z v n xs:=by
 refine ⟨h.1,h.2.imp id (fun ⟨g,cap,cur,hv,hB,hg,r⟩=>⟨g,cap,cur,hv,hB,?_,r⟩)⟩
 rw [hb.block g (by
  rcases Nat.lt_or_ge g w.heap.size with h'|h'
  ·exact h'
  ·rw [Array.getElem?_eq_none h'] at hg;cases hg)]
 exact hg
theorem zap (w:World) (n:Nat) (hn:n=w.heap.size) (x y z u:Value) (t:TypeId): ∀ (j:Nat) (v:Value),[x,y,z,u][j]? =some v→(w.alloc (.cells #[x,y,z,u] t)).cell? ((⟨n,0,none⟩:Addr).add j)=some v:=by
 intro j v hj
 subst hn
 rw [Addr.add_mid]
 match j,hj with
 |0,hj=>simp at hj;subst hj;simp [go_sem]
 |1,hj=>simp at hj;subst hj;simp [go_sem]
 |2,hj=>simp at hj;subst hj;simp [go_sem]
 |3,hj=>simp at hj;subst hj;simp [go_sem]
theorem zlg {w:World} {B B' t z n:Nat} {v:Value} {xs:List Value} (h:w.ownsRow B t z v n xs) (hB:B'≤B):w.ownsRow B' t z v n xs:=
 ⟨h.1,h.2.imp id (fun ⟨g,cap,cur,hv,hb,r⟩=>⟨g,cap,cur,hv,Nat.le_trans hB hb,r⟩)⟩
theorem zmu (s:ByteArray) (w:World) (hw:WTab w) (hs:s.size≤12000):
  Calls Tryz.prog 32 #[.string s] w fun e w'=> ∃ v,e= .returned (scanV v (Tk.scan s.data.toList))∧w'.ownsRow w.heap.size 103 4 v (Tk.scan s.data.toList).1.length (zbd (Tk.scan s.data.toList).1)∧Below w.heap.size w w':=by
 obtain ⟨i0,hi,hz0,hz1,hz2⟩:=info_parts Tryz.infoTok
 have d1:decide ((12000:Int)<(s.size:Int))=false:=by simp;omega
 have HBE:=hide (fun k w hk=>zeg s k w (by omega) hk)
 have HW:=hide hw
 clear hw
 have HTA:=hide (fun p w hw hp=>zgr s p w hw (by omega) hp)
 have hzn:=Lib.size_eq s
 have HN:=hide hzn
 clear hzn
 go_enter Tryz.func32,Tryz.ntmps32
 go_wp2_with fail
 refine (HBE.out 0 _ (by omega)).mono ?_
 rintro e w1 ⟨rfl,hw⟩
 subst hw
 have HSK:Hid (Tk.skip false s.data.toList≤s.size):=by
  have h1:=Tk.skip_le s.data.toList false
  have h2:=HN.out
  show _≤_
  omega
 go_wp2
 go_loopw [4,5] (fun v i wr=> ∃ (acc:List Tk.Tok) (p f:Nat),acc.length≤p∧p≤s.size∧i= .int .i64 p∧Hid (s.size - p<f)∧Hid (Tk.scan s.data.toList=Tk.comb acc (Tk.tl f p (s.data.toList.drop p)))∧
   Hid (wr.ownsRow (w.heap.size+1) 103 4 v acc.length (zbd acc))∧Hid (Below (w.heap.size+1) (w.alloc (Obj.cells #[Value.int IntKind.i64 0,Value.int IntKind.i64 0] 30)) wr)) (fun _ i _=>s.size - (intOf i).toNat)
 case atStart=>
  refine ⟨[],Tk.skip false s.data.toList,s.size+1,Nat.zero_le _,HSK.out,rfl,(by show _<_;omega),?_,World.ownsRow_nil _ _ _ _,Below.refl _ _⟩
  show _=_
  rw [Tk.comb_nil _ (Tk.tl_nofault _ _ _)]
  unfold Tk.scan
  rw [if_neg (by rw [←HN.out];omega),HN.out]
 case round=>
  obtain ⟨acc,p,f,hap,hps,rfl,HF,HR,HO,HB⟩:=hrel
  have hz:=HB.out.size
  simp only [World.size_alloc] at hz
  by_cases hlt:p<s.size
  ·have HWr:Hid (WTab wr):=(HW.out.below ((Below.refl _ w).alloc (Nat.le_refl _) _)).below (HB.out.mono (by simp))
   go_wp2_with fail
   refine (HTA.out p _ HWr.out hlt).mono ?_
   rintro e w2 ⟨rfl,hb2⟩
   have hl:=zjy s p hlt
   have hlen:(s.data.toList.drop p).length=s.size - p:=by rw [List.length_drop,←HN.out]
   obtain ⟨f,rfl⟩: ∃ f',f=f'+1:=⟨f - 1,by have:=HF.out;omega⟩
   have hzw:=hb2.size
   have HB2:=hide (HB.out.trans (hb2.mono (by omega)))
   by_cases hc:(Tk.tok (s.data.toList.drop p)).code=0
   ·obtain ⟨hn1,hn2⟩:=Tk.tok_len _ hc
    have hcs:=Tk.comb_step acc (s.data.toList.drop p) p f hl hc
    have hE:=HR.out.trans hcs
    have hv:ansV (Tk.tok (s.data.toList.drop p)) p (bs ((s.data.toList.drop p).take (Tk.tok (s.data.toList.drop p)).len))= .tuple #[.agg #[.int .i64 (Tk.tok (s.data.toList.drop p)).kind,.int .i64 (p:Int),.string (bs ((s.data.toList.drop p).take (Tk.tok (s.data.toList.drop p)).len)),.int .i64 (Tk.tok (s.data.toList.drop p)).n],.agg #[.int .i64 0,.int .i64 0]]:=by
     unfold ansV
     rw [if_pos hc]
    rw [hv]
    clear hv hc HR hl hcs
    have hbs:(bs ((s.data.toList.drop p).take (Tk.tok (s.data.toList.drop p)).len)).size=(Tk.tok (s.data.toList.drop p)).len:=by
     rw [Lib.size_eq]
     simp only [bs,List.toList_toArray,List.length_take]
     omega
    have hsk:=Tk.skip_le ((s.data.toList.drop p).drop (Tk.tok (s.data.toList.drop p)).len) false
    rw [List.length_drop,hlen] at hsk
    rw [hlen] at hn2
    simp only [List.drop_drop] at hE hsk
    generalize (Tk.tok (s.data.toList.drop p)).len=m at *
    generalize (Tk.tok (s.data.toList.drop p)).kind=kd at *
    generalize (Tk.tok (s.data.toList.drop p)).n=nn at *
    generalize (s.data.toList.drop p).take m=tx at *
    have HE:=hide hE
    have HBS:=hide hbs
    have HO2:Hid (w2.ownsRow (w.heap.size+1) 103 4 u4 acc.length (zbd acc)):=zjz HO.out hb2
    clear hE hlen hb2
    generalize hX:bs tx=X at *
    have HX:=hide hX
    clear hX
    go_wp2_with (at_builtin;refine wpList_append_own _ rfl _ _ 77 rfl (w.heap.size+1) 103 i0 (.agg #[.int .i64 0,.int .i64 0,.string ⟨#[]⟩,.int .i64 0]) 4 40 Tryz.underlying77 hi hz0 hz1 hz2 rfl (by decide) _ _ _ rfl (by exact ((HO2.out.alloc _).alloc _).alloc _) ⟨w2.heap.size+1+1,0,none⟩ 1 1 [.int .i64 kd,.int .i64 p,.string X,.int .i64 nn] rfl rfl ?c1 ?c2 ?c3 ?c4 ?c5 ?_)
    case c1=>exact zap _ _ (by simp) _ _ _ _ _
    case c2=>intro u hu;simp at hu;rcases hu with rfl|rfl|rfl|rfl<;> rfl
    case c3=>unfold maxLen;omega
    case c4=>omega
    case c5=>simp;omega
    ·intro v' w3 hown' hgrow _
     have HO3:Hid (w3.ownsRow (w.heap.size+1) 103 4 v' (acc++[(⟨kd,p,tx,nn⟩:Tk.Tok)]).length (zbd (acc++[⟨kd,p,tx,nn⟩]))):=by
      show World.ownsRow _ _ _ _ _ _ _
      rw [zh3]
      simpa [zbd,HX.out] using hown'
     have HB3:Hid (Below (w.heap.size+1) (w.alloc (Obj.cells #[Value.int IntKind.i64 0,Value.int IntKind.i64 0] 30)) w3):=
      (((HB2.out.alloc (by omega) _).alloc (by simp;omega) _).alloc (by simp;omega) _).grown hgrow (by simp;omega) (fun j hj=>(HO2.out.lt j hj).1)
     have HT3:Hid (w3.cell? ⟨w2.heap.size,2,none⟩=some (.string X)):=by
      have hne: ∀ j,u4.ownBlock=some j→j<w2.heap.size:=fun j hj=>(HO2.out.lt j hj).2
      refine hgrow.cell (a:=⟨w2.heap.size,2,none⟩) (by simp [go_sem]) (fun e=> ?_)
      exact absurd (hne _ e.symm) (Nat.lt_irrefl _)
     have hzw3:w.heap.size+1≤w3.heap.size:=by have:=HB3.out.size;simpa using this
     clear hown' hgrow
     have ct:=HT3.out
     have hXs:=HBS.out
     clear HBS
     go_wp2_with fail
     refine (HBE.out (p+m) _ (by omega)).mono ?_
     rintro e w4 ⟨rfl,hw⟩
     subst hw
     go_wp2
     go_roundw
     case rel=>exact ⟨acc++[⟨kd,p,tx,nn⟩],p+m+Tk.skip false (s.data.toList.drop (p+m)),f,by simp;omega,by omega,by go_num,(by have:=HF.out;show _<_;omega),(by have:=HE.out;show _=_;rw [this];simp only [Nat.add_assoc]),HO3,HB3⟩
     case measure=>simp [intOf];omega
   ·have hE:Tk.scan s.data.toList=([],(Tk.tok (s.data.toList.drop p)).code,(p:Int)):=by
     rw [HR.out,Tk.tok_bad _ _ _ hl hc]
     simp [Tk.comb,hc]
    have hv: ∀ T,ansV (Tk.tok (s.data.toList.drop p)) p T= .tuple #[.agg #[.int .i64 0,.int .i64 0,.string ⟨#[]⟩,.int .i64 0],.agg #[.int .i64 (Tk.tok (s.data.toList.drop p)).code,.int .i64 (p:Int)]]:=fun T=>by
     unfold ansV
     rw [if_neg hc]
    rw [hv]
    have d2:((Tk.tok (s.data.toList.drop p)).code !=0)=true:=by simpa using hc
    clear hv hc HR HF hl hlen
    generalize (Tk.tok (s.data.toList.drop p)).code=c at *
    have HE:=hide hE
    obtain ⟨c0,c1,f0,f1⟩:=zho HB2.out
    have hzz:w.heap.size<w2.heap.size:=by omega
    clear hE hb2
    go_wp2
    go_region
    all_goals go_wp2
    refine bodyPost_ret (v:=scanV (.slice none 0 0) ([],c,(p:Int))) (by simp [results,Tryz.results32,go_sem,scanV,c0,c1,hzz]) rfl ⟨.slice none 0 0,?_⟩
    rw [HE.out]
    refine ⟨rfl,World.ownsRow_nil _ _ _ _,?_⟩
    exact (((((((Below.refl _ w).alloc (Nat.le_refl _) _).trans (HB2.out.mono (by omega))).setCell (Nat.le_refl _) _).setCell (Nat.le_refl _) _).alloc (by simp [World.setCell];omega) _).alloc (by simp [World.setCell];omega) _).drew
  ·obtain rfl:p=s.size:=by omega
   have HE:Hid (Tk.scan s.data.toList=(acc,0,0)):=by
    have h1:=HR.out
    rw [List.drop_of_length_le (by rw [←HN.out];omega),Tk.tl_nil] at h1
    show _=_
    rw [h1]
    simp [Tk.comb]
   obtain ⟨c0,c1,f0,f1⟩:=zho HB.out
   go_wp2
   refine bodyPost_ret (v:=scanV u4 (acc,0,0)) (by simp [results,Tryz.results32,go_sem,scanV,c0,c1]) rfl ⟨u4,?_⟩
   rw [HE.out]
   refine ⟨rfl,?_,?_⟩
   ·exact zlg (ownsRow_setCell_below (ownsRow_setCell_below HO.out (a:=⟨w.heap.size,0,none⟩) (by simp) _) (a:=⟨w.heap.size,1,none⟩) (by simp) _) (by omega)
   ·exact ((((Below.refl _ w).alloc (Nat.le_refl _) _).trans (HB.out.mono (by omega))).setCell (Nat.le_refl _) _).setCell (Nat.le_refl _) _
end Go.Proofs.YtagblibbngmbdaaGreatDoor
namespace Go.Proofs.YtagblibbngmbdaaGreatDoor
open Go.RowKit
def Tk.isN (l:List UInt8):Bool:=decide (0<l.length) && decide (l.length≤12) && Tk.isL (l.headD 0) && decide (Tk.run l=l.length) && !Tk.isW l
theorem zj0 (s:ByteArray) (h0:0<s.size):s[0]=s.data.toList.headD 0:=by
 have h1:=za0 s 0 h0
 rw [List.drop_zero] at h1
 rw [h1];rfl
theorem zhp (s:ByteArray) (w:World) (hw:WTab w) (hs:s.size≤1099511627776):
  Calls Tryz.prog 112 #[.string s] w fun e w'=>e= .returned (.bool (Tk.isN s.data.toList))∧w'=w:=by
 have hz:=Lib.size_eq s
 by_cases h0:s.size=0
 ·have hE:Tk.isN s.data.toList=false:=by unfold Tk.isN;rw [←hz,h0];rfl
  have hse:s=⟨#[]⟩:=by
   apply ByteArray.ext
   exact Array.eq_empty_of_size_eq_zero h0
  have HE:=hide hE
  have HS:=hide hse
  clear hE hz hw
  have q2:s.toList=[]:=by rw [Lib.toList_data,hse]
  have q1:s.toList.isEmpty=true:=by rw [q2];rfl
  clear hse
  go_enter Tryz.func112,Tryz.ntmps112
  go_wp2
  all_goals
   go_ret
   rw [HE.out]
   exact ⟨rfl,rfl⟩
 ·have hp:0<s.size:=by omega
  have q2: ¬ s.toList=[]:=by
   rw [Lib.toList_data]
   intro h1
   rw [h1] at hz
   exact h0 hz
  have q1:s.toList.isEmpty=false:=by simpa using q2
  by_cases h12:12<s.size
  ·have hE:Tk.isN s.data.toList=false:=by
    unfold Tk.isN
    rw [←hz,show decide (s.size≤12)=false from by simp;omega]
    simp
   have HE:=hide hE
   clear hE hz hw
   have d1:decide ((12:Int)<(s.size:Int))=true:=by simp;omega
   go_enter Tryz.func112,Tryz.ntmps112
   go_wp2
   all_goals
    go_ret
    rw [HE.out]
    exact ⟨rfl,rfl⟩
  ·have d1:decide ((12:Int)<(s.size:Int))=false:=by simp;omega
   have hh:=zj0 s hp
   have HL:=hide (fun w=>zbl s[0] w)
   have HR:=hide (fun w=>zcq s 0 w hs (Nat.zero_le _))
   have HW:=hide (fun w hw=>zhm s w hw)
   have HT:=hide hw
   have hE:Tk.isN s.data.toList=(Tk.isL s[0] && decide (Tk.run s.data.toList=s.size) && !Tk.isW s.data.toList):=by
    unfold Tk.isN
    rw [←hz,hh,show decide (0<s.size)=true from by simp;omega,show decide (s.size≤12)=true from by simp;omega]
    simp
   have HE:=hide hE
   clear hE hz hw hh h0
   cases hL:Tk.isL s[0]
   ·go_enter Tryz.func112,Tryz.ntmps112
    go_wp2_with (first|(go_at_call 98;refine (HL.out _).mono ?_;rintro e w' ⟨rfl,hw⟩;subst hw))
    go_ret
    rw [HE.out,hL]
    exact ⟨rfl,rfl⟩
   ·cases hr:decide (Tk.run s.data.toList=s.size)
    ·have q2:((Tk.run s.data.toList:Int) == (s.size:Int))=false:=by simp at hr ⊢;omega
     go_enter Tryz.func112,Tryz.ntmps112
     go_wp2_with (first|(go_at_call 98;refine (HL.out _).mono ?_;rintro e w' ⟨rfl,hw⟩;subst hw)|(go_at_call 71;refine (HR.out _).mono ?_;rintro e w' ⟨rfl,hw⟩;subst hw)|(go_at_call 101;refine (HW.out _ HT.out).mono ?_;rintro e w' ⟨rfl,hw⟩;subst hw))
     go_ret
     rw [HE.out,hL,hr]
     exact ⟨rfl,rfl⟩
    ·have q2:((Tk.run s.data.toList:Int) == (s.size:Int))=true:=by simp at hr ⊢;omega
     cases hWd:Tk.isW s.data.toList
     ·go_enter Tryz.func112,Tryz.ntmps112
      go_wp2_with (first|(go_at_call 98;refine (HL.out _).mono ?_;rintro e w' ⟨rfl,hw⟩;subst hw)|(go_at_call 71;refine (HR.out _).mono ?_;rintro e w' ⟨rfl,hw⟩;subst hw)|(go_at_call 101;refine (HW.out _ HT.out).mono ?_;rintro e w' ⟨rfl,hw⟩;subst hw))
      go_ret
      rw [HE.out,hL,hr,hWd]
      exact ⟨rfl,rfl⟩
     ·go_enter Tryz.func112,Tryz.ntmps112
      go_wp2_with (first|(go_at_call 98;refine (HL.out _).mono ?_;rintro e w' ⟨rfl,hw⟩;subst hw)|(go_at_call 71;refine (HR.out _).mono ?_;rintro e w' ⟨rfl,hw⟩;subst hw)|(go_at_call 101;refine (HW.out _ HT.out).mono ?_;rintro e w' ⟨rfl,hw⟩;subst hw))
      go_ret
      rw [HE.out,hL,hr,hWd]
      exact ⟨rfl,rfl⟩
theorem zj1 (l:List Tk.Tok) (i:Nat) (x:Tk.Tok) (h:l[i]? =some x):(zbd l)[i * 4]? =some (.int .i64 x.kind)∧(zbd l)[i * 4+1]? =some (.int .i64 (x.at':Int))∧(zbd l)[i * 4+2]? =some (.string (bs x.text))∧(zbd l)[i * 4+3]? =some (.int .i64 x.n):=by
 induction l generalizing i with
 |nil=>simp at h
 |cons y r ih=>
  match i with
  |0=>simp at h;subst h;simp [zbd]
  |i+1=>
   have:=ih i (by simpa using h)
   rw [show (i+1) * 4=i * 4+1+1+1+1 from by omega]
   simpa [zbd] using this
end Go.Proofs.YtagblibbngmbdaaGreatDoor
