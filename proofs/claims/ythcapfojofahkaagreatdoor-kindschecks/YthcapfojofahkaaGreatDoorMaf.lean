import Derived.Test.YthcapfojofahkaaGreatDoorMae
import Derived.Test.YthcapfojofahkaaGreatDoorMac
namespace Go.Proofs.YthcapfojofahkaaGreatDoor
open Go.RowKit
theorem sum_nth (f:Sx.Tr→Nat) {l:List Sx.Tr} {i:Nat} {d:Sx.Tr} (h:l[i]? =some d):Sx.sum f (l.take i)+f d≤Sx.sum f l:=by
 have:=Sx.sum_take f l i d h
 have:=Sx.sum_take_le f l (i+1)
 omega
def RPt (n:Nat):Prop:= ∀ (w:World) (P:Nat→Prop) (op z:Int) (nm:List UInt8) (L:List Sx.Tr) (a:Option Addr) (c:Nat),EL w P n L (.slice a L.length c)→Sx.wE n L≤1000000000→
 Calls Tryz.prog 94 #[.agg #[.int .i64 op,.string (bs nm),.int .i64 z,.slice a L.length c]] w fun e w'=>e= .returned (.int .i64 ((1+Sx.wE n L:Nat):Int))∧Kp [] w w'
set_option maxRecDepth 100000 in
set_option maxHeartbeats 1000000 in
theorem rparts_step (n:Nat) (ih:RPt n):RPt (n+1):=by
 intro w P op z nm L a c h hw
 have HS:=hide h
 have IH:=hide ih
 have hwE:=Rn.wE_prt n L
 have hl:L.length≤1000000000:=by have:L.length+_=Sx.wE (n+1) L:=rfl;omega
 have HWE:=hide hwE
 have hsum:Sx.sum (Rn.prt n) L≤1000000000:=by omega
 clear h ih hwE
 go_enter Tryz.func94,Tryz.ntmps94
 go_wp2
 go_loopw [3,4] (fun nv iv wr=> ∃ (k:Nat),k≤L.length∧iv= .int .i64 k∧nv= .int .i64 ((1+Sx.sum (Rn.prt n) (L.take k):Nat):Int)∧Hid (Kp [] w wr)∧wr.cell? ⟨w.heap.size,3,none⟩=some (.slice a L.length c)) (fun _ iv _=>L.length - (intOf iv).toNat)
 case atStart=>exact ⟨0,Nat.zero_le _,rfl,rfl,(Kp.refl _ _).alloc _,by simp [go_sem]⟩
 case round=>
  obtain ⟨k,hk,rfl,rfl,HK,hp⟩:=hrel
  by_cases hlt:k<L.length
  ·obtain ⟨b,off,op1,nm1,z1,L1,aL,cL,rfl,-,hd,m0,m1,m2,m3,hL⟩:=(HS.out.keep HK.out (by simp)).nth k hlt
   have hst:Sx.sum (Rn.prt n) (L.take (k+1))=Sx.sum (Rn.prt n) (L.take k)+(1+Sx.wE n L1):=Sx.sum_take (Rn.prt n) L k _ hd
   have hsl:Sx.sum (Rn.prt n) (L.take k)+(1+Sx.wE n L1)≤Sx.sum (Rn.prt n) L:=sum_nth (Rn.prt n) hd
   have HST:=hide hst
   have HC:=hide (IH.out _ P op1 z1 nm1 L1 aL cL hL (by omega))
   have hk0:(0:Int)≤(k:Int):=by omega
   have hk1:(k:Int)<(L.length:Int):=by omega
   clear hst hL hd
   generalize Sx.sum (Rn.prt n) (L.take k)=X at *
   go_wp2_with fail
   refine HC.out.mono ?_
   rintro e w1 ⟨rfl,hk1⟩
   have c8:w1.cell? ⟨w.heap.size,3,none⟩=some (.slice (some ⟨b,off,none⟩) L.length c):=hk1.some hp (by simp)
   have K1:=hide hk1
   clear hk1
   go_wp2
   go_roundw
   case rel=>exact ⟨k+1,by omega,by go_num,by rw [HST.out];first|(congr 1;push_cast;omega)|go_num,HK.out.trans K1.out,c8⟩
   case measure=>simp [intOf];omega
  ·obtain rfl:k=L.length:=by omega
   have d1:decide ((L.length:Int)<(L.length:Int))=false:=by simp
   go_wp2
   go_ret
   refine ⟨?_,HK.out⟩
   rw [List.take_length,←HWE.out]
   rfl
theorem rparts_any (n:Nat):RPt n:=by
 induction n with
 |zero=>intro w P op z nm L a c h;cases h
 |succ n ih=>exact rparts_step n ih
end Go.Proofs.YthcapfojofahkaaGreatDoor
namespace Go.Proofs.YthcapfojofahkaaGreatDoor
open Go.RowKit
theorem Rn.cpl_le (g:Nat→Sx.Tr→Nat) (p:Sx.Tr→Nat) (h: ∀ m d,g m d≤p d) (most acc:Nat) (l:List Sx.Tr):Rn.cpl g most acc l≤acc+Sx.sum p l:=by
 induction l generalizing acc with
 |nil=>simp [Rn.cpl,Sx.sum]
 |cons d r ih=>
  simp only [Rn.cpl,Sx.sum]
  split
  ·omega
  ·have h1:=ih (acc+g (most - acc) d)
   have h2:=h (most - acc) d
   omega
theorem Rn.cpt_le (n:Nat): ∀ m d,Rn.cpt n m d≤Rn.prt n d:=by
 induction n with
 |zero=>intro m d;simp [Rn.cpt,Rn.prt]
 |succ n ih=>
  intro m d
  have:=Rn.cpl_le (Rn.cpt n) (Rn.prt n) ih m 1 (Sx.eL d)
  simp only [Rn.cpt,Rn.prt,Rn.wE_prt]
  exact this
theorem drop_nth {α:Type} {l:List α} {k:Nat} {d:α} (h:l[k]? =some d):l.drop k=d::l.drop (k+1):=by
 obtain ⟨hk,rfl⟩:=List.getElem?_eq_some_iff.mp h
 exact List.drop_eq_getElem_cons hk
def CPt (n:Nat):Prop:= ∀ (w:World) (P:Nat→Prop) (op z:Int) (nm:List UInt8) (L:List Sx.Tr) (a:Option Addr) (c m:Nat),EL w P n L (.slice a L.length c)→Sx.wE n L≤1000000000→m≤1000000000→
 Calls Tryz.prog 162 #[.agg #[.int .i64 op,.string (bs nm),.int .i64 z,.slice a L.length c],.int .i64 m] w fun e w'=>e= .returned (.int .i64 ((Rn.cpt n m (Sx.tE op nm z L):Nat):Int))∧Kp [] w w'
set_option maxRecDepth 100000 in
set_option maxHeartbeats 1000000 in
theorem countParts_step (n:Nat) (ih:CPt n):CPt (n+1):=by
 intro w P op z nm L a c m h hw hm
 have HS:=hide h
 have IH:=hide ih
 have hwE:=Rn.wE_prt n L
 have hl:L.length≤1000000000:=by have:L.length+_=Sx.wE (n+1) L:=rfl;omega
 have hsum:Sx.sum (Rn.prt n) L≤1000000000:=by omega
 clear h ih hwE
 go_enter Tryz.func162,Tryz.ntmps162
 go_wp2
 go_loopw [5,11] (fun nv iv wr=> ∃ (k acc:Nat),k≤L.length∧iv= .int .i64 k∧nv= .int .i64 (acc:Int)∧acc≤1+Sx.sum (Rn.prt n) (L.take k)∧Hid (Rn.cpt (n+1) m (Sx.tE op nm z L)=Rn.cpl (Rn.cpt n) m acc (L.drop k))∧Hid (Kp [] w wr)) (fun _ iv _=>L.length - (intOf iv).toNat)
 case atStart=>exact ⟨0,1,Nat.zero_le _,rfl,rfl,by simp,rfl,(Kp.refl _ _).alloc _⟩
 case round=>
  obtain ⟨k,acc,hk,rfl,rfl,ha,HA,HK⟩:=hrel
  by_cases hlt:k<L.length
  ·have d1:decide ((k:Int)<(L.length:Int))=true:=by simp;omega
   obtain ⟨b,off,op1,nm1,z1,L1,aL,cL,rfl,-,hd,m0,m1,m2,m3,hL⟩:=(HS.out.keep HK.out (by simp)).nth k hlt
   have hst:Sx.sum (Rn.prt n) (L.take (k+1))=Sx.sum (Rn.prt n) (L.take k)+(1+Sx.wE n L1):=Sx.sum_take (Rn.prt n) L k _ hd
   have hsl:Sx.sum (Rn.prt n) (L.take k)+(1+Sx.wE n L1)≤Sx.sum (Rn.prt n) L:=sum_nth (Rn.prt n) hd
   have HST:=hide hst
   have HDR:=hide (drop_nth hd)
   have HL:=hide hL
   have hk0:(0:Int)≤(k:Int):=by omega
   have hk1:(k:Int)<(L.length:Int):=by omega
   clear hst hL hd
   by_cases hb:m<acc
   ·have d2:decide ((m:Int)<(acc:Int))=true:=by simp;omega
    go_wp2
    go_ret
    refine ⟨?_,HK.out.alloc _⟩
    rw [HA.out,HDR.out,Rn.cpl,if_pos hb]
    rfl
   ·have d2:decide ((m:Int)<(acc:Int))=false:=by simp;omega
    have hcl:Rn.cpt n (m - acc) (Sx.tE op1 nm1 z1 L1)≤1+Sx.wE n L1:=Rn.cpt_le n _ _
    have HX:=hide (HA.out.trans (by rw [HDR.out,Rn.cpl,if_neg hb]))
    have hsub:IntKind.i64.wrap ((m:Int) - (acc:Int))=((m - acc:Nat):Int):=by simp only [IntKind.wrap_i64];omega
    go_wp2_with fail
    refine (IH.out _ P op1 z1 nm1 L1 aL cL (m - acc) (HL.out.keep ((Kp.refl [] _).alloc _) (by simp)) (by omega) (by omega)).mono ?_
    rintro e w1 ⟨rfl,hk1⟩
    have K1:=hide hk1
    clear hk1
    generalize Rn.cpt n (m - acc) (Sx.tE op1 nm1 z1 L1)=X at *
    go_wp2
    go_roundw
    case rel=>exact ⟨k+1,acc+X,by omega,by go_num,by first|(congr 1;push_cast;omega)|go_num,by rw [HST.out];omega,HX.out,(HK.out.alloc _).trans K1.out⟩
    case measure=>simp [intOf];omega
  ·obtain rfl:k=L.length:=by omega
   have d1:decide ((L.length:Int)<(L.length:Int))=false:=by simp
   go_wp2
   go_ret
   refine ⟨?_,HK.out⟩
   rw [HA.out,List.drop_length]
   rfl
theorem countParts_any (n:Nat):CPt n:=by
 induction n with
 |zero=>intro w P op z nm L a c m h;cases h
 |succ n ih=>exact countParts_step n ih
end Go.Proofs.YthcapfojofahkaaGreatDoor
namespace Go.Proofs.YthcapfojofahkaaGreatDoor
open Go.RowKit
set_option maxHeartbeats 400000 in
theorem small_any (b:UInt8) (w:World):Calls Tryz.prog 65 #[.int .u8 (b.toNat:Int)] w fun e w'=>e= .returned (.bool (Tk.isL b))∧w'=w:=by
 rw [Tk.isL_int]
 go_enter Tryz.func65,Tryz.ntmps65
 go_wp2
 all_goals
  go_ret
  first
  |(simp [*];done)
  |(simp [*];omega)
set_option maxHeartbeats 400000 in
theorem digit_any (b:UInt8) (w:World):Calls Tryz.prog 67 #[.int .u8 (b.toNat:Int)] w fun e w'=>e= .returned (.bool (Tk.isD b))∧w'=w:=by
 rw [Tk.isD_int]
 go_enter Tryz.func67,Tryz.ntmps67
 go_wp2
 all_goals
  go_ret
  first
  |(simp [*];done)
  |(simp [*];omega)
set_option maxHeartbeats 400000 in
theorem rF_any (c a:Int) (w:World):
  Calls Tryz.prog 24 #[.int .i64 c,.int .i64 a] w fun e w'=>e= .returned (.agg #[.int .i64 c,.int .i64 a])∧Below w.heap.size w w':=by
 go_enter Tryz.func24,Tryz.ntmps24
 go_wp2
 exact bodyPost_ret (v:= .agg #[.int .i64 c,.int .i64 a]) (by simp [results,Tryz.results24,go_sem]) rfl ⟨rfl,(Below.refl _ _).alloc (Nat.le_refl _) _⟩
set_option maxRecDepth 100000 in
set_option maxHeartbeats 1000000 in
theorem isWord_any (s:ByteArray) (w:World):
  Calls Tryz.prog 66 #[.string s] w fun e w'=>e= .returned (.bool (Tk.isW s.data.toList))∧Below w.heap.size w w':=by
 have hT: ∀ (j:Nat) b,Tk.words[j]? =some b→wcells[j]? =some (.string (bs b)):=fun j b hb=>by
  unfold wcells
  simp [hb]
 have hsz:wcells.length=19:=rfl
 go_enter Tryz.func66,Tryz.ntmps66
 go_wp2
 change Code.wp _ _ _ _ (w.alloc (Obj.cells wcells.toArray 9))
 generalize wcells=T at *
 have HT:=hide hT
 clear hT
 go_loop [4] (fun i=> ∃ j:Nat,j≤19∧i= .int .i64 j∧Hid (hasTo s.data.toList j=false)) (fun i=>19 - (intOf i).toNat)
 case atStart=>exact ⟨0,by omega,rfl,rfl⟩
 case round=>
  obtain ⟨j,hj,rfl,HN⟩:=hrel
  by_cases hlt:j<19
  ·have hb:Tk.words[j]? =some (Tk.words[j]?.getD []):=by
    rw [List.getElem?_eq_getElem (show j<Tk.words.length from hlt)];rfl
   have hTj:=HT.out j _ hb
   have HS:=hide (hasTo_step s.data.toList j _ hb)
   clear hb
   generalize Tk.words[j]?.getD []=b at *
   have hcell:(w.alloc (Obj.cells T.toArray 9)).cell? ⟨w.heap.size,j,none⟩=some (.string (bs b)):=by
    simp [go_sem,hTj]
   cases hq:(s.data.toList == b)
   ·have HN2:Hid (hasTo s.data.toList (j+1)=false):=by
     have h1:=HS.out
     rw [HN.out,hq] at h1
     exact h1
    have heq:((bs b).toList == s.toList)=false:=by rw [←hq,Bool.beq_comm];exact str_beq s b
    go_wp2
    go_round
    case rel=>exact ⟨j+1,by omega,by go_num,HN2⟩
    case measure=>simp [intOf];omega
   ·have HN2:Hid (Tk.isW s.data.toList=true):=by
     have h1:=HS.out
     rw [HN.out,hq] at h1
     exact hasTo_is _ _ h1
    have heq:((bs b).toList == s.toList)=true:=by rw [←hq,Bool.beq_comm];exact str_beq s b
    go_wp2
    go_ret
    rw [HN2.out]
    exact ⟨rfl,(Below.refl _ _).alloc (Nat.le_refl _) _⟩
  ·obtain rfl:j=19:=by omega
   have HN2:Hid (Tk.isW s.data.toList=false):=HN.out
   go_wp2
   go_ret
   rw [HN2.out]
   exact ⟨rfl,(Below.refl _ _).alloc (Nat.le_refl _) _⟩
set_option maxHeartbeats 1000000 in
theorem isName_any (s:ByteArray) (w:World) (hs:s.size≤1099511627776):
  Calls Tryz.prog 44 #[.string s] w fun e w'=>e= .returned (.bool (Tk.isN s.data.toList))∧Below w.heap.size w w':=by
 have hz:=Lib.size_eq s
 by_cases h0:s.size=0
 ·have hE:Tk.isN s.data.toList=false:=by unfold Tk.isN;rw [←hz,h0];rfl
  have HE:=hide hE
  clear hE hz
  have d1:decide ((s.size:Int)<1)=true:=by simp;omega
  go_enter Tryz.func44,Tryz.ntmps44
  go_wp2
  all_goals
   go_ret
   rw [HE.out]
   exact ⟨rfl,Below.refl _ _⟩
 ·have hp:0<s.size:=by omega
  have d1:decide ((s.size:Int)<1)=false:=by simp;omega
  by_cases h12:12<s.size
  ·have hE:Tk.isN s.data.toList=false:=by
    unfold Tk.isN
    rw [←hz,show decide (s.size≤12)=false from by simp;omega]
    simp
   have HE:=hide hE
   clear hE hz
   have d2:decide ((12:Int)<(s.size:Int))=true:=by simp;omega
   go_enter Tryz.func44,Tryz.ntmps44
   go_wp2
   all_goals
    go_ret
    rw [HE.out]
    exact ⟨rfl,Below.refl _ _⟩
  ·have d2:decide ((12:Int)<(s.size:Int))=false:=by simp;omega
   have hh:=head_at s hp
   have HL:=hide (fun w=>small_any s[0] w)
   have HW:=hide (fun w=>isWord_any s w)
   have hE:Tk.isN s.data.toList=(Tk.isL s[0] && decide (Tk.run s.data.toList=s.size) && !Tk.isW s.data.toList):=by
    unfold Tk.isN
    rw [←hz,hh,show decide (0<s.size)=true from by simp;omega,show decide (s.size≤12)=true from by simp;omega]
    simp
   have HE:=hide hE
   clear hE hz hh h0
   cases hL:Tk.isL s[0]
   ·go_enter Tryz.func44,Tryz.ntmps44
    go_wp2_with (first|(go_at_call 65;refine (HL.out _).mono ?_;rintro e w' ⟨rfl,hw⟩;subst hw))
    go_ret
    rw [HE.out,hL]
    exact ⟨rfl,Below.refl _ _⟩
   ·cases hW:Tk.isW s.data.toList
    ·rw [hW] at HW
     go_enter Tryz.func44,Tryz.ntmps44
     go_wp2_with (first|(go_at_call 65;refine (HL.out _).mono ?_;rintro e w' ⟨rfl,hw⟩;subst hw)|(go_at_call 66;refine (HW.out _).mono ?_;rintro e w5 ⟨rfl,hb5⟩))
     have HB5:=hide hb5
     clear hb5
     go_loop [3] (fun i=> ∃ j:Nat,j≤s.size∧i= .int .i64 j∧Hid (Tk.run s.data.toList=j+Tk.run (s.data.toList.drop j))) (fun i=>s.size - (intOf i).toNat)
     case atStart=>exact ⟨0,by omega,rfl,(by show Tk.run _=0+_;simp)⟩
     case round=>
      obtain ⟨j,hj,rfl,HR⟩:=hrel
      by_cases hlt:j<s.size
      ·by_cases hor:(Tk.isL s[j] || Tk.isD s[j])=true
       ·have HR2:Hid (Tk.run s.data.toList=(j+1)+Tk.run (s.data.toList.drop (j+1))):=by
         have h1:=HR.out
         rw [run_step s j hlt hor] at h1
         show _=_
         rw [h1]
         omega
        cases hL2:Tk.isL s[j]
        ·have hD:Tk.isD s[j]=true:=by simpa [hL2] using hor
         clear hor
         go_wp2_with (first|(go_at_call 65;refine (small_any _ _).mono ?_;rintro e w7 ⟨rfl,hw⟩;subst hw)|(go_at_call 67;refine (digit_any _ _).mono ?_;rintro e w7 ⟨rfl,hw⟩;subst hw))
         go_round
         case rel=>exact ⟨j+1,by omega,by go_num,HR2⟩
         case measure=>simp [intOf];omega
        ·clear hor
         go_wp2_with (first|(go_at_call 65;refine (small_any _ _).mono ?_;rintro e w7 ⟨rfl,hw⟩;subst hw)|(go_at_call 67;refine (digit_any _ _).mono ?_;rintro e w7 ⟨rfl,hw⟩;subst hw))
         go_round
         case rel=>exact ⟨j+1,by omega,by go_num,HR2⟩
         case measure=>simp [intOf];omega
       ·have hor':(Tk.isL s[j] || Tk.isD s[j])=false:=by simpa using hor
        have HX:Hid (decide (Tk.run s.data.toList=s.size)=false):=by
         have h1:=HR.out
         rw [run_stop s j hlt hor'] at h1
         show _=_
         rw [h1]
         simp
         omega
        have hL2:Tk.isL s[j]=false:=by simp at hor';exact hor'.1
        have hD:Tk.isD s[j]=false:=by simp at hor';exact hor'.2
        clear hor hor'
        go_wp2_with (first|(go_at_call 65;refine (small_any _ _).mono ?_;rintro e w7 ⟨rfl,hw⟩;subst hw)|(go_at_call 67;refine (digit_any _ _).mono ?_;rintro e w7 ⟨rfl,hw⟩;subst hw))
        go_ret
        rw [HE.out,hL,HX.out]
        exact ⟨rfl,HB5.out⟩
      ·have HX:Hid (decide (Tk.run s.data.toList=s.size)=true):=by
        have h1:=HR.out
        rw [run_end s j hlt] at h1
        show _=_
        rw [h1]
        simp
        omega
       go_wp2
       go_ret
       rw [HE.out,hL,HX.out,hW]
       exact ⟨rfl,HB5.out⟩
    ·rw [hW] at HW
     go_enter Tryz.func44,Tryz.ntmps44
     go_wp2_with (first|(go_at_call 65;refine (HL.out _).mono ?_;rintro e w' ⟨rfl,hw⟩;subst hw)|(go_at_call 66;refine (HW.out _).mono ?_;rintro e w5 ⟨rfl,hb5⟩))
     go_ret
     rw [HE.out,hL,hW]
     exact ⟨by simp,hb5⟩
end Go.Proofs.YthcapfojofahkaaGreatDoor
namespace Go.Proofs.YthcapfojofahkaaGreatDoor
open Go.RowKit
theorem bs0:(bs []).toList=[]:=by rw [Lib.toList_data,bs_list]
def Rn.nmE:Nat→Sx.Tr→Prop
 |0,_=>True
 |n+1,d=>(Sx.eH d).2.1.length≤1099511627776∧ ∀ (i:Nat) x,(Sx.eL d)[i]? =some x→Rn.nmE n x
def XFt (n:Nat):Prop:= ∀ (w:World) (P:Nat→Prop) (op z:Int) (nm:List UInt8) (L:List Sx.Tr) (a:Option Addr) (c:Nat),EL w P n L (.slice a L.length c)→Rn.nmE (n+1) (Sx.tE op nm z L)→
 Calls Tryz.prog 95 #[.agg #[.int .i64 op,.string (bs nm),.int .i64 z,.slice a L.length c]] w fun e w'=>e= .returned (.int .i64 (Rn.xf (n+1) (Sx.tE op nm z L)))∧Kp [] w w'
def Rn.badF (op z:Int) (nm:List UInt8) (len:Nat):Prop:=op<1∨8<op∨len ≠ Rn.want op∨(z ≠ 0∧op ≠ 1)∨(nm ≠ []∧op ≠ 2)
theorem Rn.xf_bad {n:Nat} {op z:Int} {nm:List UInt8} {L:List Sx.Tr} (h:Rn.badF op z nm L.length):Rn.xf (n+1) (Sx.tE op nm z L)=5:=if_pos h
theorem Rn.xf_ok {n:Nat} {op z:Int} {nm:List UInt8} {L:List Sx.Tr} (h: ¬ Rn.badF op z nm L.length):Rn.xf (n+1) (Sx.tE op nm z L)=
  if op=2∧Tk.isN nm=false then 4 else if z<0∨1000000000000000000≤z then 3 else Rn.firstOf (Rn.xf n) L:=if_neg h
set_option maxRecDepth 100000 in
set_option maxHeartbeats 1000000 in
theorem exprFault_op (n:Nat) (ih:XFt n) (w:World) (P:Nat→Prop) (op:Int) (L:List Sx.Tr) (a:Option Addr) (c:Nat) (h:EL w P (n+1) L (.slice a L.length c)) (hn:Rn.nmE (n+2) (Sx.tE op [] 0 L)) (o3:4≤op) (o8:op≤8) (hl:L.length=2):
  Calls Tryz.prog 95 #[.agg #[.int .i64 op,.string (bs []),.int .i64 0,.slice a L.length c]] w fun e w'=>e= .returned (.int .i64 (Rn.firstOf (Rn.xf (n+1)) L))∧Kp [] w w':=by
 have HS:=hide h
 have IH:=hide ih
 have HN:=hide hn.2
 have e0:(bs []).toList=[]:=bs0
 have q1:(op == 1)=false:=by simp;omega
 have q2:(op == 2)=false:=by simp;omega
 have q3:(op == 3)=false:=by simp;omega
 have r1:decide (op<1)=false:=by simp;omega
 have r8:decide (8<op)=false:=by simp;omega
 have hli:(L.length:Int)=2:=by omega
 clear h ih hn hl
 go_enter Tryz.func95,Tryz.ntmps95
 go_wp2
 go_loopw [4] (fun iv wr=> ∃ (k:Nat),k≤L.length∧iv= .int .i64 k∧Hid (Rn.firstOf (Rn.xf (n+1)) L=Rn.firstOf (Rn.xf (n+1)) (L.drop k))∧Hid (Kp [] w wr)∧wr.cell? ⟨w.heap.size,3,none⟩=some (.slice a L.length c)) (fun iv _=>L.length - (intOf iv).toNat)
 case atStart=>exact ⟨0,Nat.zero_le _,rfl,rfl,(Kp.refl _ _).alloc _,by simp [go_sem]⟩
 case round=>
  obtain ⟨k,hk,rfl,HF,HK,hp⟩:=hrel
  by_cases hlt:k<L.length
  ·have d1:decide ((k:Int)<(L.length:Int))=true:=by simp;omega
   obtain ⟨b,off,op1,nm1,z1,L1,aL,cL,rfl,-,hd,m0,m1,m2,m3,hL⟩:=(HS.out.keep HK.out (by simp)).nth k hlt
   have HC:=hide (IH.out _ P op1 z1 nm1 L1 aL cL hL (HN.out k _ hd))
   have HDR:=hide (drop_nth hd)
   have hk0:(0:Int)≤(k:Int):=by omega
   have hk1:(k:Int)<(L.length:Int):=by omega
   clear hL hd
   generalize hX:Rn.xf (n+1) (Sx.tE op1 nm1 z1 L1)=X at *
   by_cases h0:X=0
   ·subst h0
    go_wp2_with fail
    refine HC.out.mono ?_
    rintro e w1 ⟨rfl,hk2⟩
    have c8:w1.cell? ⟨w.heap.size,3,none⟩=some (.slice (some ⟨b,off,none⟩) L.length c):=hk2.some hp (by simp)
    have K1:=hide hk2
    clear hk2
    go_wp2
    go_roundw
    case rel=>exact ⟨k+1,by omega,by go_num,by rw [HF.out,HDR.out,Rn.firstOf,hX];rfl,HK.out.trans K1.out,c8⟩
    case measure=>simp [intOf];omega
   ·go_wp2_with fail
    refine HC.out.mono ?_
    rintro e w1 ⟨rfl,hk2⟩
    have K1:=hide hk2
    clear hk2
    go_wp2
    go_ret
    refine ⟨?_,HK.out.trans K1.out⟩
    rw [HF.out,HDR.out,Rn.firstOf,hX,if_pos h0]
    rfl
  ·obtain rfl:k=L.length:=by omega
   have d1:decide ((L.length:Int)<(L.length:Int))=false:=by simp
   go_wp2
   go_ret
   refine ⟨?_,HK.out⟩
   rw [HF.out,List.drop_length]
   rfl
set_option maxRecDepth 100000 in
set_option maxHeartbeats 1000000 in
theorem exprFault_neg (n:Nat) (ih:XFt n) (w:World) (P:Nat→Prop) (L:List Sx.Tr) (a:Option Addr) (c:Nat) (h:EL w P (n+1) L (.slice a L.length c)) (hn:Rn.nmE (n+2) (Sx.tE 3 [] 0 L)) (hl:L.length=1):
  Calls Tryz.prog 95 #[.agg #[.int .i64 3,.string (bs []),.int .i64 0,.slice a L.length c]] w fun e w'=>e= .returned (.int .i64 (Rn.firstOf (Rn.xf (n+1)) L))∧Kp [] w w':=by
 have HS:=hide h
 have IH:=hide ih
 have HN:=hide hn.2
 have e0:(bs []).toList=[]:=bs0
 have hli:(L.length:Int)=1:=by omega
 clear h ih hn hl
 go_enter Tryz.func95,Tryz.ntmps95
 go_wp2
 go_loopw [4] (fun iv wr=> ∃ (k:Nat),k≤L.length∧iv= .int .i64 k∧Hid (Rn.firstOf (Rn.xf (n+1)) L=Rn.firstOf (Rn.xf (n+1)) (L.drop k))∧Hid (Kp [] w wr)∧wr.cell? ⟨w.heap.size,3,none⟩=some (.slice a L.length c)) (fun iv _=>L.length - (intOf iv).toNat)
 case atStart=>exact ⟨0,Nat.zero_le _,rfl,rfl,(Kp.refl _ _).alloc _,by simp [go_sem]⟩
 case round=>
  obtain ⟨k,hk,rfl,HF,HK,hp⟩:=hrel
  by_cases hlt:k<L.length
  ·have d1:decide ((k:Int)<(L.length:Int))=true:=by simp;omega
   obtain ⟨b,off,op1,nm1,z1,L1,aL,cL,rfl,-,hd,m0,m1,m2,m3,hL⟩:=(HS.out.keep HK.out (by simp)).nth k hlt
   have HC:=hide (IH.out _ P op1 z1 nm1 L1 aL cL hL (HN.out k _ hd))
   have HDR:=hide (drop_nth hd)
   have hk0:(0:Int)≤(k:Int):=by omega
   have hk1:(k:Int)<(L.length:Int):=by omega
   clear hL hd
   generalize hX:Rn.xf (n+1) (Sx.tE op1 nm1 z1 L1)=X at *
   by_cases h0:X=0
   ·subst h0
    go_wp2_with fail
    refine HC.out.mono ?_
    rintro e w1 ⟨rfl,hk2⟩
    have c8:w1.cell? ⟨w.heap.size,3,none⟩=some (.slice (some ⟨b,off,none⟩) L.length c):=hk2.some hp (by simp)
    have K1:=hide hk2
    clear hk2
    go_wp2
    go_roundw
    case rel=>exact ⟨k+1,by omega,by go_num,by rw [HF.out,HDR.out,Rn.firstOf,hX];rfl,HK.out.trans K1.out,c8⟩
    case measure=>simp [intOf];omega
   ·go_wp2_with fail
    refine HC.out.mono ?_
    rintro e w1 ⟨rfl,hk2⟩
    have K1:=hide hk2
    clear hk2
    go_wp2
    go_ret
    refine ⟨?_,HK.out.trans K1.out⟩
    rw [HF.out,HDR.out,Rn.firstOf,hX,if_pos h0]
    rfl
  ·obtain rfl:k=L.length:=by omega
   have d1:decide ((L.length:Int)<(L.length:Int))=false:=by simp
   go_wp2
   go_ret
   refine ⟨?_,HK.out⟩
   rw [HF.out,List.drop_length]
   rfl
set_option maxRecDepth 100000 in
set_option maxHeartbeats 1000000 in
theorem exprFault_num (w:World) (z:Int) (a:Option Addr) (c:Nat):
  Calls Tryz.prog 95 #[.agg #[.int .i64 1,.string (bs []),.int .i64 z,.slice a 0 c]] w fun e w'=>e= .returned (.int .i64 (if z<0∨1000000000000000000≤z then 3 else 0))∧Kp [] w w':=by
 have e0:(bs []).toList=[]:=bs0
 by_cases hz:z<0∨1000000000000000000≤z
 ·rw [if_pos hz]
  have z0: ¬ z=0:=by omega
  by_cases h1:z<0
  ·have d1:decide (z<0)=true:=by simpa using h1
   go_enter Tryz.func95,Tryz.ntmps95
   go_wp2
   go_ret
   exact ⟨rfl,(Kp.refl _ _).alloc _⟩
  ·have d1:decide (z<0)=false:=by simpa using h1
   have d2:decide (1000000000000000000≤z)=true:=by simp;omega
   go_enter Tryz.func95,Tryz.ntmps95
   go_wp2
   go_ret
   exact ⟨rfl,(Kp.refl _ _).alloc _⟩
 ·rw [if_neg hz]
  have d1:decide (z<0)=false:=by simp;omega
  have d2:decide (1000000000000000000≤z)=false:=by simp;omega
  clear hz
  by_cases z0:z=0
  all_goals
   go_enter Tryz.func95,Tryz.ntmps95
   go_wp2
   go_loopw [4] (fun iv wr=>iv= .int .i64 0∧Hid (Kp [] w wr)∧wr.cell? ⟨w.heap.size,3,none⟩=some (.slice a 0 c)) (fun iv _=>(intOf iv).toNat)
   case atStart=>exact ⟨rfl,(Kp.refl _ _).alloc _,by simp [go_sem]⟩
   case round=>
    obtain ⟨rfl,HK,hp⟩:=hrel
    go_wp2
    go_ret
    exact ⟨rfl,HK.out⟩
set_option maxRecDepth 100000 in
set_option maxHeartbeats 1000000 in
theorem exprFault_name (w:World) (nm:List UInt8) (a:Option Addr) (c:Nat) (hn:nm.length≤1099511627776):
  Calls Tryz.prog 95 #[.agg #[.int .i64 2,.string (bs nm),.int .i64 0,.slice a 0 c]] w fun e w'=>e= .returned (.int .i64 (if Tk.isN nm=false then 4 else 0))∧Kp [] w w':=by
 have HI:=hide (fun w=>isName_any (bs nm) w (by show nm.toArray.size≤_;simpa using hn))
 have hbs:(bs nm).data.toList=nm:=by simp [bs]
 rw [hbs] at HI
 clear hbs hn
 by_cases h0:(bs nm).toList=[]
 all_goals
  cases hX:Tk.isN nm
  all_goals
   rw [hX] at HI
   go_enter Tryz.func95,Tryz.ntmps95
   go_wp2_with (go_at_call 44;refine (HI.out _).mono ?_;rintro e w1 ⟨rfl,hk⟩;have c8:w1.cell? ⟨w.heap.size,3,none⟩=some (.slice a 0 c):=(show Kp [] _ _ from Kp.of_below hk).some (by simp [go_sem]) (by simp);have c7:w1.cell? ⟨w.heap.size,2,none⟩=some (.int .i64 0):=(show Kp [] _ _ from Kp.of_below hk).some (by simp [go_sem]) (by simp);have K1:Hid (Kp [] w w1):=((Kp.refl [] _).alloc _).trans (Kp.of_below hk);clear hk)
  ·go_ret
   exact ⟨rfl,K1.out⟩
  ·go_loopw [4] (fun iv wr=>iv= .int .i64 0∧Hid (Kp [] w wr)∧wr.cell? ⟨w.heap.size,3,none⟩=some (.slice a 0 c)) (fun iv _=>(intOf iv).toNat)
   case atStart=>exact ⟨rfl,K1,c8⟩
   case round=>
    obtain ⟨rfl,HK,hp⟩:=hrel
    go_wp2
    go_ret
    exact ⟨rfl,HK.out⟩
end Go.Proofs.YthcapfojofahkaaGreatDoor
namespace Go.Proofs.YthcapfojofahkaaGreatDoor
open Go.RowKit
set_option maxRecDepth 100000 in
set_option maxHeartbeats 1000000 in
theorem exprFault_bad (w:World) (op z:Int) (nm:List UInt8) (k:Nat) (a:Option Addr) (c:Nat) (hb:Rn.badF op z nm k):
  Calls Tryz.prog 95 #[.agg #[.int .i64 op,.string (bs nm),.int .i64 z,.slice a k c]] w fun e w'=>e= .returned (.int .i64 5)∧Kp [] w w':=by
 have hbs:(bs nm).toList=nm:=by rw [Lib.toList_data,bs_list]
 by_cases o1:op=1
 ·subst o1
  have hb': ¬ (k:Int)=0∨((k:Int)=0∧ ¬ nm=[]):=by
   unfold Rn.badF Rn.want at hb
   by_cases h0:nm=[]
   ·simp [h0] at hb;left;omega
   ·by_cases hk:k=0
    ·right;exact ⟨by omega,h0⟩
    ·left;omega
  clear hb
  rcases hb' with hk|⟨hk,h0⟩
  ·go_enter Tryz.func95,Tryz.ntmps95
   go_wp2
   go_ret
   exact ⟨rfl,(Kp.refl _ _).alloc _⟩
  ·have h1:nm.isEmpty=false:=by cases nm<;> simp_all
   by_cases z0:z=0
   all_goals
    go_enter Tryz.func95,Tryz.ntmps95
    go_wp2
    go_ret
    exact ⟨rfl,(Kp.refl _ _).alloc _⟩
 ·by_cases o2:op=2
  ·subst o2
   have hb': ¬ (k:Int)=0∨((k:Int)=0∧ ¬ z=0):=by
    unfold Rn.badF Rn.want at hb
    simp at hb
    omega
   clear hb
   rcases hb' with hk|⟨hk,h0⟩
   ·go_enter Tryz.func95,Tryz.ntmps95
    go_wp2
    go_ret
    exact ⟨rfl,(Kp.refl _ _).alloc _⟩
   ·go_enter Tryz.func95,Tryz.ntmps95
    go_wp2
    go_ret
    exact ⟨rfl,(Kp.refl _ _).alloc _⟩
  ·by_cases o3:op=3
   ·subst o3
    have hb': ¬ (k:Int)=1∨((k:Int)=1∧ ¬ z=0)∨((k:Int)=1∧z=0∧ ¬ nm=[]):=by
     unfold Rn.badF Rn.want at hb
     by_cases h0:nm=[]
     ·simp [h0] at hb;omega
     ·simp [h0] at hb ⊢;omega
    clear hb
    rcases hb' with hk|⟨hk,h0⟩|⟨hk,rfl,h0⟩
    ·go_enter Tryz.func95,Tryz.ntmps95
     go_wp2
     go_ret
     exact ⟨rfl,(Kp.refl _ _).alloc _⟩
    ·go_enter Tryz.func95,Tryz.ntmps95
     go_wp2
     go_ret
     exact ⟨rfl,(Kp.refl _ _).alloc _⟩
    ·have h1:nm.isEmpty=false:=by cases nm<;> simp_all
     go_enter Tryz.func95,Tryz.ntmps95
     go_wp2
     go_ret
     exact ⟨rfl,(Kp.refl _ _).alloc _⟩
   ·have q1:(op == 1)=false:=by simpa using o1
    have q2:(op == 2)=false:=by simpa using o2
    have q3:(op == 3)=false:=by simpa using o3
    have hb':op<1∨(1≤op∧8<op)∨(1≤op∧op≤8∧(¬ (k:Int)=2∨((k:Int)=2∧ ¬ z=0)∨((k:Int)=2∧z=0∧ ¬ nm=[]))):=by
     unfold Rn.badF Rn.want at hb
     by_cases h0:nm=[]
     ·simp [h0,o1,o2,o3] at hb;omega
     ·simp [h0,o1,o2,o3] at hb ⊢;omega
    clear hb
    rcases hb' with h1|⟨h1,h8⟩|⟨h1,h8,hb'⟩
    ·have r1:decide (op<1)=true:=by simpa using h1
     go_enter Tryz.func95,Tryz.ntmps95
     go_wp2
     go_ret
     exact ⟨rfl,(Kp.refl _ _).alloc _⟩
    ·have r1:decide (op<1)=false:=by simpa using h1
     have r8:decide (8<op)=true:=by simpa using h8
     go_enter Tryz.func95,Tryz.ntmps95
     go_wp2
     go_ret
     exact ⟨rfl,(Kp.refl _ _).alloc _⟩
    ·have r1:decide (op<1)=false:=by simpa using h1
     have r8:decide (8<op)=false:=by simpa using h8
     rcases hb' with hk|⟨hk,h0⟩|⟨hk,rfl,h0⟩
     ·go_enter Tryz.func95,Tryz.ntmps95
      go_wp2
      go_ret
      exact ⟨rfl,(Kp.refl _ _).alloc _⟩
     ·go_enter Tryz.func95,Tryz.ntmps95
      go_wp2
      go_ret
      exact ⟨rfl,(Kp.refl _ _).alloc _⟩
     ·have h1:nm.isEmpty=false:=by cases nm<;> simp_all
      go_enter Tryz.func95,Tryz.ntmps95
      go_wp2
      go_ret
      exact ⟨rfl,(Kp.refl _ _).alloc _⟩
end Go.Proofs.YthcapfojofahkaaGreatDoor
namespace Go.Proofs.YthcapfojofahkaaGreatDoor
open Go.RowKit
theorem exprFault_step (n:Nat) (ih:XFt n):XFt (n+1):=by
 intro w P op z nm L a c h hn
 by_cases hb:Rn.badF op z nm L.length
 ·rw [Rn.xf_bad hb]
  exact exprFault_bad w op z nm L.length a c hb
 ·rw [Rn.xf_ok hb]
  have hb':1≤op∧op≤8∧L.length=Rn.want op∧(z=0∨op=1)∧(nm=[]∨op=2):=by
   unfold Rn.badF at hb
   refine ⟨by omega,by omega,?_,by omega,?_⟩
   ·exact Decidable.byContradiction fun hc=>hb (.inr (.inr (.inl hc)))
   ·exact Decidable.byContradiction fun hc=>hb (.inr (.inr (.inr (.inr ⟨fun e=>hc (.inl e),fun e=>hc (.inr e)⟩))))
  clear hb
  obtain ⟨b1,b8,bl,bz,bn⟩:=hb'
  by_cases o1:op=1
  ·subst o1
   obtain rfl:nm=[]:=by simpa using bn
   obtain rfl:L=[]:=by simpa [Rn.want] using bl
   rw [if_neg (by omega)]
   exact exprFault_num w z a c
  ·obtain rfl:z=0:=by omega
   by_cases o2:op=2
   ·subst o2
    obtain rfl:L=[]:=by simpa [Rn.want] using bl
    have e:(if (2:Int)=2∧Tk.isN nm=false then (4:Int) else if (0:Int)<0∨(1000000000000000000:Int)≤0 then 3 else Rn.firstOf (Rn.xf (n+1)) [])=if Tk.isN nm=false then 4 else 0:=by simp [Rn.firstOf]
    rw [e]
    exact exprFault_name w nm a c hn.1
   ·obtain rfl:nm=[]:=by simpa [o2] using bn
    rw [if_neg (by omega),if_neg (by omega)]
    by_cases o3:op=3
    ·subst o3
     exact exprFault_neg n ih w P L a c h hn (by simpa [Rn.want] using bl)
    ·exact exprFault_op n ih w P op L a c h hn (by omega) b8 (by simpa [Rn.want,o1,o2,o3] using bl)
theorem exprFault_any (n:Nat):XFt n:=by
 induction n with
 |zero=>intro w P op z nm L a c h;cases h
 |succ n ih=>exact exprFault_step n ih
end Go.Proofs.YthcapfojofahkaaGreatDoor
namespace Go.Proofs.YthcapfojofahkaaGreatDoor
open Go.RowKit
theorem bsl (c:List UInt8):(bs c).toList=c:=by rw [Lib.toList_data,bs_list]
theorem bsz (c:List UInt8):(bs c).size=c.length:=by show c.toArray.size=_;simp
theorem bsx (c:List UInt8) (a b:Nat):((bs c).extract a b).toList=(c.drop a).take (b - a):=by rw [Lib.extract_toList,←Lib.toList_data,bsl]
set_option maxHeartbeats 400000 in
theorem zeroOr_any (c:List UInt8) (b:Bool) (w:World):
  Calls Tryz.prog 123 #[.string (bs c),.bool b] w fun e w'=>e= .returned (.bool (c !=[45] || b))∧w'=w:=by
 have e0:(bs c).toList=c:=bsl c
 by_cases hc:c=[45]
 ·subst hc
  go_enter Tryz.func123,Tryz.ntmps123
  go_wp2
  go_ret
  exact ⟨rfl,rfl⟩
 ·have hb:(c !=[45])=true:=by simpa using hc
  rw [hb]
  go_enter Tryz.func123,Tryz.ntmps123
  go_wp2
  go_ret
  exact ⟨rfl,rfl⟩
theorem Rn.sides_cat (r:List UInt8) (c:UInt8):Rn.sides (r++[c])=(r.all (fun b=>b == 115 || b == 114) && c == 105):=by
 induction r with
 |nil=>simp [Rn.sides]
 |cons b r ih=>
  rw [List.cons_append,List.all_cons,Bool.and_assoc,←ih]
  cases r with
  |nil=>rfl
  |cons d r=>rfl
theorem Rn.isT_cat (r:List UInt8) (c:UInt8) (ends:Int):Rn.isT (r++[c]) ends=((r.all (fun b=>b == 115 || b == 114) && c == 105) && decide ((r.length:Int)≤ends)):=by
 have e:(((r++[c]).length:Nat):Int) - 1=(r.length:Int):=by simp
 rw [Rn.isT,Rn.sides_cat,e]
set_option maxRecDepth 100000 in
set_option maxHeartbeats 1000000 in
theorem rIsType_any (t:List UInt8) (ends:Int) (w:World) (hn:t.length≤1099511627776):
  Calls Tryz.prog 45 #[.string (bs t),.int .i64 ends] w fun e w'=>e= .returned (.bool (Rn.isT t ends))∧w'=w:=by
 rcases List.eq_nil_or_concat t with rfl|⟨r,c,rfl⟩
 ·have d1:decide ((((bs []).size:Nat):Int)<1)=true:=rfl
  go_enter Tryz.func45,Tryz.ntmps45
  go_wp2
  go_ret
  exact ⟨rfl,rfl⟩
 ·rw [List.concat_eq_append] at hn ⊢
  have hz:((bs (r++[c])).size:Int)=(r.length:Int)+1:=by rw [bsz];simp
  have hl:r.length≤1099511627776:=by simp at hn;omega
  have hw:wrap64 ((r.length:Int)+1 - 1)=(r.length:Int):=by simp only [wrap64];omega
  have d1:decide ((r.length:Int)+1<1)=false:=by simp;omega
  have hx:((bs (r++[c])).extract r.length (bs (r++[c])).size).toList=[c]:=by rw [bsx,bsz];simp
  have HT:=hide (Rn.isT_cat r c ends)
  have HX:Hid (∀ (k:Nat) b,r[k]? =some b→((bs (r++[c])).extract k (k+1)).toList=[b]):=fun k b hb=>by
   rw [bsx,show k+1 - k=1 from by omega]
   obtain ⟨hk,rfl⟩:=List.getElem?_eq_some_iff.mp hb
   rw [List.drop_append_of_le_length (by omega),List.drop_eq_getElem_cons hk]
   rfl
  clear hn
  rw [HT.out]
  generalize bs (r++[c])=s at *
  by_cases he:ends<(r.length:Int)
  ·have d2:decide (ends<(r.length:Int))=true:=by simpa using he
   rw [show decide ((r.length:Int)≤ends)=false from by simp;omega,Bool.and_false]
   go_enter Tryz.func45,Tryz.ntmps45
   go_wp2
   go_ret
   exact ⟨rfl,rfl⟩
  ·have d2:decide (ends<(r.length:Int))=false:=by simpa using he
   rw [show decide ((r.length:Int)≤ends)=true from by simp;omega,Bool.and_true]
   have z1:(0:Int)≤(r.length:Int):=by omega
   have z2:(r.length:Int)≤(r.length:Int)+1:=by omega
   by_cases hc:c=105
   ·have ec:(c == 105)=true:=by simpa using hc
    have hx':(s.extract r.length s.size).toList=[105]:=by rw [hx,hc]
    clear hx hc
    rw [ec,Bool.and_true]
    go_enter Tryz.func45,Tryz.ntmps45
    go_wp2
    go_loopw [5] (fun iv wr=> ∃ (k:Nat),k≤r.length∧iv= .int .i64 k∧Hid (r.all (fun b=>b == 115 || b == 114)=(r.drop k).all (fun b=>b == 115 || b == 114))∧wr=w) (fun iv _=>r.length - (intOf iv).toNat)
    case atStart=>exact ⟨0,Nat.zero_le _,rfl,rfl,rfl⟩
    case round=>
     obtain ⟨k,hk,rfl,HF,rfl⟩:=hrel
     by_cases hlt:k<r.length
     ·have d3:decide ((k:Int)<(r.length:Int))=true:=by simp;omega
      obtain ⟨b,hb⟩: ∃ b,r[k]? =some b:=⟨_,List.getElem?_eq_getElem hlt⟩
      have hy:=HX.out k b hb
      have HD:=hide (drop_nth hb)
      have k0:(0:Int)≤(k:Int):=by omega
      have k1:(k:Int)≤(k:Int)+1:=by omega
      have k2:(k:Int)+1≤(r.length:Int)+1:=by omega
      by_cases h1:b=115
      ·subst h1
       go_wp2
       go_roundw
       case rel=>exact ⟨k+1,by omega,by go_num,by rw [HF.out,HD.out,List.all_cons];rfl,trivial⟩
       case measure=>simp [intOf];omega
      ·by_cases h2:b=114
       ·subst h2
        go_wp2
        go_roundw
        case rel=>exact ⟨k+1,by omega,by go_num,by rw [HF.out,HD.out,List.all_cons];rfl,trivial⟩
        case measure=>simp [intOf];omega
       ·have q1:([b] == [115])=false:=by simpa using h1
        have q2:([b] == [114])=false:=by simpa using h2
        go_wp2
        go_ret
        refine ⟨?_,rfl⟩
        rw [HF.out,HD.out,List.all_cons,beq_eq_false_iff_ne.2 h1,beq_eq_false_iff_ne.2 h2]
        rfl
     ·obtain rfl:k=r.length:=by omega
      have d3:decide ((r.length:Int)<(r.length:Int))=false:=by simp
      go_wp2
      go_ret
      refine ⟨?_,rfl⟩
      rw [HF.out,List.drop_length]
      rfl
   ·have ec:(c == 105)=false:=by simpa using hc
    rw [ec,Bool.and_false]
    go_enter Tryz.func45,Tryz.ntmps45
    go_wp2
    go_ret
    exact ⟨rfl,rfl⟩
def Rn.fA (d:Int):UInt8:=if Rn.hasA d then 65 else 45
def Rn.fB (d:Int):UInt8:=if Rn.hasB d then 66 else 45
def Rn.fT (d:Int):UInt8:=if Rn.hasT d then 84 else 45
def Rn.fN (d:Int):UInt8:=if Rn.hasT d then 78 else 45
def Rn.fE (d:Int):UInt8:=if d=10 then 42 else if Rn.fewE d=1 then 49 else 48
def Rn.fS (d:Int):UInt8:=if Rn.hasS d then 66 else 45
def Rn.fO (d:Int):UInt8:=if Rn.hasO d then 69 else 45
def Rn.fld (d:Int):List UInt8:=[Rn.fA d,Rn.fB d,Rn.fT d,Rn.fN d,Rn.fE d,Rn.fS d,Rn.fO d]
theorem Rn.kinds {d:Int} (h1:1≤d) (h2:d≤14):d=1∨d=2∨d=3∨d=4∨d=5∨d=6∨d=7∨d=8∨d=9∨d=10∨d=11∨d=12∨d=13∨d=14:=by omega
set_option maxRecDepth 100000 in
set_option maxHeartbeats 1000000 in
theorem fields_no (d:Int) (w:World) (h:d<1∨14<d):
  Calls Tryz.prog 93 #[.int .i64 d] w fun e w'=>e= .returned (.string (bs []))∧Kp [] w w':=by
 by_cases h1:d<1
 ·have d1:decide (d<1)=true:=by simpa using h1
  go_enter Tryz.func93,Tryz.ntmps93
  go_wp2
  go_ret
  exact ⟨rfl,(Kp.refl _ _).alloc _⟩
 ·have d1:decide (d<1)=false:=by simpa using h1
  have d2:decide (15≤d)=true:=by simp;omega
  go_enter Tryz.func93,Tryz.ntmps93
  go_wp2
  go_ret
  exact ⟨rfl,(Kp.refl _ _).alloc _⟩
set_option maxRecDepth 100000 in
set_option maxHeartbeats 1000000 in
theorem fields_any (d:Int) (w:World) (h1:1≤d) (h2:d≤14):
  Calls Tryz.prog 93 #[.int .i64 d] w fun e w'=>e= .returned (.string (bs (Rn.fld d)))∧Kp [] w w':=by
 go_enter Tryz.func93,Tryz.ntmps93
 go_wp2
 go_ret
 refine ⟨?_,(Kp.refl _ _).alloc _⟩
 rcases Rn.kinds h1 h2 with rfl|rfl|rfl|rfl|rfl|rfl|rfl|rfl|rfl|rfl|rfl|rfl|rfl|rfl
 all_goals rfl
end Go.Proofs.YthcapfojofahkaaGreatDoor
