import Derived.Test.YtagblibbngmbdaaGreatDoorProg
import Derived.Test.YtagblibbngmbdaaGreatDoorMaa
import Derived.WalkKit
import Derived.WalkSpells
import Derived.WalkLawsBesides
import Derived.Lib.Bytealg
import Derived.Laws.Strings3
import Derived.Lib.Walk
import Derived.Lib.Slices
import Derived.Shelf.Strconv.Clone
import Derived.Deep.MidRow
set_option maxRecDepth 100000
set_option maxHeartbeats 1000000
namespace Go.Proofs.YtagblibbngmbdaaGreatDoor
open Go.RowKit
theorem hide {p:Prop} (h:p):Hid p:=h
theorem Tk.isL_int (b:UInt8):Tk.isL b=(decide ((97:Int)≤(b.toNat:Int)) && decide ((b.toNat:Int)≤122)):=by
 unfold Tk.isL
 congr 1<;> simp only [decide_eq_decide]<;> omega
theorem Tk.isD_int (b:UInt8):Tk.isD b=(decide ((48:Int)≤(b.toNat:Int)) && decide ((b.toNat:Int)≤57)):=by
 unfold Tk.isD
 congr 1<;> simp only [decide_eq_decide]<;> omega
theorem Tk.isB_int (b:UInt8):Tk.isB b=((b.toNat:Int) == 32 || (b.toNat:Int) == 9 || (b.toNat:Int) == 10 || (b.toNat:Int) == 13):=by
 unfold Tk.isB
 rw [Bool.eq_iff_iff]
 simp only [Bool.or_eq_true,beq_iff_eq]
 omega
theorem zbl (b:UInt8) (w:World):Calls Tryz.prog 98 #[.int .u8 (b.toNat:Int)] w fun e w'=>e= .returned (.bool (Tk.isL b))∧w'=w:=by
 rw [Tk.isL_int]
 go_enter Tryz.func98,Tryz.ntmps98
 go_wp2
 all_goals
  go_ret
  first
  |(simp [*];done)
  |(simp [*];omega)
theorem zaz (b:UInt8) (w:World):Calls Tryz.prog 73 #[.int .u8 (b.toNat:Int)] w fun e w'=>e= .returned (.bool (Tk.isD b))∧w'=w:=by
 rw [Tk.isD_int]
 go_enter Tryz.func73,Tryz.ntmps73
 go_wp2
 all_goals
  go_ret
  first
  |(simp [*];done)
  |(simp [*];omega)
theorem zb9 (b:UInt8) (w:World):Calls Tryz.prog 70 #[.int .u8 (b.toNat:Int)] w fun e w'=>e= .returned (.bool (Tk.isB b))∧w'=w:=by
 rw [Tk.isB_int]
 go_enter Tryz.func70,Tryz.ntmps70
 go_wp2
 all_goals
  go_ret
  first
  |(simp [*];done)
  |(simp [*];omega)
theorem zbw (s p:ByteArray) (w:World):
  Calls Tryz.prog 126 #[.string s,.string p] w fun e w'=>e= .returned (.bool (Lib.hasPrefix s.data.toList p.data.toList))∧w'=w:=by
 have hE:=Lib.hasPrefix_raw s p
 by_cases hle:p.size≤s.size
 ·rw [show decide (p.size≤s.size)=true from by simpa using hle] at hE
  have HE:=hide hE
  clear hE
  go_enter Tryz.func126,Tryz.ntmps126
  go_wp2
  go_ret
  rw [←HE.out]
  exact ⟨rfl,rfl⟩
 ·rw [show decide (p.size≤s.size)=false from by simpa using hle] at hE
  have HE:=hide hE
  clear hE
  go_enter Tryz.func126,Tryz.ntmps126
  go_wp2
  go_ret
  rw [←HE.out]
  exact ⟨rfl,rfl⟩
theorem zce (s p:ByteArray) (w:World):
  Calls Tryz.prog 102 #[.string s,.string p] w fun e w'=>e= .returned (.bool (Lib.hasPrefix s.data.toList p.data.toList))∧w'=w:=by
 go_enter Tryz.func102,Tryz.ntmps102
 go_wp2_with (go_at_call 126;refine (zbw _ _ _).mono ?_;rintro e w' ⟨rfl,hw⟩;rw [hw])
 go_ret
 exact ⟨rfl,rfl⟩
theorem zc5 (s:ByteArray) (c:Int) (w:World):
  Calls Tryz.prog 127 #[.string s,.int .u8 c] w fun e w'=>e= .returned (.int .i64 (Lib.indexByte s.data.toList c.toNat.toUInt8))∧w'=w:=by
 go_enter Tryz.func127,Tryz.ntmps127
 go_wp2
 rw [run_callFunc_extern Tryz.func146 (by kernel_rfl) (by kernel_rfl) (by kernel_rfl) (e:=Extern.BytealgIndexByte.indexByte) (by kernel_rfl),Lib.run_indexByteString]
 simp only [Result.andThen]
 rw [Oper.upon_value]
 go_wp2
 go_ret
 exact ⟨rfl,rfl⟩
theorem zef (s:ByteArray) (c:Int) (w:World):
  Calls Tryz.prog 103 #[.string s,.int .u8 c] w fun e w'=>e= .returned (.int .i64 (Lib.indexByte s.data.toList c.toNat.toUInt8))∧w'=w:=by
 go_enter Tryz.func103,Tryz.ntmps103
 go_wp2_with (go_at_call 127;refine (zc5 _ _ _).mono ?_;rintro e w' ⟨rfl,hw⟩;rw [hw])
 go_ret
 exact ⟨rfl,rfl⟩
end Go.Proofs.YtagblibbngmbdaaGreatDoor
namespace Go.Proofs.YtagblibbngmbdaaGreatDoor
open Go.Shelf Go.RowKit
def zlc:Go.Shelf.Ren:=⟨fun|316=>99|n=>n,fun|37=>114|127=>143|n=>n,fun|n=>n⟩
theorem zjs:Go.Proofs.LaysM.n316 Tryz.prog zlc:={
 mixed:=by kernel_rfl
 f316:=Tryz.func99.trans (congrArg some (by kernel_rfl))
 t0:=Tryz.underlying0
 a0:=Tryz.isAgg0
 z0:=Tryz.sizeOf0
 v0:=Tryz.zeroValue0
 t3:=Tryz.underlying3
 a3:=Tryz.isAgg3
 z3:=Tryz.sizeOf3
 v3:=Tryz.zeroValue3
 t4:=Tryz.underlying4
 a4:=Tryz.isAgg4
 z4:=Tryz.sizeOf4
 v4:=Tryz.zeroValue4
 t9:=Tryz.underlying9
 a9:=Tryz.isAgg9
 z9:=Tryz.sizeOf9
 v9:=Tryz.zeroValue9
 t37:=Tryz.underlying114
 a37:=Tryz.isAgg114
 z37:=Tryz.sizeOf114
 v37:=Tryz.zeroValue114
 t127:=Tryz.underlying143
 a127:=Tryz.isAgg143
 z127:=Tryz.sizeOf143
 v127:=Tryz.zeroValue143
 t5:=Tryz.underlying5
 a5:=Tryz.isAgg5
 z5:=Tryz.sizeOf5
 v5:=Tryz.zeroValue5
 i0:=by kernel_rfl
 i3:=by kernel_rfl
 i4:=by kernel_rfl
 i5:=by kernel_rfl
 i9:=by kernel_rfl
 i37:=by kernel_rfl
 i127:=by kernel_rfl }
theorem zgm (s:ByteArray) (w:World) (hlim:s.size≤281474976710656):
  Calls Tryz.prog 99 #[.string s] w fun e w'=>e= .returned (.string s)∧Below w.heap.size w w':=Any.stringslite_Clone zjs s w hlim
end Go.Proofs.YtagblibbngmbdaaGreatDoor
namespace Go.Proofs.YtagblibbngmbdaaGreatDoor
open Go.RowKit
theorem zc6 (s:ByteArray) (w:World) (hlim:s.size≤281474976710656):
  Calls Tryz.prog 72 #[.string s] w fun e w'=>e= .returned (.string s)∧Below w.heap.size w w':=by
 go_enter Tryz.func72,Tryz.ntmps72
 go_wp2_with fail
 refine (zgm s _ hlim).mono ?_
 rintro e w1 ⟨rfl,hb⟩
 go_wp2
 go_ret
 exact ⟨rfl,hb⟩
theorem za0 (s:ByteArray) (j:Nat) (h:j<s.size):s.data.toList.drop j=s[j]::s.data.toList.drop (j+1):=by
 rw [List.drop_eq_getElem_cons (by rw [←Lib.size_eq];exact h)]
 rfl
theorem zhj (s:ByteArray) (j:Nat) (h:j<s.size) (hy:(Tk.isL s[j] || Tk.isD s[j])=true):Tk.run (s.data.toList.drop j)=Tk.run (s.data.toList.drop (j+1))+1:=by
 rw [za0 s j h]
 simp only [Tk.run]
 rw [if_pos hy]
theorem zhk (s:ByteArray) (j:Nat) (h:j<s.size) (hy:(Tk.isL s[j] || Tk.isD s[j])=false):Tk.run (s.data.toList.drop j)=0:=by
 rw [za0 s j h]
 simp only [Tk.run]
 rw [if_neg (by simp [hy])]
theorem zjt (s:ByteArray) (j:Nat) (h: ¬ j<s.size):Tk.run (s.data.toList.drop j)=0:=by
 rw [List.drop_of_length_le (by rw [←Lib.size_eq];omega)];rfl
theorem zld (s:ByteArray) (r:Bool) (j:Nat) (h: ¬ j<s.size):Tk.skip r (s.data.toList.drop j)=0:=by
 rw [List.drop_of_length_le (by rw [←Lib.size_eq];omega)];rfl
theorem zms (s:ByteArray) (r:Bool) (j:Nat) (h:j<s.size) (e:((s[j].toNat:Int) == 10)=true):Tk.skip r (s.data.toList.drop j)=Tk.skip false (s.data.toList.drop (j+1))+1:=by
 have e':s[j].toNat=10:=by simp at e;omega
 rw [za0 s j h]
 simp only [Tk.skip]
 rw [if_pos e']
theorem zle (s:ByteArray) (r:Bool) (j:Nat) (h:j<s.size) (e0:((s[j].toNat:Int) == 10)=false) (e:((s[j].toNat:Int) == 35)=true):Tk.skip r (s.data.toList.drop j)=Tk.skip true (s.data.toList.drop (j+1))+1:=by
 have e1: ¬ s[j].toNat=10:=by simp at e0;omega
 have e':s[j].toNat=35:=by simp at e;omega
 rw [za0 s j h]
 simp only [Tk.skip]
 rw [if_neg e1,if_pos e']
theorem zju (s:ByteArray) (r:Bool) (j:Nat) (h:j<s.size) (e0:((s[j].toNat:Int) == 10)=false) (e:((s[j].toNat:Int) == 35)=false) (hg:(!r && !Tk.isB s[j])=false):Tk.skip r (s.data.toList.drop j)=Tk.skip r (s.data.toList.drop (j+1))+1:=by
 have e1: ¬ s[j].toNat=10:=by simp at e0;omega
 have e': ¬ s[j].toNat=35:=by simp at e;omega
 rw [za0 s j h]
 simp only [Tk.skip]
 rw [if_neg e1,if_neg e',if_neg (by rw [hg];simp)]
theorem zjv (s:ByteArray) (r:Bool) (j:Nat) (h:j<s.size) (e0:((s[j].toNat:Int) == 10)=false) (e:((s[j].toNat:Int) == 35)=false) (hg:(!r && !Tk.isB s[j])=true):Tk.skip r (s.data.toList.drop j)=0:=by
 have e1: ¬ s[j].toNat=10:=by simp at e0;omega
 have e': ¬ s[j].toNat=35:=by simp at e;omega
 rw [za0 s j h]
 simp only [Tk.skip]
 rw [if_neg e1,if_neg e',if_pos hg]
theorem zcq (s:ByteArray) (k:Nat) (w:World) (hs:s.size≤1099511627776) (hk:k≤s.size):
  Calls Tryz.prog 71 #[.string s,.int .i64 k] w fun e w'=>e= .returned (.int .i64 ((k+Tk.run (s.data.toList.drop k):Nat):Int))∧w'=w:=by
 go_enter Tryz.func71,Tryz.ntmps71
 go_wp2
 go_loop [11] (fun i=> ∃ j:Nat,k+j≤s.size∧i= .int .i64 j∧Hid (Tk.run (s.data.toList.drop k)=j+Tk.run (s.data.toList.drop (k+j)))) (fun i=>s.size - k - (intOf i).toNat)
 case atStart=>exact ⟨0,hk,rfl,(by show Tk.run _=0+_;simp)⟩
 case round=>
  obtain ⟨j,hj,rfl,HR⟩:=hrel
  by_cases hlt:k+j<s.size
  ·have d1:decide ((j:Int)<(s.size:Int) - (k:Int))=true:=by simp;omega
   by_cases hor:(Tk.isL s[k+j] || Tk.isD s[k+j])=true
   ·have HR2:Hid (Tk.run (s.data.toList.drop k)=(j+1)+Tk.run (s.data.toList.drop (k+(j+1)))):=by
     have h1:=HR.out
     rw [zhj s (k+j) hlt hor] at h1
     show _=_
     rw [h1,show k+(j+1)=k+j+1 from by omega]
     omega
    cases hL:Tk.isL s[k+j]
    ·have hD:Tk.isD s[k+j]=true:=by simpa [hL] using hor
     clear hor
     go_wp2_with (first|(go_at_call 98;refine (zbl _ _).mono ?_;rintro e w' ⟨rfl,hw⟩;subst hw)|(go_at_call 73;refine (zaz _ _).mono ?_;rintro e w' ⟨rfl,hw⟩;subst hw))
     go_round
     case rel=>exact ⟨j+1,by omega,by go_num,HR2⟩
     case measure=>simp [intOf];omega
    ·clear hor
     go_wp2_with (first|(go_at_call 98;refine (zbl _ _).mono ?_;rintro e w' ⟨rfl,hw⟩;subst hw)|(go_at_call 73;refine (zaz _ _).mono ?_;rintro e w' ⟨rfl,hw⟩;subst hw))
     go_round
     case rel=>exact ⟨j+1,by omega,by go_num,HR2⟩
     case measure=>simp [intOf];omega
   ·have hor':(Tk.isL s[k+j] || Tk.isD s[k+j])=false:=by simpa using hor
    have HE:Hid (Tk.run (s.data.toList.drop k)=j):=by
     have h1:=HR.out
     rw [zhk s (k+j) hlt hor'] at h1
     exact h1
    have hL:Tk.isL s[k+j]=false:=by simp at hor';exact hor'.1
    have hD:Tk.isD s[k+j]=false:=by simp at hor';exact hor'.2
    clear hor hor'
    go_wp2_with (first|(go_at_call 98;refine (zbl _ _).mono ?_;rintro e w' ⟨rfl,hw⟩;subst hw)|(go_at_call 73;refine (zaz _ _).mono ?_;rintro e w' ⟨rfl,hw⟩;subst hw))
    go_ret
    refine ⟨?_,rfl⟩
    rw [HE.out]
    show Ending.returned (Value.int .i64 _)=_
    congr 2
  ·have e1:=zjt s (k+j) hlt
   have e2:=HR.out
   rw [e1] at e2
   have E2:=hide e2
   clear e1 e2
   have d1:decide ((j:Int)<(s.size:Int) - (k:Int))=false:=by simp;omega
   go_wp2
   go_ret
   refine ⟨?_,rfl⟩
   rw [E2.out]
   show Ending.returned (Value.int .i64 (s.size:Int))=_
   congr 2
   omega
theorem zeg (s:ByteArray) (k:Nat) (w:World) (hs:s.size≤1099511627776) (hk:k≤s.size):
  Calls Tryz.prog 49 #[.string s,.int .i64 k] w fun e w'=>e= .returned (.int .i64 ((k+Tk.skip false (s.data.toList.drop k):Nat):Int))∧w'=w:=by
 go_enter Tryz.func49,Tryz.ntmps49
 go_wp2
 go_loop [5,12] (fun r i=> ∃ (j:Nat) (q:Bool),k+j≤s.size∧i= .int .i64 j∧r= .bool q∧Hid (Tk.skip false (s.data.toList.drop k)=j+Tk.skip q (s.data.toList.drop (k+j)))) (fun _ i=>s.size - k - (intOf i).toNat)
 case atStart=>exact ⟨0,false,hk,rfl,rfl,(by show Tk.skip _ _=0+_;simp)⟩
 case round=>
  obtain ⟨j,q,hj,rfl,rfl,HR⟩:=hrel
  by_cases hlt:k+j<s.size
  ·have d1:decide ((j:Int)<(s.size:Int) - (k:Int))=true:=by simp;omega
   have NX: ∀ q':Bool,Tk.skip q (s.data.toList.drop (k+j))=Tk.skip q' (s.data.toList.drop (k+j+1))+1→Hid (Tk.skip false (s.data.toList.drop k)=(j+1)+Tk.skip q' (s.data.toList.drop (k+(j+1)))):=fun q' hq=>by
    have h1:=HR.out
    rw [hq] at h1
    show _=_
    rw [h1,show k+(j+1)=k+j+1 from by omega]
    omega
   cases h10:((s[k+j].toNat:Int) == 10)
   ·cases h35:((s[k+j].toNat:Int) == 35)
    ·cases hg:(!q && !Tk.isB s[k+j])
     ·have HR2:=NX q (zju s q (k+j) hlt h10 h35 hg)
      clear NX
      cases q
      ·have hB:Tk.isB s[k+j]=true:=by simpa using hg
       clear hg
       go_wp2_with (first|(go_at_call 70;refine (zb9 _ _).mono ?_;rintro e w' ⟨rfl,hw⟩;subst hw))
       go_round
       case rel=>exact ⟨j+1,_,by omega,by go_num,rfl,HR2⟩
       case measure=>simp [intOf];omega
      ·clear hg
       go_wp2_with (first|(go_at_call 70;refine (zb9 _ _).mono ?_;rintro e w' ⟨rfl,hw⟩;subst hw))
       go_round
       case rel=>exact ⟨j+1,_,by omega,by go_num,rfl,HR2⟩
       case measure=>simp [intOf];omega
     ·have HE:Hid (Tk.skip false (s.data.toList.drop k)=j):=by
       have h1:=HR.out
       rw [zjv s q (k+j) hlt h10 h35 hg] at h1
       exact h1
      have hq:q=false:=by cases q<;> simp_all
      have hB:Tk.isB s[k+j]=false:=by simp at hg;exact hg.2
      subst hq
      clear hg NX
      go_wp2_with (first|(go_at_call 70;refine (zb9 _ _).mono ?_;rintro e w' ⟨rfl,hw⟩;subst hw))
      go_ret
      refine ⟨?_,rfl⟩
      rw [HE.out]
      show Ending.returned (Value.int .i64 _)=_
      congr 2
    ·have HR2:=NX true (zle s q (k+j) hlt h10 h35)
     clear NX
     go_wp2
     go_round
     case rel=>exact ⟨j+1,_,by omega,by go_num,rfl,HR2⟩
     case measure=>simp [intOf];omega
   ·have HR2:=NX false (zms s q (k+j) hlt h10)
    clear NX
    go_wp2
    go_round
    case rel=>exact ⟨j+1,_,by omega,by go_num,rfl,HR2⟩
    case measure=>simp [intOf];omega
  ·have e1:=zld s q (k+j) hlt
   have e2:=HR.out
   rw [e1] at e2
   have E2:=hide e2
   clear e1 e2
   have d1:decide ((j:Int)<(s.size:Int) - (k:Int))=false:=by simp;omega
   go_wp2
   go_ret
   refine ⟨?_,rfl⟩
   rw [E2.out]
   show Ending.returned (Value.int .i64 (s.size:Int))=_
   congr 2
   omega
end Go.Proofs.YtagblibbngmbdaaGreatDoor
namespace Go.Proofs.YtagblibbngmbdaaGreatDoor
open Go.RowKit
def bs (l:List UInt8):ByteArray:=⟨l.toArray⟩
def WTab (w:World):Prop:=0<w.heap.size∧ ∀ (i:Nat) b,Tk.words[i]? =some b→w.cell? ⟨0,i,none⟩=some (.string (bs b))
theorem WTab.below {w w':World} (h:WTab w) (hb:Below w.heap.size w w'):WTab w':=
 ⟨Nat.lt_of_lt_of_le h.1 hb.size,fun i b hi=>(hb.cell (p:=⟨0,i,none⟩) h.1).trans (h.2 i b hi)⟩
def zbx:List Value:=Tk.words.map fun b=>Value.string (bs b)
theorem zh0 {w:World} (h:WTab w):w.rangeAt 0 0 zbx:=by
 intro j v hv
 unfold zbx at hv
 rw [List.getElem?_map] at hv
 cases hj:Tk.words[j]? with
 |none=>rw [hj] at hv;cases hv
 |some b=>
  rw [hj] at hv
  cases hv
  rw [Nat.zero_add]
  exact h.2 j b hj
theorem zn8 (T:List Value) (j:Nat) (b:ByteArray) (w:World) (hj:j<19) (hb:T[j]? =some (.string b)):(Instr.index 172 (.agg T.toArray) (.int .i64 (j:Int))).run Tryz.prog w= .ok (.string b) w:=by
 have hn:0≤(j:Int)∧(j:Int)<((19:Nat):Int):=by omega
 have a9:=Tryz.isAgg9
 have z9:=Tryz.sizeOf9
 have hl:j<T.length:=(List.getElem?_eq_some_iff.1 hb).1
 have he:T[j]= .string b:=(List.getElem?_eq_some_iff.1 hb).2
 simp [Instr.index,run_underlying Tryz.underlying172,asIntOf,hn,part,go_sem,hl,he]
 intro h;omega
def hasTo (l:List UInt8) (j:Nat):Bool:=(Tk.words.take j).contains l
theorem zd0 (l:List UInt8) (j:Nat) (b:List UInt8) (hb:Tk.words[j]? =some b):hasTo l (j+1)=(hasTo l j || (l == b)):=by
 unfold hasTo
 rw [List.take_add_one,hb]
 simp [Bool.beq_eq_decide_eq]
theorem zhl (l:List UInt8) (j:Nat) (h:hasTo l j=true):Tk.isW l=true:=by
 unfold hasTo at h
 unfold Tk.isW
 rw [List.contains_iff_mem] at h ⊢
 exact List.mem_of_mem_take h
theorem zeh (s:ByteArray) (b:List UInt8):(s.toList == (bs b).toList)=(s.data.toList == b):=by
 rw [Lib.toList_data,Lib.toList_data]
 simp [bs]
theorem zhm (s:ByteArray) (w:World) (hw:WTab w):
  Calls Tryz.prog 101 #[.string s] w fun e w'=>e= .returned (.bool (Tk.isW s.data.toList))∧w'=w:=by
 have hr:=zh0 hw
 have hT: ∀ (j:Nat) b,Tk.words[j]? =some b→zbx[j]? =some (.string (bs b)):=fun j b hb=>by
  unfold zbx
  simp [hb]
 have hsz:zbx.length=19:=rfl
 generalize zbx=T at hr hT hsz
 have HT:=hide hT
 have HR:=hide hr
 clear hT hr
 have HW:=hide hw
 clear hw
 go_enter Tryz.func101,Tryz.ntmps101
 go_wp2_with (refine wpList_load_mid rfl 172 _ rfl 0 0 rfl T _ HR.out Tryz.underlying172 rfl (by rw [hsz];kernel_rfl) ?_)
 go_loop [6] (fun i=> ∃ j:Nat,j≤19∧i= .int .i64 j∧Hid (hasTo s.data.toList j=false)) (fun i=>19 - (intOf i).toNat)
 case atStart=>exact ⟨0,by omega,rfl,rfl⟩
 case round=>
  obtain ⟨j,hj,rfl,HN⟩:=hrel
  by_cases hlt:j<19
  ·have hb:Tk.words[j]? =some (Tk.words[j]?.getD []):=by
    rw [List.getElem?_eq_getElem (show j<Tk.words.length from hlt)];rfl
   have hTj:=HT.out j _ hb
   have HS:=hide (zd0 s.data.toList j _ hb)
   clear hb
   generalize Tk.words[j]?.getD []=b at *
   have hix:=zn8 T j _ w hlt hTj
   clear hTj
   cases hq:(s.data.toList == b)
   ·have HN2:Hid (hasTo s.data.toList (j+1)=false):=by
     have h1:=HS.out
     rw [HN.out,hq] at h1
     exact h1
    have heq:(s.toList == (bs b).toList)=false:=by rw [←hq];exact zeh s b
    go_wp2
    go_round
    case rel=>exact ⟨j+1,by omega,by go_num,HN2⟩
    case measure=>simp [intOf];omega
   ·have HN2:Hid (Tk.isW s.data.toList=true):=by
     have h1:=HS.out
     rw [HN.out,hq] at h1
     exact zhl _ _ h1
    have heq:(s.toList == (bs b).toList)=true:=by rw [←hq];exact zeh s b
    go_wp2
    go_ret
    rw [HN2.out]
    exact ⟨rfl,rfl⟩
  ·obtain rfl:j=19:=by omega
   have HN2:Hid (Tk.isW s.data.toList=false):=HN.out
   go_wp2
   go_ret
   rw [HN2.out]
   exact ⟨rfl,rfl⟩
theorem zhn (n:Int) (b:UInt8) (t:List UInt8) (j:Nat) (h0:0≤n) (h1:n+1≤(10:Int) ^ j) (hd:Tk.isD b=true):
  Tk.val n (b::t)=Tk.val (n * 10+((b.toNat:Int) - 48)) t∧0≤n * 10+((b.toNat:Int) - 48)∧n * 10+((b.toNat:Int) - 48)+1≤(10:Int) ^ (j+1):=by
 refine ⟨by simp only [Tk.val];rw [if_pos hd],?_,?_⟩
 ·simp only [Tk.isD,Bool.and_eq_true,decide_eq_true_eq] at hd
  omega
 ·simp only [Tk.isD,Bool.and_eq_true,decide_eq_true_eq] at hd
  rw [Int.pow_succ]
  generalize (10:Int) ^ j=p at *
  omega
theorem zfb (n:Int) (j:Nat) (hj:j≤17) (h1:n+1≤(10:Int) ^ j):n<100000000000000000:=by
 have h:=Nat.pow_le_pow_right (show 0<10 by decide) hj
 have h2:((10 ^ j:Nat):Int)≤((10 ^ 17:Nat):Int):=Int.ofNat_le.2 h
 rw [Int.natCast_pow,Int.natCast_pow] at h2
 have h3:(((10:Nat):Int)) ^ 17=100000000000000000:=by decide
 rw [h3] at h2
 have h4:(((10:Nat):Int)) ^ j=(10:Int) ^ j:=rfl
 rw [h4] at h2
 omega
theorem zgn (s:ByteArray) (w:World) (hs:s.size≤1099511627776) (h:18<s.size∨(1<s.size∧ ∃ h0:0<s.size,s[0]=48)):
  Calls Tryz.prog 100 #[.string s] w fun e w'=>e= .returned (.tuple #[.int .i64 0,.bool false])∧w'=w:=by
 by_cases h18:18<s.size
 ·have d1:decide ((18:Int)<(s.size:Int))=true:=by simp;omega
  go_enter Tryz.func100,Tryz.ntmps100
  go_wp2
  all_goals
   go_ret2
   exact ⟨rfl,rfl⟩
 ·have hb:1<s.size∧ ∃ h0:0<s.size,s[0]=48:=by
   rcases h with h|h
   ·omega
   ·exact h
  obtain ⟨h1,h0,he⟩:=hb
  have d1:decide ((18:Int)<(s.size:Int))=false:=by simp;omega
  have d2:decide ((1:Int)<(s.size:Int))=true:=by simp;omega
  have d3:((s[0].toNat:Int) == 48)=true:=by rw [he];rfl
  clear h
  go_enter Tryz.func100,Tryz.ntmps100
  go_wp2
  all_goals
   go_ret2
   exact ⟨rfl,rfl⟩
theorem zgo (s:ByteArray) (w:World) (hs:s.size≤18) (h: ∀ h0:0<s.size,1<s.size→((s[0].toNat:Int) == 48)=false):
  Calls Tryz.prog 100 #[.string s] w fun e w'=>e= .returned (.tuple #[.int .i64 ((Tk.val 0 s.data.toList).getD 0),.bool (Tk.val 0 s.data.toList).isSome])∧w'=w:=by
 have d1:decide ((18:Int)<(s.size:Int))=false:=by simp;omega
 by_cases h1:1<s.size
 ·have d2:decide ((1:Int)<(s.size:Int))=true:=by simp;omega
  have d3:=h (by omega) h1
  clear h
  go_enter Tryz.func100,Tryz.ntmps100
  go_wp2
  go_loop [2,20] (fun n i=> ∃ (j:Nat) (m:Int),j≤s.size∧i= .int .i64 j∧n= .int .i64 m∧0≤m∧Hid (m+1≤(10:Int) ^ j)∧Hid (Tk.val 0 s.data.toList=Tk.val m (s.data.toList.drop j))) (fun _ i=>s.size - (intOf i).toNat)
  case atStart=>exact ⟨0,0,by omega,rfl,rfl,by omega,(by show (0:Int)+1≤10 ^ 0;decide),(by show Tk.val _ _=_;rw [List.drop_zero])⟩
  case round=>
   obtain ⟨j,m,hj,rfl,rfl,h0,HP,HV⟩:=hrel
   by_cases hlt:j<s.size
   ·have hsm:=zfb m j (by omega) HP.out
    cases hD:Tk.isD s[j]
    ·have HE:Hid (Tk.val 0 s.data.toList=none):=by
      have h2:=HV.out
      rw [za0 s j hlt] at h2
      show _=_
      rw [h2]
      simp only [Tk.val]
      rw [if_neg (by simp [hD])]
     go_wp2_with (first|(go_at_call 73;refine (zaz _ _).mono ?_;rintro e w' ⟨rfl,hw⟩;subst hw))
     go_ret2
     rw [HE.out]
     exact ⟨rfl,rfl⟩
    ·obtain ⟨e1,e2,e3⟩:=zhn m s[j] (s.data.toList.drop (j+1)) j h0 HP.out hD
     have HV2:Hid (Tk.val 0 s.data.toList=Tk.val (m * 10+((s[j].toNat:Int) - 48)) (s.data.toList.drop (j+1))):=by
      have h2:=HV.out
      rw [za0 s j hlt,e1] at h2
      exact h2
     have HP2:=hide e3
     have hd:48≤s[j].toNat∧s[j].toNat≤57:=by simpa [Tk.isD] using hD
     obtain ⟨hd1,hd2⟩:=hd
     clear e1 e3
     go_wp2_with (first|(go_at_call 73;refine (zaz _ _).mono ?_;rintro e w' ⟨rfl,hw⟩;subst hw))
     go_round
     case rel=>exact ⟨j+1,_,by omega,by go_num,by first|rfl|go_num,e2,HP2,HV2⟩
     case measure=>simp [intOf];omega
   ·obtain rfl:j=s.size:=by omega
    have HE:Hid (Tk.val 0 s.data.toList=some m):=by
     have h2:=HV.out
     rw [List.drop_of_length_le (by rw [←Lib.size_eq];omega)] at h2
     exact h2
    go_wp2
    go_ret2
    rw [HE.out]
    exact ⟨rfl,rfl⟩
 ·have d2:decide ((1:Int)<(s.size:Int))=false:=by simp;omega
  clear h
  go_enter Tryz.func100,Tryz.ntmps100
  go_wp2
  go_loop [2,20] (fun n i=> ∃ (j:Nat) (m:Int),j≤s.size∧i= .int .i64 j∧n= .int .i64 m∧0≤m∧Hid (m+1≤(10:Int) ^ j)∧Hid (Tk.val 0 s.data.toList=Tk.val m (s.data.toList.drop j))) (fun _ i=>s.size - (intOf i).toNat)
  case atStart=>exact ⟨0,0,by omega,rfl,rfl,by omega,(by show (0:Int)+1≤10 ^ 0;decide),(by show Tk.val _ _=_;rw [List.drop_zero])⟩
  case round=>
   obtain ⟨j,m,hj,rfl,rfl,h0,HP,HV⟩:=hrel
   by_cases hlt:j<s.size
   ·have hsm:=zfb m j (by omega) HP.out
    cases hD:Tk.isD s[j]
    ·have HE:Hid (Tk.val 0 s.data.toList=none):=by
      have h2:=HV.out
      rw [za0 s j hlt] at h2
      show _=_
      rw [h2]
      simp only [Tk.val]
      rw [if_neg (by simp [hD])]
     go_wp2_with (first|(go_at_call 73;refine (zaz _ _).mono ?_;rintro e w' ⟨rfl,hw⟩;subst hw))
     go_ret2
     rw [HE.out]
     exact ⟨rfl,rfl⟩
    ·obtain ⟨e1,e2,e3⟩:=zhn m s[j] (s.data.toList.drop (j+1)) j h0 HP.out hD
     have HV2:Hid (Tk.val 0 s.data.toList=Tk.val (m * 10+((s[j].toNat:Int) - 48)) (s.data.toList.drop (j+1))):=by
      have h2:=HV.out
      rw [za0 s j hlt,e1] at h2
      exact h2
     have HP2:=hide e3
     have hd:48≤s[j].toNat∧s[j].toNat≤57:=by simpa [Tk.isD] using hD
     obtain ⟨hd1,hd2⟩:=hd
     clear e1 e3
     go_wp2_with (first|(go_at_call 73;refine (zaz _ _).mono ?_;rintro e w' ⟨rfl,hw⟩;subst hw))
     go_round
     case rel=>exact ⟨j+1,_,by omega,by go_num,by first|rfl|go_num,e2,HP2,HV2⟩
     case measure=>simp [intOf];omega
   ·obtain rfl:j=s.size:=by omega
    have HE:Hid (Tk.val 0 s.data.toList=some m):=by
     have h2:=HV.out
     rw [List.drop_of_length_le (by rw [←Lib.size_eq];omega)] at h2
     exact h2
    go_wp2
    go_ret2
    rw [HE.out]
    exact ⟨rfl,rfl⟩
theorem zmt (s:ByteArray):s.data.toList.head? =some 48 ↔ ∃ h0:0<s.size,s[0]=48:=by
 constructor
 ·intro h
  have h0:0<s.size:=by
   rw [Lib.size_eq]
   cases hc:s.data.toList with
   |nil=>rw [hc] at h;cases h
   |cons=>simp
  have hd:=za0 s 0 h0
  rw [List.drop_zero] at hd
  rw [hd] at h
  exact ⟨h0,by simpa using h⟩
 ·rintro ⟨h0,he⟩
  have hd:=za0 s 0 h0
  rw [List.drop_zero] at hd
  rw [hd,he]
  rfl
theorem zfc (s:ByteArray) (w:World) (hs:s.size≤1099511627776):
  Calls Tryz.prog 100 #[.string s] w fun e w'=>e= .returned (.tuple #[.int .i64 ((Tk.numOf s.data.toList).getD 0),.bool (Tk.numOf s.data.toList).isSome])∧w'=w:=by
 have hh:=zmt s
 have hsz:=Lib.size_eq s
 by_cases h:18<s.size∨(1<s.size∧ ∃ h0:0<s.size,s[0]=48)
 ·have e:Tk.numOf s.data.toList=none:=by
   unfold Tk.numOf
   rw [if_pos (by rw [←hsz,hh];exact h)]
  rw [e]
  exact zgn s w hs h
 ·have e:Tk.numOf s.data.toList=Tk.val 0 s.data.toList:=by
   unfold Tk.numOf
   rw [if_neg (by rw [←hsz,hh];exact h)]
  rw [e]
  refine zgo s w (by omega) (fun h0 h1=> ?_)
  cases hc:((s[0].toNat:Int) == 48) with
  |false=>rfl
  |true=>
   exfalso
   apply h
   refine .inr ⟨h1,h0,?_⟩
   have h2:s[0].toNat=48:=by simp at hc;omega
   exact UInt8.toNat_inj.1 h2
end Go.Proofs.YtagblibbngmbdaaGreatDoor
