import Derived.Lib.Strings
import GoSem.ClaimWide
import Derived.Test.YtcdcoiobpbdmpaaGreatDoorProg
import Derived.WalkKit
import Derived.WalkSpells
import Derived.WalkLawsBesides
import Derived.Lib.Bytealg
import Derived.Laws.Strings3
import Derived.Lib.Walk
import Derived.Lib.Slices
import Derived.Shelf.Strconv.Clone
import Derived.Deep.MidRow
namespace Go.Proofs.YtcdcoiobpbdmpaaGreatDoor.Tk
def isL (b:UInt8):Bool:=decide (97≤b.toNat) && decide (b.toNat≤122)
def isD (b:UInt8):Bool:=decide (48≤b.toNat) && decide (b.toNat≤57)
def isB (b:UInt8):Bool:=b.toNat == 32 || b.toNat == 9 || b.toNat == 10 || b.toNat == 13
def run:List UInt8→Nat
 |[]=>0
 |b::t=>if isL b || isD b then run t+1 else 0
def skip:Bool→List UInt8→Nat
 |_,[]=>0
 |r,b::t=>if b.toNat=10 then skip false t+1 else if b.toNat=35 then skip true t+1 else if !r && !isB b then 0 else skip r t+1
theorem run_le (l:List UInt8):run l≤l.length:=by
 induction l with
 |nil=>simp [run]
 |cons b t ih=>simp only [run];split<;> simp<;> omega
theorem skip_le (l:List UInt8) (r:Bool):skip r l≤l.length:=by
 induction l generalizing r with
 |nil=>simp [skip]
 |cons b t ih=>
  simp only [skip]
  have h1:=ih false
  have h2:=ih true
  have h3:=ih r
  repeat' split
  all_goals simp<;> omega
def val:Int→List UInt8→Option Int
 |n,[]=>some n
 |n,b::t=>if isD b then val (n * 10+((b.toNat:Int) - 48)) t else none
def numOf (l:List UInt8):Option Int:=
 if 18<l.length∨(1<l.length∧l.head? =some 48) then none else val 0 l
def words:List (List UInt8):=[[97,98,97,110,100,111,110],[99,104,97,110],[99,108,111,110,101],[99,108,111,115,101],[100,114,97,105,110],[101,108,115,101],[101,109,105,116],[102,111,114],[102,114,111,109],[105,102],[105,110,116],[108,101,116],[114,101,99,118],[114,101,112,101,97,116],[115,101,110,100],[115,101,116],[115,112,97,119,110],[115,116,97,103,101],[116,97,107,101]]
def isW (l:List UInt8):Bool:=words.contains l
def signs:List UInt8:=[40,41,123,125,44,59,43,45,42,60,61]
structure Tok where
 kind:Int
 at':Nat
 text:List UInt8
 n:Int
structure Ans where
 code:Int
 kind:Int
 len:Nat
 n:Int
def numAns (l:List UInt8):Ans:=match numOf l with
 |none=>⟨3,0,0,0⟩
 |some n=>⟨0,3,l.length,n⟩
def nameAns (l:List UInt8):Ans:=if isW l then ⟨0,1,l.length,0⟩ else if 12<l.length then ⟨4,0,0,0⟩ else ⟨0,2,l.length,0⟩
def signAns:List UInt8→Ans
 |[]=>⟨2,0,0,0⟩
 |61::61::_=>⟨0,4,2,0⟩
 |b::_=>if signs.contains b then ⟨0,4,1,0⟩ else ⟨2,0,0,0⟩
def tok (l:List UInt8):Ans:=
 if 0<run l then (if isD (l.headD 0) then numAns (l.take (run l)) else nameAns (l.take (run l))) else signAns l
def tl:Nat→Nat→List UInt8→List Tok × Int × Int
 |0,_,_=>([],0,0)
 |_+1,_,[]=>([],0,0)
 |f+1,p,b::t=>
  let a:=tok (b::t)
  if a.code ≠ 0 then ([],a.code,(p:Int)) else
   let j:=a.len+skip false ((b::t).drop a.len)
   let r:=tl f (p+j) ((b::t).drop j)
   if r.2.1 ≠ 0 then ([],r.2) else (⟨a.kind,p,(b::t).take a.len,a.n⟩::r.1,r.2)
def scan (l:List UInt8):List Tok × Int × Int:=
 if 12000<l.length then ([],1,12000) else tl (l.length+1) (skip false l) (l.drop (skip false l))
theorem numAns_len (l:List UInt8):(numAns l).code=0→(numAns l).len=l.length:=by
 unfold numAns
 split<;> simp
theorem nameAns_len (l:List UInt8):(nameAns l).code=0→(nameAns l).len=l.length:=by
 unfold nameAns
 repeat' split
 all_goals simp
theorem signAns_len (l:List UInt8):(signAns l).code=0→0<(signAns l).len∧(signAns l).len≤l.length:=by
 unfold signAns
 split
 ·simp
 ·simp
 ·split<;> simp
theorem tok_len (l:List UInt8) (h:(tok l).code=0):0<(tok l).len∧(tok l).len≤l.length:=by
 have h1:=run_le l
 unfold tok at h ⊢
 split at h
 ·rename_i hr
  rw [if_pos hr]
  split at h
  ·rename_i hd
   rw [if_pos hd,numAns_len _ h]
   simp;omega
  ·rename_i hd
   rw [if_neg hd,nameAns_len _ h]
   simp;omega
 ·rename_i hr
  rw [if_neg hr]
  exact signAns_len l h
theorem tok_at (l:List UInt8) (p:Nat) (f:Nat) (hl:l ≠ []) (hc:(tok l).code=0):tl (f+1) p l=(let j:=(tok l).len+skip false (l.drop (tok l).len)
   let r:=tl f (p+j) (l.drop j)
   if r.2.1 ≠ 0 then ([],r.2) else (⟨(tok l).kind,p,l.take (tok l).len,(tok l).n⟩::r.1,r.2)):=by
 cases l with
 |nil=>exact absurd rfl hl
 |cons b t=>simp only [tl];rw [if_neg (by simpa using hc)]
theorem tok_bad (l:List UInt8) (p:Nat) (f:Nat) (hl:l ≠ []) (hc:(tok l).code ≠ 0):tl (f+1) p l=([],(tok l).code,(p:Int)):=by
 cases l with
 |nil=>exact absurd rfl hl
 |cons b t=>simp only [tl];rw [if_pos hc]
theorem tl_nil (f p:Nat):tl f p []=([],0,0):=by cases f<;> rfl
def comb (a:List Tok) (r:List Tok × Int × Int):List Tok × Int × Int:=if r.2.1 ≠ 0 then ([],r.2) else (a++r.1,r.2)
theorem tl_nofault (f p:Nat) (l:List UInt8):(tl f p l).2.1 ≠ 0→(tl f p l).1=[]:=by
 induction f generalizing p l with
 |zero=>simp [tl]
 |succ f ih=>
  cases l with
  |nil=>simp [tl]
  |cons b t=>
   simp only [tl]
   split
   ·simp
   ·split
    ·simp
    ·rename_i h;intro h2;exact absurd h2 h
theorem comb_nil (r:List Tok × Int × Int) (h:r.2.1 ≠ 0→r.1=[]):comb [] r=r:=by
 unfold comb
 split
 ·rename_i h1;rw [←h h1]
 ·simp
theorem comb_step (acc:List Tok) (l:List UInt8) (p f:Nat) (hl:l ≠ []) (hc:(tok l).code=0):
  comb acc (tl (f+1) p l)=comb (acc++[⟨(tok l).kind,p,l.take (tok l).len,(tok l).n⟩]) (tl f (p+((tok l).len+skip false (l.drop (tok l).len))) (l.drop ((tok l).len+skip false (l.drop (tok l).len)))):=by
 rw [tok_at l p f hl hc]
 dsimp only
 generalize tl f (p+((tok l).len+skip false (l.drop (tok l).len))) (l.drop ((tok l).len+skip false (l.drop (tok l).len)))=r
 by_cases h:r.2.1=0
 ·simp [comb,h]
 ·simp [comb,h]
end Go.Proofs.YtcdcoiobpbdmpaaGreatDoor.Tk
namespace Go.Proofs.YtcdcoiobpbdmpaaGreatDoor.Tk
end Go.Proofs.YtcdcoiobpbdmpaaGreatDoor.Tk
namespace Go.Proofs.YtcdcoiobpbdmpaaGreatDoor.Tk
end Go.Proofs.YtcdcoiobpbdmpaaGreatDoor.Tk
namespace Go.Proofs.YtcdcoiobpbdmpaaGreatDoor.Sx
open Go.Proofs.YtcdcoiobpbdmpaaGreatDoor.Tk
abbrev Tr:=DataW Unit
def tE (op:Int) (nm:List UInt8) (n:Int) (L:List Tr):Tr:= .agg [.lit (.int .i64 op),.lit (.string nm),.lit (.int .i64 n),.agg L]
def tS (d at':Int) (A B T:List UInt8) (n:Int) (E body els:List Tr):Tr:=
 .agg [.lit (.int .i64 d),.lit (.int .i64 at'),.lit (.string A),.lit (.string B),.lit (.string T),.lit (.int .i64 n),.agg E,.agg body,.agg els]
def tP (nm T:List UInt8):Tr:= .agg [.lit (.string nm),.lit (.string T)]
def tG (nm:List UInt8) (at':Int) (ps body:List Tr):Tr:= .agg [.lit (.string nm),.lit (.int .i64 at'),.agg ps,.agg body]
def d0:Tr:= .nil
structure St where
 stmts:Nat
 dep:Nat
 opn:Nat
 parts:Nat
def place (e:Nat):List Tok→Int
 |[]=>e
 |t::_=>t.at'
def txt:List Tok→List UInt8
 |[]=>[]
 |t::_=>t.text
def hasKind (k:Int):List Tok→Bool
 |[]=>false
 |t::_=>t.kind == k
def St.part (s:St):St:={ s with parts:=s.parts+1 }
def wSend:List UInt8:=[115,101,110,100]
def wRecv:List UInt8:=[114,101,99,118]
def wInt:List UInt8:=[105,110,116]
def wStage:List UInt8:=[115,116,97,103,101]
def wFrom:List UInt8:=[102,114,111,109]
def wElse:List UInt8:=[101,108,115,101]
def dos:List (List UInt8):=[[108,101,116],[115,101,116],[101,109,105,116],[99,104,97,110],[99,108,111,110,101],[115,101,110,100],[99,108,111,115,101],[97,98,97,110,100,111,110],[100,114,97,105,110],[115,112,97,119,110],[116,97,107,101],[102,111,114],[114,101,112,101,97,116],[105,102]]
def doOf (x:List UInt8):Nat:=if dos.idxOf x<14 then dos.idxOf x+1 else 0
def St.up (s:St):St:={ s with dep:=s.dep+1 }
def St.down (s:St):St:={ s with dep:=s.dep - 1 }
def St.stmt (s:St):St:={ s with stmts:=s.stmts+1 }
def s0:St:=⟨0,0,0,0⟩
end Go.Proofs.YtcdcoiobpbdmpaaGreatDoor.Sx
namespace Go.Proofs.YtcdcoiobpbdmpaaGreatDoor.Sx
open Go.Proofs.YtcdcoiobpbdmpaaGreatDoor.Tk
end Go.Proofs.YtcdcoiobpbdmpaaGreatDoor.Sx
namespace Go.Proofs.YtcdcoiobpbdmpaaGreatDoor.Sx
open Go.Proofs.YtcdcoiobpbdmpaaGreatDoor.Tk
end Go.Proofs.YtcdcoiobpbdmpaaGreatDoor.Sx
namespace Go.Proofs.YtcdcoiobpbdmpaaGreatDoor
open Go.RowKit
theorem hide {p:Prop} (h:p):Hid p:=h
theorem Tk.isL_int (b:UInt8):Tk.isL b=(decide ((97:Int)≤(b.toNat:Int)) && decide ((b.toNat:Int)≤122)):=by
 unfold Tk.isL
 congr 1<;> simp only [decide_eq_decide]<;> omega
theorem Tk.isD_int (b:UInt8):Tk.isD b=(decide ((48:Int)≤(b.toNat:Int)) && decide ((b.toNat:Int)≤57)):=by
 unfold Tk.isD
 congr 1<;> simp only [decide_eq_decide]<;> omega
theorem Tk.isB_int (b:UInt8):Tk.isB b=((b.toNat:Int) == 32 || (b.toNat:Int) == 9 || (b.toNat:Int) == 10 || (b.toNat:Int) == 13):=by
 unfold Tk.isB
 rw [Bool.eq_iff_iff]
 simp only [Bool.or_eq_true,beq_iff_eq]
 omega
set_option maxHeartbeats 400000 in
theorem isLetter_any (b:UInt8) (w:World):Calls Tryz.prog 86 #[.int .u8 (b.toNat:Int)] w fun e w'=>e= .returned (.bool (Tk.isL b))∧w'=w:=by
 rw [Tk.isL_int]
 go_enter Tryz.func86,Tryz.ntmps86
 go_wp2
 all_goals
  go_ret
  first
  |(simp [*];done)
  |(simp [*];omega)
set_option maxHeartbeats 400000 in
theorem isDigit_any (b:UInt8) (w:World):Calls Tryz.prog 59 #[.int .u8 (b.toNat:Int)] w fun e w'=>e= .returned (.bool (Tk.isD b))∧w'=w:=by
 rw [Tk.isD_int]
 go_enter Tryz.func59,Tryz.ntmps59
 go_wp2
 all_goals
  go_ret
  first
  |(simp [*];done)
  |(simp [*];omega)
set_option maxHeartbeats 400000 in
theorem isBlank_any (b:UInt8) (w:World):Calls Tryz.prog 57 #[.int .u8 (b.toNat:Int)] w fun e w'=>e= .returned (.bool (Tk.isB b))∧w'=w:=by
 rw [Tk.isB_int]
 go_enter Tryz.func57,Tryz.ntmps57
 go_wp2
 all_goals
  go_ret
  first
  |(simp [*];done)
  |(simp [*];omega)
set_option maxHeartbeats 1000000 in
theorem hasPrefixIn_any (s p:ByteArray) (w:World):
  Calls Tryz.prog 123 #[.string s,.string p] w fun e w'=>e= .returned (.bool (Lib.hasPrefix s.data.toList p.data.toList))∧w'=w:=by
 have hE:=Lib.hasPrefix_raw s p
 by_cases hle:p.size≤s.size
 ·rw [show decide (p.size≤s.size)=true from by simpa using hle] at hE
  have HE:=hide hE
  clear hE
  go_enter Tryz.func123,Tryz.ntmps123
  go_wp2
  go_ret
  rw [←HE.out]
  exact ⟨rfl,rfl⟩
 ·rw [show decide (p.size≤s.size)=false from by simpa using hle] at hE
  have HE:=hide hE
  clear hE
  go_enter Tryz.func123,Tryz.ntmps123
  go_wp2
  go_ret
  rw [←HE.out]
  exact ⟨rfl,rfl⟩
set_option maxHeartbeats 1000000 in
theorem hasPrefix_any (s p:ByteArray) (w:World):
  Calls Tryz.prog 84 #[.string s,.string p] w fun e w'=>e= .returned (.bool (Lib.hasPrefix s.data.toList p.data.toList))∧w'=w:=by
 go_enter Tryz.func84,Tryz.ntmps84
 go_wp2_with (go_at_call 123;refine (hasPrefixIn_any _ _ _).mono ?_;rintro e w' ⟨rfl,hw⟩;rw [hw])
 go_ret
 exact ⟨rfl,rfl⟩
set_option maxRecDepth 100000 in
set_option maxHeartbeats 1000000 in
theorem indexByteIn_any (s:ByteArray) (c:Int) (w:World):
  Calls Tryz.prog 124 #[.string s,.int .u8 c] w fun e w'=>e= .returned (.int .i64 (Lib.indexByte s.data.toList c.toNat.toUInt8))∧w'=w:=by
 go_enter Tryz.func124,Tryz.ntmps124
 go_wp2
 rw [run_callFunc_extern Tryz.func143 (by kernel_rfl) (by kernel_rfl) (by kernel_rfl) (e:=Extern.BytealgIndexByte.indexByte) (by kernel_rfl),Lib.run_indexByteString]
 simp only [Result.andThen]
 rw [Oper.upon_value]
 go_wp2
 go_ret
 exact ⟨rfl,rfl⟩
set_option maxHeartbeats 1000000 in
theorem indexByte_any (s:ByteArray) (c:Int) (w:World):
  Calls Tryz.prog 89 #[.string s,.int .u8 c] w fun e w'=>e= .returned (.int .i64 (Lib.indexByte s.data.toList c.toNat.toUInt8))∧w'=w:=by
 go_enter Tryz.func89,Tryz.ntmps89
 go_wp2_with (go_at_call 124;refine (indexByteIn_any _ _ _).mono ?_;rintro e w' ⟨rfl,hw⟩;rw [hw])
 go_ret
 exact ⟨rfl,rfl⟩
end Go.Proofs.YtcdcoiobpbdmpaaGreatDoor
namespace Go.Proofs.YtcdcoiobpbdmpaaGreatDoor
open Go.Shelf Go.RowKit
def cloneRen:Go.Shelf.Ren:=⟨fun|316=>44|n=>n,fun|37=>138|127=>150|n=>n,fun|n=>n⟩
theorem cloneLays:Go.Proofs.LaysM.n316 Tryz.prog cloneRen:={
 mixed:=by kernel_rfl
 f316:=Tryz.func44.trans (congrArg some (by kernel_rfl))
 t0:=Tryz.underlying0
 a0:=Tryz.isAgg0
 z0:=Tryz.sizeOf0
 v0:=Tryz.zeroValue0
 t3:=Tryz.underlying3
 a3:=Tryz.isAgg3
 z3:=Tryz.sizeOf3
 v3:=Tryz.zeroValue3
 t4:=Tryz.underlying4
 a4:=Tryz.isAgg4
 z4:=Tryz.sizeOf4
 v4:=Tryz.zeroValue4
 t9:=Tryz.underlying9
 a9:=Tryz.isAgg9
 z9:=Tryz.sizeOf9
 v9:=Tryz.zeroValue9
 t37:=Tryz.underlying138
 a37:=Tryz.isAgg138
 z37:=Tryz.sizeOf138
 v37:=Tryz.zeroValue138
 t127:=Tryz.underlying150
 a127:=Tryz.isAgg150
 z127:=Tryz.sizeOf150
 v127:=Tryz.zeroValue150
 t5:=Tryz.underlying5
 a5:=Tryz.isAgg5
 z5:=Tryz.sizeOf5
 v5:=Tryz.zeroValue5
 i0:=by kernel_rfl
 i3:=by kernel_rfl
 i4:=by kernel_rfl
 i5:=by kernel_rfl
 i9:=by kernel_rfl
 i37:=by kernel_rfl
 i127:=by kernel_rfl }
theorem cloneIn_any (s:ByteArray) (w:World) (hlim:s.size≤281474976710656):
  Calls Tryz.prog 44 #[.string s] w fun e w'=>e= .returned (.string s)∧Below w.heap.size w w':=Any.stringslite_Clone cloneLays s w hlim
end Go.Proofs.YtcdcoiobpbdmpaaGreatDoor
namespace Go.Proofs.YtcdcoiobpbdmpaaGreatDoor
open Go.RowKit
set_option maxHeartbeats 400000 in
theorem clone_any (s:ByteArray) (w:World) (hlim:s.size≤281474976710656):
  Calls Tryz.prog 26 #[.string s] w fun e w'=>e= .returned (.string s)∧Below w.heap.size w w':=by
 go_enter Tryz.func26,Tryz.ntmps26
 go_wp2_with fail
 refine (cloneIn_any s _ hlim).mono ?_
 rintro e w1 ⟨rfl,hb⟩
 go_wp2
 go_ret
 exact ⟨rfl,hb⟩
theorem drop_at (s:ByteArray) (j:Nat) (h:j<s.size):s.data.toList.drop j=s[j]::s.data.toList.drop (j+1):=by
 rw [List.drop_eq_getElem_cons (by rw [←Lib.size_eq];exact h)]
 rfl
theorem run_step (s:ByteArray) (j:Nat) (h:j<s.size) (hy:(Tk.isL s[j] || Tk.isD s[j])=true):Tk.run (s.data.toList.drop j)=Tk.run (s.data.toList.drop (j+1))+1:=by
 rw [drop_at s j h]
 simp only [Tk.run]
 rw [if_pos hy]
theorem run_stop (s:ByteArray) (j:Nat) (h:j<s.size) (hy:(Tk.isL s[j] || Tk.isD s[j])=false):Tk.run (s.data.toList.drop j)=0:=by
 rw [drop_at s j h]
 simp only [Tk.run]
 rw [if_neg (by simp [hy])]
theorem run_end (s:ByteArray) (j:Nat) (h: ¬ j<s.size):Tk.run (s.data.toList.drop j)=0:=by
 rw [List.drop_of_length_le (by rw [←Lib.size_eq];omega)];rfl
theorem skip_end (s:ByteArray) (r:Bool) (j:Nat) (h: ¬ j<s.size):Tk.skip r (s.data.toList.drop j)=0:=by
 rw [List.drop_of_length_le (by rw [←Lib.size_eq];omega)];rfl
theorem skip_nl (s:ByteArray) (r:Bool) (j:Nat) (h:j<s.size) (e:((s[j].toNat:Int) == 10)=true):Tk.skip r (s.data.toList.drop j)=Tk.skip false (s.data.toList.drop (j+1))+1:=by
 have e':s[j].toNat=10:=by simp at e;omega
 rw [drop_at s j h]
 simp only [Tk.skip]
 rw [if_pos e']
theorem skip_rem (s:ByteArray) (r:Bool) (j:Nat) (h:j<s.size) (e0:((s[j].toNat:Int) == 10)=false) (e:((s[j].toNat:Int) == 35)=true):Tk.skip r (s.data.toList.drop j)=Tk.skip true (s.data.toList.drop (j+1))+1:=by
 have e1: ¬ s[j].toNat=10:=by simp at e0;omega
 have e':s[j].toNat=35:=by simp at e;omega
 rw [drop_at s j h]
 simp only [Tk.skip]
 rw [if_neg e1,if_pos e']
theorem skip_else (s:ByteArray) (r:Bool) (j:Nat) (h:j<s.size) (e0:((s[j].toNat:Int) == 10)=false) (e:((s[j].toNat:Int) == 35)=false) (hg:(!r && !Tk.isB s[j])=false):Tk.skip r (s.data.toList.drop j)=Tk.skip r (s.data.toList.drop (j+1))+1:=by
 have e1: ¬ s[j].toNat=10:=by simp at e0;omega
 have e': ¬ s[j].toNat=35:=by simp at e;omega
 rw [drop_at s j h]
 simp only [Tk.skip]
 rw [if_neg e1,if_neg e',if_neg (by rw [hg];simp)]
theorem skip_stop (s:ByteArray) (r:Bool) (j:Nat) (h:j<s.size) (e0:((s[j].toNat:Int) == 10)=false) (e:((s[j].toNat:Int) == 35)=false) (hg:(!r && !Tk.isB s[j])=true):Tk.skip r (s.data.toList.drop j)=0:=by
 have e1: ¬ s[j].toNat=10:=by simp at e0;omega
 have e': ¬ s[j].toNat=35:=by simp at e;omega
 rw [drop_at s j h]
 simp only [Tk.skip]
 rw [if_neg e1,if_neg e',if_pos hg]
set_option maxHeartbeats 400000 in
theorem runEnd_any (s:ByteArray) (k:Nat) (w:World) (hs:s.size≤1099511627776) (hk:k≤s.size):
  Calls Tryz.prog 58 #[.string s,.int .i64 k] w fun e w'=>e= .returned (.int .i64 ((k+Tk.run (s.data.toList.drop k):Nat):Int))∧w'=w:=by
 go_enter Tryz.func58,Tryz.ntmps58
 go_wp2
 go_loop [11] (fun i=> ∃ j:Nat,k+j≤s.size∧i= .int .i64 j∧Hid (Tk.run (s.data.toList.drop k)=j+Tk.run (s.data.toList.drop (k+j)))) (fun i=>s.size - k - (intOf i).toNat)
 case atStart=>exact ⟨0,hk,rfl,(by show Tk.run _=0+_;simp)⟩
 case round=>
  obtain ⟨j,hj,rfl,HR⟩:=hrel
  by_cases hlt:k+j<s.size
  ·have d1:decide ((j:Int)<(s.size:Int) - (k:Int))=true:=by simp;omega
   by_cases hor:(Tk.isL s[k+j] || Tk.isD s[k+j])=true
   ·have HR2:Hid (Tk.run (s.data.toList.drop k)=(j+1)+Tk.run (s.data.toList.drop (k+(j+1)))):=by
     have h1:=HR.out
     rw [run_step s (k+j) hlt hor] at h1
     show _=_
     rw [h1,show k+(j+1)=k+j+1 from by omega]
     omega
    cases hL:Tk.isL s[k+j]
    ·have hD:Tk.isD s[k+j]=true:=by simpa [hL] using hor
     clear hor
     go_wp2_with (first|(go_at_call 86;refine (isLetter_any _ _).mono ?_;rintro e w' ⟨rfl,hw⟩;subst hw)|(go_at_call 59;refine (isDigit_any _ _).mono ?_;rintro e w' ⟨rfl,hw⟩;subst hw))
     go_round
     case rel=>exact ⟨j+1,by omega,by go_num,HR2⟩
     case measure=>simp [intOf];omega
    ·clear hor
     go_wp2_with (first|(go_at_call 86;refine (isLetter_any _ _).mono ?_;rintro e w' ⟨rfl,hw⟩;subst hw)|(go_at_call 59;refine (isDigit_any _ _).mono ?_;rintro e w' ⟨rfl,hw⟩;subst hw))
     go_round
     case rel=>exact ⟨j+1,by omega,by go_num,HR2⟩
     case measure=>simp [intOf];omega
   ·have hor':(Tk.isL s[k+j] || Tk.isD s[k+j])=false:=by simpa using hor
    have HE:Hid (Tk.run (s.data.toList.drop k)=j):=by
     have h1:=HR.out
     rw [run_stop s (k+j) hlt hor'] at h1
     exact h1
    have hL:Tk.isL s[k+j]=false:=by simp at hor';exact hor'.1
    have hD:Tk.isD s[k+j]=false:=by simp at hor';exact hor'.2
    clear hor hor'
    go_wp2_with (first|(go_at_call 86;refine (isLetter_any _ _).mono ?_;rintro e w' ⟨rfl,hw⟩;subst hw)|(go_at_call 59;refine (isDigit_any _ _).mono ?_;rintro e w' ⟨rfl,hw⟩;subst hw))
    go_ret
    refine ⟨?_,rfl⟩
    rw [HE.out]
    show Ending.returned (Value.int .i64 _)=_
    congr 2
  ·have e1:=run_end s (k+j) hlt
   have e2:=HR.out
   rw [e1] at e2
   have E2:=hide e2
   clear e1 e2
   have d1:decide ((j:Int)<(s.size:Int) - (k:Int))=false:=by simp;omega
   go_wp2
   go_ret
   refine ⟨?_,rfl⟩
   rw [E2.out]
   show Ending.returned (Value.int .i64 (s.size:Int))=_
   congr 2
   omega
set_option maxHeartbeats 400000 in
theorem blanksEnd_any (s:ByteArray) (k:Nat) (w:World) (hs:s.size≤1099511627776) (hk:k≤s.size):
  Calls Tryz.prog 34 #[.string s,.int .i64 k] w fun e w'=>e= .returned (.int .i64 ((k+Tk.skip false (s.data.toList.drop k):Nat):Int))∧w'=w:=by
 go_enter Tryz.func34,Tryz.ntmps34
 go_wp2
 go_loop [5,12] (fun r i=> ∃ (j:Nat) (q:Bool),k+j≤s.size∧i= .int .i64 j∧r= .bool q∧Hid (Tk.skip false (s.data.toList.drop k)=j+Tk.skip q (s.data.toList.drop (k+j)))) (fun _ i=>s.size - k - (intOf i).toNat)
 case atStart=>exact ⟨0,false,hk,rfl,rfl,(by show Tk.skip _ _=0+_;simp)⟩
 case round=>
  obtain ⟨j,q,hj,rfl,rfl,HR⟩:=hrel
  by_cases hlt:k+j<s.size
  ·have d1:decide ((j:Int)<(s.size:Int) - (k:Int))=true:=by simp;omega
   have NX: ∀ q':Bool,Tk.skip q (s.data.toList.drop (k+j))=Tk.skip q' (s.data.toList.drop (k+j+1))+1→Hid (Tk.skip false (s.data.toList.drop k)=(j+1)+Tk.skip q' (s.data.toList.drop (k+(j+1)))):=fun q' hq=>by
    have h1:=HR.out
    rw [hq] at h1
    show _=_
    rw [h1,show k+(j+1)=k+j+1 from by omega]
    omega
   cases h10:((s[k+j].toNat:Int) == 10)
   ·cases h35:((s[k+j].toNat:Int) == 35)
    ·cases hg:(!q && !Tk.isB s[k+j])
     ·have HR2:=NX q (skip_else s q (k+j) hlt h10 h35 hg)
      clear NX
      cases q
      ·have hB:Tk.isB s[k+j]=true:=by simpa using hg
       clear hg
       go_wp2_with (first|(go_at_call 57;refine (isBlank_any _ _).mono ?_;rintro e w' ⟨rfl,hw⟩;subst hw))
       go_round
       case rel=>exact ⟨j+1,_,by omega,by go_num,rfl,HR2⟩
       case measure=>simp [intOf];omega
      ·clear hg
       go_wp2_with (first|(go_at_call 57;refine (isBlank_any _ _).mono ?_;rintro e w' ⟨rfl,hw⟩;subst hw))
       go_round
       case rel=>exact ⟨j+1,_,by omega,by go_num,rfl,HR2⟩
       case measure=>simp [intOf];omega
     ·have HE:Hid (Tk.skip false (s.data.toList.drop k)=j):=by
       have h1:=HR.out
       rw [skip_stop s q (k+j) hlt h10 h35 hg] at h1
       exact h1
      have hq:q=false:=by cases q<;> simp_all
      have hB:Tk.isB s[k+j]=false:=by simp at hg;exact hg.2
      subst hq
      clear hg NX
      go_wp2_with (first|(go_at_call 57;refine (isBlank_any _ _).mono ?_;rintro e w' ⟨rfl,hw⟩;subst hw))
      go_ret
      refine ⟨?_,rfl⟩
      rw [HE.out]
      show Ending.returned (Value.int .i64 _)=_
      congr 2
    ·have HR2:=NX true (skip_rem s q (k+j) hlt h10 h35)
     clear NX
     go_wp2
     go_round
     case rel=>exact ⟨j+1,_,by omega,by go_num,rfl,HR2⟩
     case measure=>simp [intOf];omega
   ·have HR2:=NX false (skip_nl s q (k+j) hlt h10)
    clear NX
    go_wp2
    go_round
    case rel=>exact ⟨j+1,_,by omega,by go_num,rfl,HR2⟩
    case measure=>simp [intOf];omega
  ·have e1:=skip_end s q (k+j) hlt
   have e2:=HR.out
   rw [e1] at e2
   have E2:=hide e2
   clear e1 e2
   have d1:decide ((j:Int)<(s.size:Int) - (k:Int))=false:=by simp;omega
   go_wp2
   go_ret
   refine ⟨?_,rfl⟩
   rw [E2.out]
   show Ending.returned (Value.int .i64 (s.size:Int))=_
   congr 2
   omega
end Go.Proofs.YtcdcoiobpbdmpaaGreatDoor
namespace Go.Proofs.YtcdcoiobpbdmpaaGreatDoor
open Go.RowKit
def bs (l:List UInt8):ByteArray:=⟨l.toArray⟩
def WTab (w:World):Prop:=0<w.heap.size∧ ∀ (i:Nat) b,Tk.words[i]? =some b→w.cell? ⟨0,i,none⟩=some (.string (bs b))
theorem WTab.below {w w':World} (h:WTab w) (hb:Below w.heap.size w w'):WTab w':=
 ⟨Nat.lt_of_lt_of_le h.1 hb.size,fun i b hi=>(hb.cell (p:=⟨0,i,none⟩) h.1).trans (h.2 i b hi)⟩
def wcells:List Value:=Tk.words.map fun b=>Value.string (bs b)
theorem wtab_range {w:World} (h:WTab w):w.rangeAt 0 0 wcells:=by
 intro j v hv
 unfold wcells at hv
 rw [List.getElem?_map] at hv
 cases hj:Tk.words[j]? with
 |none=>rw [hj] at hv;cases hv
 |some b=>
  rw [hj] at hv
  cases hv
  rw [Nat.zero_add]
  exact h.2 j b hj
theorem windex (T:List Value) (j:Nat) (b:ByteArray) (w:World) (hj:j<19) (hb:T[j]? =some (.string b)):(Instr.index 188 (.agg T.toArray) (.int .i64 (j:Int))).run Tryz.prog w= .ok (.string b) w:=by
 have hn:0≤(j:Int)∧(j:Int)<((19:Nat):Int):=by omega
 have a9:=Tryz.isAgg9
 have z9:=Tryz.sizeOf9
 have hl:j<T.length:=(List.getElem?_eq_some_iff.1 hb).1
 have he:T[j]= .string b:=(List.getElem?_eq_some_iff.1 hb).2
 simp [Instr.index,run_underlying Tryz.underlying188,asIntOf,hn,part,go_sem,hl,he]
 intro h;omega
def hasTo (l:List UInt8) (j:Nat):Bool:=(Tk.words.take j).contains l
theorem hasTo_step (l:List UInt8) (j:Nat) (b:List UInt8) (hb:Tk.words[j]? =some b):hasTo l (j+1)=(hasTo l j || (l == b)):=by
 unfold hasTo
 rw [List.take_add_one,hb]
 simp [Bool.beq_eq_decide_eq]
theorem hasTo_is (l:List UInt8) (j:Nat) (h:hasTo l j=true):Tk.isW l=true:=by
 unfold hasTo at h
 unfold Tk.isW
 rw [List.contains_iff_mem] at h ⊢
 exact List.mem_of_mem_take h
theorem str_beq (s:ByteArray) (b:List UInt8):(s.toList == (bs b).toList)=(s.data.toList == b):=by
 rw [Lib.toList_data,Lib.toList_data]
 simp [bs]
set_option maxRecDepth 100000 in
set_option maxHeartbeats 1000000 in
theorem word_any (s:ByteArray) (w:World) (hw:WTab w):
  Calls Tryz.prog 88 #[.string s] w fun e w'=>e= .returned (.bool (Tk.isW s.data.toList))∧w'=w:=by
 have hr:=wtab_range hw
 have hT: ∀ (j:Nat) b,Tk.words[j]? =some b→wcells[j]? =some (.string (bs b)):=fun j b hb=>by
  unfold wcells
  simp [hb]
 have hsz:wcells.length=19:=rfl
 generalize wcells=T at hr hT hsz
 have HT:=hide hT
 have HR:=hide hr
 clear hT hr
 have HW:=hide hw
 clear hw
 go_enter Tryz.func88,Tryz.ntmps88
 go_wp2_with (refine wpList_load_mid rfl 188 _ rfl 0 0 rfl T _ HR.out Tryz.underlying188 rfl (by rw [hsz];kernel_rfl) ?_)
 go_loop [6] (fun i=> ∃ j:Nat,j≤19∧i= .int .i64 j∧Hid (hasTo s.data.toList j=false)) (fun i=>19 - (intOf i).toNat)
 case atStart=>exact ⟨0,by omega,rfl,rfl⟩
 case round=>
  obtain ⟨j,hj,rfl,HN⟩:=hrel
  by_cases hlt:j<19
  ·have hb:Tk.words[j]? =some (Tk.words[j]?.getD []):=by
    rw [List.getElem?_eq_getElem (show j<Tk.words.length from hlt)];rfl
   have hTj:=HT.out j _ hb
   have HS:=hide (hasTo_step s.data.toList j _ hb)
   clear hb
   generalize Tk.words[j]?.getD []=b at *
   have hix:=windex T j _ w hlt hTj
   clear hTj
   cases hq:(s.data.toList == b)
   ·have HN2:Hid (hasTo s.data.toList (j+1)=false):=by
     have h1:=HS.out
     rw [HN.out,hq] at h1
     exact h1
    have heq:(s.toList == (bs b).toList)=false:=by rw [←hq];exact str_beq s b
    go_wp2
    go_round
    case rel=>exact ⟨j+1,by omega,by go_num,HN2⟩
    case measure=>simp [intOf];omega
   ·have HN2:Hid (Tk.isW s.data.toList=true):=by
     have h1:=HS.out
     rw [HN.out,hq] at h1
     exact hasTo_is _ _ h1
    have heq:(s.toList == (bs b).toList)=true:=by rw [←hq];exact str_beq s b
    go_wp2
    go_ret
    rw [HN2.out]
    exact ⟨rfl,rfl⟩
  ·obtain rfl:j=19:=by omega
   have HN2:Hid (Tk.isW s.data.toList=false):=HN.out
   go_wp2
   go_ret
   rw [HN2.out]
   exact ⟨rfl,rfl⟩
theorem val_step (n:Int) (b:UInt8) (t:List UInt8) (j:Nat) (h0:0≤n) (h1:n+1≤(10:Int) ^ j) (hd:Tk.isD b=true):
  Tk.val n (b::t)=Tk.val (n * 10+((b.toNat:Int) - 48)) t∧0≤n * 10+((b.toNat:Int) - 48)∧n * 10+((b.toNat:Int) - 48)+1≤(10:Int) ^ (j+1):=by
 refine ⟨by simp only [Tk.val];rw [if_pos hd],?_,?_⟩
 ·simp only [Tk.isD,Bool.and_eq_true,decide_eq_true_eq] at hd
  omega
 ·simp only [Tk.isD,Bool.and_eq_true,decide_eq_true_eq] at hd
  rw [Int.pow_succ]
  generalize (10:Int) ^ j=p at *
  omega
theorem val_small (n:Int) (j:Nat) (hj:j≤17) (h1:n+1≤(10:Int) ^ j):n<100000000000000000:=by
 have h:=Nat.pow_le_pow_right (show 0<10 by decide) hj
 have h2:((10 ^ j:Nat):Int)≤((10 ^ 17:Nat):Int):=Int.ofNat_le.2 h
 rw [Int.natCast_pow,Int.natCast_pow] at h2
 have h3:(((10:Nat):Int)) ^ 17=100000000000000000:=by decide
 rw [h3] at h2
 have h4:(((10:Nat):Int)) ^ j=(10:Int) ^ j:=rfl
 rw [h4] at h2
 omega
set_option maxHeartbeats 400000 in
theorem numberOf_no (s:ByteArray) (w:World) (hs:s.size≤1099511627776) (h:18<s.size∨(1<s.size∧ ∃ h0:0<s.size,s[0]=48)):
  Calls Tryz.prog 87 #[.string s] w fun e w'=>e= .returned (.tuple #[.int .i64 0,.bool false])∧w'=w:=by
 by_cases h18:18<s.size
 ·have d1:decide ((18:Int)<(s.size:Int))=true:=by simp;omega
  go_enter Tryz.func87,Tryz.ntmps87
  go_wp2
  all_goals
   go_ret2
   exact ⟨rfl,rfl⟩
 ·have hb:1<s.size∧ ∃ h0:0<s.size,s[0]=48:=by
   rcases h with h|h
   ·omega
   ·exact h
  obtain ⟨h1,h0,he⟩:=hb
  have d1:decide ((18:Int)<(s.size:Int))=false:=by simp;omega
  have d2:decide ((1:Int)<(s.size:Int))=true:=by simp;omega
  have d3:((s[0].toNat:Int) == 48)=true:=by rw [he];rfl
  clear h
  go_enter Tryz.func87,Tryz.ntmps87
  go_wp2
  all_goals
   go_ret2
   exact ⟨rfl,rfl⟩
set_option maxHeartbeats 400000 in
theorem numberOf_go (s:ByteArray) (w:World) (hs:s.size≤18) (h: ∀ h0:0<s.size,1<s.size→((s[0].toNat:Int) == 48)=false):
  Calls Tryz.prog 87 #[.string s] w fun e w'=>e= .returned (.tuple #[.int .i64 ((Tk.val 0 s.data.toList).getD 0),.bool (Tk.val 0 s.data.toList).isSome])∧w'=w:=by
 have d1:decide ((18:Int)<(s.size:Int))=false:=by simp;omega
 by_cases h1:1<s.size
 ·have d2:decide ((1:Int)<(s.size:Int))=true:=by simp;omega
  have d3:=h (by omega) h1
  clear h
  go_enter Tryz.func87,Tryz.ntmps87
  go_wp2
  go_loop [2,20] (fun n i=> ∃ (j:Nat) (m:Int),j≤s.size∧i= .int .i64 j∧n= .int .i64 m∧0≤m∧Hid (m+1≤(10:Int) ^ j)∧Hid (Tk.val 0 s.data.toList=Tk.val m (s.data.toList.drop j))) (fun _ i=>s.size - (intOf i).toNat)
  case atStart=>exact ⟨0,0,by omega,rfl,rfl,by omega,(by show (0:Int)+1≤10 ^ 0;decide),(by show Tk.val _ _=_;rw [List.drop_zero])⟩
  case round=>
   obtain ⟨j,m,hj,rfl,rfl,h0,HP,HV⟩:=hrel
   by_cases hlt:j<s.size
   ·have hsm:=val_small m j (by omega) HP.out
    cases hD:Tk.isD s[j]
    ·have HE:Hid (Tk.val 0 s.data.toList=none):=by
      have h2:=HV.out
      rw [drop_at s j hlt] at h2
      show _=_
      rw [h2]
      simp only [Tk.val]
      rw [if_neg (by simp [hD])]
     go_wp2_with (first|(go_at_call 59;refine (isDigit_any _ _).mono ?_;rintro e w' ⟨rfl,hw⟩;subst hw))
     go_ret2
     rw [HE.out]
     exact ⟨rfl,rfl⟩
    ·obtain ⟨e1,e2,e3⟩:=val_step m s[j] (s.data.toList.drop (j+1)) j h0 HP.out hD
     have HV2:Hid (Tk.val 0 s.data.toList=Tk.val (m * 10+((s[j].toNat:Int) - 48)) (s.data.toList.drop (j+1))):=by
      have h2:=HV.out
      rw [drop_at s j hlt,e1] at h2
      exact h2
     have HP2:=hide e3
     have hd:48≤s[j].toNat∧s[j].toNat≤57:=by simpa [Tk.isD] using hD
     obtain ⟨hd1,hd2⟩:=hd
     clear e1 e3
     go_wp2_with (first|(go_at_call 59;refine (isDigit_any _ _).mono ?_;rintro e w' ⟨rfl,hw⟩;subst hw))
     go_round
     case rel=>exact ⟨j+1,_,by omega,by go_num,by first|rfl|go_num,e2,HP2,HV2⟩
     case measure=>simp [intOf];omega
   ·obtain rfl:j=s.size:=by omega
    have HE:Hid (Tk.val 0 s.data.toList=some m):=by
     have h2:=HV.out
     rw [List.drop_of_length_le (by rw [←Lib.size_eq];omega)] at h2
     exact h2
    go_wp2
    go_ret2
    rw [HE.out]
    exact ⟨rfl,rfl⟩
 ·have d2:decide ((1:Int)<(s.size:Int))=false:=by simp;omega
  clear h
  go_enter Tryz.func87,Tryz.ntmps87
  go_wp2
  go_loop [2,20] (fun n i=> ∃ (j:Nat) (m:Int),j≤s.size∧i= .int .i64 j∧n= .int .i64 m∧0≤m∧Hid (m+1≤(10:Int) ^ j)∧Hid (Tk.val 0 s.data.toList=Tk.val m (s.data.toList.drop j))) (fun _ i=>s.size - (intOf i).toNat)
  case atStart=>exact ⟨0,0,by omega,rfl,rfl,by omega,(by show (0:Int)+1≤10 ^ 0;decide),(by show Tk.val _ _=_;rw [List.drop_zero])⟩
  case round=>
   obtain ⟨j,m,hj,rfl,rfl,h0,HP,HV⟩:=hrel
   by_cases hlt:j<s.size
   ·have hsm:=val_small m j (by omega) HP.out
    cases hD:Tk.isD s[j]
    ·have HE:Hid (Tk.val 0 s.data.toList=none):=by
      have h2:=HV.out
      rw [drop_at s j hlt] at h2
      show _=_
      rw [h2]
      simp only [Tk.val]
      rw [if_neg (by simp [hD])]
     go_wp2_with (first|(go_at_call 59;refine (isDigit_any _ _).mono ?_;rintro e w' ⟨rfl,hw⟩;subst hw))
     go_ret2
     rw [HE.out]
     exact ⟨rfl,rfl⟩
    ·obtain ⟨e1,e2,e3⟩:=val_step m s[j] (s.data.toList.drop (j+1)) j h0 HP.out hD
     have HV2:Hid (Tk.val 0 s.data.toList=Tk.val (m * 10+((s[j].toNat:Int) - 48)) (s.data.toList.drop (j+1))):=by
      have h2:=HV.out
      rw [drop_at s j hlt,e1] at h2
      exact h2
     have HP2:=hide e3
     have hd:48≤s[j].toNat∧s[j].toNat≤57:=by simpa [Tk.isD] using hD
     obtain ⟨hd1,hd2⟩:=hd
     clear e1 e3
     go_wp2_with (first|(go_at_call 59;refine (isDigit_any _ _).mono ?_;rintro e w' ⟨rfl,hw⟩;subst hw))
     go_round
     case rel=>exact ⟨j+1,_,by omega,by go_num,by first|rfl|go_num,e2,HP2,HV2⟩
     case measure=>simp [intOf];omega
   ·obtain rfl:j=s.size:=by omega
    have HE:Hid (Tk.val 0 s.data.toList=some m):=by
     have h2:=HV.out
     rw [List.drop_of_length_le (by rw [←Lib.size_eq];omega)] at h2
     exact h2
    go_wp2
    go_ret2
    rw [HE.out]
    exact ⟨rfl,rfl⟩
theorem head_48 (s:ByteArray):s.data.toList.head? =some 48 ↔ ∃ h0:0<s.size,s[0]=48:=by
 constructor
 ·intro h
  have h0:0<s.size:=by
   rw [Lib.size_eq]
   cases hc:s.data.toList with
   |nil=>rw [hc] at h;cases h
   |cons=>simp
  have hd:=drop_at s 0 h0
  rw [List.drop_zero] at hd
  rw [hd] at h
  exact ⟨h0,by simpa using h⟩
 ·rintro ⟨h0,he⟩
  have hd:=drop_at s 0 h0
  rw [List.drop_zero] at hd
  rw [hd,he]
  rfl
theorem numberOf_any (s:ByteArray) (w:World) (hs:s.size≤1099511627776):
  Calls Tryz.prog 87 #[.string s] w fun e w'=>e= .returned (.tuple #[.int .i64 ((Tk.numOf s.data.toList).getD 0),.bool (Tk.numOf s.data.toList).isSome])∧w'=w:=by
 have hh:=head_48 s
 have hsz:=Lib.size_eq s
 by_cases h:18<s.size∨(1<s.size∧ ∃ h0:0<s.size,s[0]=48)
 ·have e:Tk.numOf s.data.toList=none:=by
   unfold Tk.numOf
   rw [if_pos (by rw [←hsz,hh];exact h)]
  rw [e]
  exact numberOf_no s w hs h
 ·have e:Tk.numOf s.data.toList=Tk.val 0 s.data.toList:=by
   unfold Tk.numOf
   rw [if_neg (by rw [←hsz,hh];exact h)]
  rw [e]
  refine numberOf_go s w (by omega) (fun h0 h1=> ?_)
  cases hc:((s[0].toNat:Int) == 48) with
  |false=>rfl
  |true=>
   exfalso
   apply h
   refine .inr ⟨h1,h0,?_⟩
   have h2:s[0].toNat=48:=by simp at hc;omega
   exact UInt8.toNat_inj.1 h2
end Go.Proofs.YtcdcoiobpbdmpaaGreatDoor
