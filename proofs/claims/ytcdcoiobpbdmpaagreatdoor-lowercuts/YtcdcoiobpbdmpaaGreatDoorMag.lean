import Derived.Test.YtcdcoiobpbdmpaaGreatDoorMae
import Derived.Test.YtcdcoiobpbdmpaaGreatDoorMaf
import Derived.BigQuiet
import Derived.Test.YtcdcoiobpbdmpaaGreatDoorRows
import Derived.ProofKit
import Derived.LaidMore
import Derived.OpenShut
import Derived.Stop.Joined
import Derived.Lib.LaidTab
namespace Go.Proofs.YtcdcoiobpbdmpaaGreatDoor
open Go.RowKit
def Rn.forms:List (List UInt8):=[[],[108,101,116,32,65,32,61,32,69,59],[115,101,116,32,65,32,61,32,69,59],[101,109,105,116,32,69,59],[99,104,97,110,32,65,32,66,32,84,32,78,59],[99,108,111,110,101,32,65,32,66,59],[115,101,110,100,32,65,32,69,59],[99,108,111,115,101,32,65,59],[97,98,97,110,100,111,110,32,65,59],[100,114,97,105,110,32,65,59],[115,112,97,119,110,32,65,40,69,41,59],[116,97,107,101,32,65,32,102,114,111,109,32,66,32,83,79],[102,111,114,32,65,32,102,114,111,109,32,66,32,83],[114,101,112,101,97,116,32,69,32,83],[105,102,32,69,32,83,79]]
def Rn.opers:List (Int × List UInt8 × Int × Int × Int):=[(0,[],0,0,0),(0,[],3,0,0),(0,[],3,0,0),(1,[45],3,0,3),(2,[32,43,32],1,1,2),(2,[32,45,32],1,1,2),(2,[32,42,32],2,2,3),(2,[32,60,32],0,1,1),(2,[32,61,61,32],0,1,1)]
theorem gPowIs:Tryz.prog.globalNamed "internal/strconv.uint64pow10" =some 6:=by kernel_rfl
structure Tb (w:World):Prop where
 words:WTab w
 size:9≤w.heap.size
 pow:Lib.TabIs Tryz.prog w "internal/strconv.uint64pow10" .u64 Lib.pow10Tab
 forms: ∀ (i:Nat) b,Rn.forms[i]? =some b→w.cell? ⟨1,i,none⟩=some (.string (bs b))
 opers: ∀ (i:Nat) o,Rn.opers[i]? =some o→w.cell? ⟨5,i * 5,none⟩=some (.int .i64 o.1)∧w.cell? ⟨5,i * 5+1,none⟩=some (.string (bs o.2.1))∧w.cell? ⟨5,i * 5+2,none⟩=some (.int .i64 o.2.2.1)∧w.cell? ⟨5,i * 5+3,none⟩=some (.int .i64 o.2.2.2.1)∧w.cell? ⟨5,i * 5+4,none⟩=some (.int .i64 o.2.2.2.2)
theorem Tb.keep {w w':World} {S:List Nat} (h:Tb w) (hk:Kp S w w') (hS: ∀ k,k ∈ S→9≤k):Tb w':=by
 have hb: ∀ k,k<9→k ∉ S:=fun k hk hm=>by have:=hS k hm;omega
 have hblk: ∀ k,k<9→w'.heap[k]? =w.heap[k]? :=fun k hk'=>hk.block k (by have:=h.size;omega) (hb k hk')
 refine ⟨⟨by have:=hk.size;have:=h.words.1;omega,fun i b hi=>hk.some (h.words.2 i b hi) (hb 0 (by decide))⟩,by have:=hk.size;have:=h.size;omega,?_,fun i b hi=>hk.some (h.forms i b hi) (hb 1 (by decide)),fun i o hi=> ?_⟩
 ·have:=h.pow
  unfold Lib.TabIs World.var? at this ⊢
  rw [gPowIs] at this ⊢
  simp only [Option.bind_some] at this ⊢
  rw [hblk _ (by decide)]
  exact this
 ·obtain ⟨h1,h2,h3,h4,h5⟩:=h.opers i o hi
  exact ⟨hk.some h1 (hb 5 (by decide)),hk.some h2 (hb 5 (by decide)),hk.some h3 (hb 5 (by decide)),hk.some h4 (hb 5 (by decide)),hk.some h5 (hb 5 (by decide))⟩
theorem Tb.kp {w w':World} (h:Tb w) (hk:Kp [] w w'):Tb w':=h.keep hk (by simp)
theorem below_grow (w:World) (k:Nat) (os:Array Obj):Below w.heap.size w (Go.Sort.grow (w.drewN k) os):=by
 refine ⟨rfl,rfl,rfl,?_,fun j hj=> ?_⟩
 ·show w.heap.size≤(w.heap++os).size
  simp
 ·show (w.heap++os)[j]? =w.heap[j]?
  rw [Array.getElem?_append_left hj]
theorem itoa_any (n:Int) (w:World) (h0: -9223372036854775808≤n) (h1:n≤9223372036854775807) (hT:Tb w):
  Calls Tryz.prog 152 #[.int .i64 n] w fun e w'=>e= .returned (.string (bs (Lib.itoa n)))∧Kp [] w w':=by
 refine (Tryz.strconv_Itoa n h0 h1 w hT.pow).mono ?_
 rintro e w1 ⟨rfl,k,os,rfl⟩
 exact ⟨rfl,Kp.of_below (below_grow w k os)⟩
theorem formatInt_any (n:Int) (w:World) (h0: -9223372036854775808≤n) (h1:n≤9223372036854775807) (hT:Tb w):
  Calls Tryz.prog 202 #[.int .i64 n,.int .i64 10] w fun e w'=>e= .returned (.string (bs (Lib.itoa n)))∧Kp [] w w':=by
 refine (Tryz.strconv_FormatInt_10 n h0 h1 w hT.pow).mono ?_
 rintro e w1 ⟨rfl,k,os,rfl⟩
 exact ⟨rfl,Kp.of_below (below_grow w k os)⟩
set_option maxHeartbeats 400000 in
theorem isKind_any (d:Int) (w:World):
  Calls Tryz.prog 168 #[.int .i64 d] w fun e w'=>e= .returned (.bool (decide (1≤d) && decide (d≤14)))∧w'=w:=by
 by_cases h1:1≤d
 ·have d1:decide (1≤d)=true:=by simpa using h1
  have e:decide (d≤14)=decide (d<15):=by congr 1;apply propext;omega
  rw [d1,e]
  go_enter Tryz.func168,Tryz.ntmps168
  go_wp2
  go_ret
  exact ⟨rfl,rfl⟩
 ·have d1:decide (1≤d)=false:=by simpa using h1
  rw [d1]
  go_enter Tryz.func168,Tryz.ntmps168
  go_wp2
  go_ret
  exact ⟨rfl,rfl⟩
set_option maxHeartbeats 400000 in
theorem isOperation_any (d:Int) (w:World):
  Calls Tryz.prog 184 #[.int .i64 d] w fun e w'=>e= .returned (.bool (decide (1≤d) && decide (d≤8)))∧w'=w:=by
 by_cases h1:1≤d
 ·have d1:decide (1≤d)=true:=by simpa using h1
  have e:decide (d≤8)=decide (d<9):=by congr 1;apply propext;omega
  rw [d1,e]
  go_enter Tryz.func184,Tryz.ntmps184
  go_wp2
  go_ret
  exact ⟨rfl,rfl⟩
 ·have d1:decide (1≤d)=false:=by simpa using h1
  rw [d1]
  go_enter Tryz.func184,Tryz.ntmps184
  go_wp2
  go_ret
  exact ⟨rfl,rfl⟩
def Rn.hasF (d:Int) (c:UInt8):Bool:=decide (0≤Lib.indexByte (Rn.forms[d.toNat]?.getD []) c)
set_option maxRecDepth 100000 in
set_option maxHeartbeats 400000 in
theorem hasField_any (d:Int) (c:UInt8) (w:World) (hT:Tb w) (h1:1≤d) (h2:d≤14):
  Calls Tryz.prog 149 #[.int .i64 d,.string ⟨#[c]⟩] w fun e w'=>e= .returned (.bool (Rn.hasF d c))∧w'=w:=by
 obtain ⟨f,hf⟩: ∃ f,Rn.forms[d.toNat]? =some f:=⟨_,List.getElem?_eq_getElem (show d.toNat<15 by omega)⟩
 have hc:=hT.forms _ _ hf
 have HC:=hide (fun w=>Tryz.strings_Contains_one (bs f) c w)
 have e:Rn.hasF d c=decide (0≤Lib.indexByte (bs f).data.toList c):=by rw [Rn.hasF,hf,bs_list];rfl
 rw [e]
 have b0:(0:Int)≤d:=by omega
 have b1:d<15:=by omega
 go_enter Tryz.func149,Tryz.ntmps149
 go_wp2_with fail
 refine (HC.out _).mono ?_
 rintro e w1 ⟨rfl,rfl⟩
 go_wp2
 go_ret
 exact ⟨rfl,rfl⟩
theorem Rn.hasF_A {d:Int} (h1:1≤d) (h2:d≤14):Rn.hasF d 65=Rn.hasA d:=by
 rcases Rn.kinds h1 h2 with rfl|rfl|rfl|rfl|rfl|rfl|rfl|rfl|rfl|rfl|rfl|rfl|rfl|rfl
 all_goals decide
theorem Rn.hasF_B {d:Int} (h1:1≤d) (h2:d≤14):Rn.hasF d 66=Rn.hasB d:=by
 rcases Rn.kinds h1 h2 with rfl|rfl|rfl|rfl|rfl|rfl|rfl|rfl|rfl|rfl|rfl|rfl|rfl|rfl
 all_goals decide
theorem Rn.hasF_T {d:Int} (h1:1≤d) (h2:d≤14):Rn.hasF d 84=Rn.hasT d:=by
 rcases Rn.kinds h1 h2 with rfl|rfl|rfl|rfl|rfl|rfl|rfl|rfl|rfl|rfl|rfl|rfl|rfl|rfl
 all_goals decide
theorem Rn.hasF_N {d:Int} (h1:1≤d) (h2:d≤14):Rn.hasF d 78=Rn.hasT d:=by
 rcases Rn.kinds h1 h2 with rfl|rfl|rfl|rfl|rfl|rfl|rfl|rfl|rfl|rfl|rfl|rfl|rfl|rfl
 all_goals decide
theorem Rn.hasF_S {d:Int} (h1:1≤d) (h2:d≤14):Rn.hasF d 83=Rn.hasS d:=by
 rcases Rn.kinds h1 h2 with rfl|rfl|rfl|rfl|rfl|rfl|rfl|rfl|rfl|rfl|rfl|rfl|rfl|rfl
 all_goals decide
theorem Rn.hasF_O {d:Int} (h1:1≤d) (h2:d≤14):Rn.hasF d 79=Rn.hasO d:=by
 rcases Rn.kinds h1 h2 with rfl|rfl|rfl|rfl|rfl|rfl|rfl|rfl|rfl|rfl|rfl|rfl|rfl|rfl
 all_goals decide
theorem Rn.countE {d:Int} (h1:1≤d) (h2:d≤14) (h:d ≠ 10):Lib.countByte (Rn.forms[d.toNat]?.getD []) 69=Rn.fewE d:=by
 rcases Rn.kinds h1 h2 with rfl|rfl|rfl|rfl|rfl|rfl|rfl|rfl|rfl|rfl|rfl|rfl|rfl|rfl
 all_goals first|(exact absurd rfl h)|decide
def Rn.fm (d:Int) (A B T:List UInt8) (k:Int) (nE nB nO:Nat):Bool:=
 decide (1≤d) && decide (d≤14) && (Rn.hasA d || A == []) && (Rn.hasB d || B == []) && (Rn.hasT d || T == []) && (Rn.hasT d || k == 0) &&
  (Rn.hasS d || nB == 0) && (Rn.hasO d || nO == 0) && (d == 10 || nE == Rn.fewE d)
theorem isEmpty_len {α:Type} (l:List α):l.isEmpty=(l.length == 0):=by cases l<;> rfl
theorem Rn.formed_fm (d at':Int) (A B T:List UInt8) (k:Int) (E b o:List Sx.Tr):Rn.formed (Sx.tS d at' A B T k E b o)=Rn.fm d A B T k E.length b.length o.length:=by
 show (_ && _ && _ && _ && _ && _ && (_ || b.isEmpty) && (_ || o.isEmpty) && _)=_
 rw [isEmpty_len,isEmpty_len]
 rfl
end Go.Proofs.YtcdcoiobpbdmpaaGreatDoor
namespace Go.Proofs.YtcdcoiobpbdmpaaGreatDoor
open Go.RowKit
theorem Rn.drop_all {p:UInt8→Bool} {l:List UInt8}:l.dropWhile p=[] ↔ l.all p=true:=by
 induction l with
 |nil=>simp
 |cons b r ih=>
  rw [List.dropWhile_cons]
  cases h:p b with
  |true=>simp [ih,h]
  |false=>simp [h]
theorem Rn.trim_nil {l:List UInt8} {cs:List UInt8}:Lib.trimS l cs=[] ↔ l.all (fun b=>cs.contains b)=true:=by
 unfold Lib.trimS Lib.trimLeftS Lib.trimRightS
 rw [Rn.drop_all,List.all_reverse]
 constructor
 ·intro h
  have h2:(l.reverse.dropWhile (fun b=>cs.contains b))=[]:=by
   cases hd:l.reverse.dropWhile (fun b=>cs.contains b) with
   |nil=>rfl
   |cons b r=>
    have hb:=List.head?_dropWhile_not (fun b=>cs.contains b) l.reverse
    rw [hd] at hb h
    simp at hb h
    exact absurd h.1 (by simpa using hb)
  rw [Rn.drop_all,List.all_reverse] at h2
  exact h2
 ·intro h
  have h2:l.reverse.dropWhile (fun b=>cs.contains b)=[]:=by rw [Rn.drop_all,List.all_reverse];exact h
  rw [h2]
  rfl
theorem Rn.suf_cat (r:List UInt8) (c:UInt8):Lib.hasSuffix (r++[c]) [105]=(c == 105):=by
 unfold Lib.hasSuffix
 by_cases h:c=105
 ·subst h
  rw [beq_self_eq_true]
  exact List.isSuffixOf_iff_suffix.2 ⟨r,rfl⟩
 ·rw [beq_eq_false_iff_ne.2 h]
  apply Bool.eq_false_iff.2
  intro hs
  obtain ⟨q,hq⟩:=List.isSuffixOf_iff_suffix.1 hs
  have:=congrArg List.getLast? hq
  simp at this
  exact h this.symm
theorem ascii_sr: ∀ (j:Nat) b,(⟨#[115,114]⟩:ByteArray).data.toList[j]? =some b→b.toNat<128:=by
 intro j b h
 match j,h with
 |0,h=>simp at h;subst h;decide
 |1,h=>simp at h;subst h;decide
 |j+2,h=>simp at h
set_option maxRecDepth 100000 in
set_option maxHeartbeats 1000000 in
theorem rType_any (t:List UInt8) (ends:Int) (w:World) (hn:t.length≤1099511627776):
  Calls Tryz.prog 49 #[.string (bs t),.int .i64 ends] w fun e w'=>e= .returned (.bool (Rn.isT t ends))∧Kp [] w w':=by
 have hz:(bs t).size≤9223372036854775807:=by rw [bsz];omega
 have HC:=hide (fun w=>Tryz.strings_CutSuffix (bs t) ⟨#[105]⟩ w hz)
 rw [bs_list] at HC
 rcases List.eq_nil_or_concat t with rfl|⟨r,c,rfl⟩
 ·have hs:Lib.hasSuffix [] (⟨#[105]⟩:ByteArray).data.toList=false:=rfl
  go_enter Tryz.func49,Tryz.ntmps49
  go_wp2_with fail
  refine (HC.out _).mono ?_
  rintro e w1 ⟨rfl,rfl⟩
  go_wp2
  go_ret
  exact ⟨rfl,Kp.refl _ _⟩
 ·rw [List.concat_eq_append] at hn HC hz ⊢
  rw [Rn.isT_cat]
  have hs:Lib.hasSuffix (r++[c]) (⟨#[105]⟩:ByteArray).data.toList=(c == 105):=Rn.suf_cat r c
  by_cases hc:c=105
  ·subst hc
   have hq:Lib.hasSuffix (r++[105]) (⟨#[105]⟩:ByteArray).data.toList=true:=hs
   have ht:Lib.trimSuffix (r++[105]) (⟨#[105]⟩:ByteArray).data.toList=r:=by
    unfold Lib.trimSuffix
    rw [hq]
    simp
   rw [ht,hq] at HC
   clear hs hq ht hz
   have hl:r.length≤1099511627776:=by simp at hn;omega
   have hzr:(bs r).size≤9223372036854775807:=by rw [bsz];omega
   have hsz:((bs r).size:Int)=(r.length:Int):=by rw [bsz]
   have HQ:Hid (∀ w,Calls Tryz.prog 83 #[.string (bs r),.string ⟨#[115,114]⟩] w fun e w'=>e= .returned (.string (bs (Lib.trimS r [115,114])))∧Below w.heap.size w w'):=fun w=>by
    have:=Tryz.strings_Trim_laid (bs r) ⟨#[115,114]⟩ w hzr (by decide) ascii_sr
    rw [bs_list] at this
    exact this
   change Hid (∀ w,Calls Tryz.prog 82 #[.string _,.string ⟨#[105]⟩] w fun e w'=>e= .returned (.tuple #[.string (bs r),.bool true])∧w'=w) at HC
   by_cases he:(r.length:Int)≤ends
   ·have d1:decide ((r.length:Int)≤ends)=true:=by simpa using he
    rw [d1]
    have ha:(Lib.trimS r [115,114] == [])=r.all (fun b=>b == 115 || b == 114):=by
     have:= @Rn.trim_nil r [115,114]
     have e:(fun b:UInt8=>[115,114].contains b)=(fun b=>b == 115 || b == 114):=by funext b;simp;rfl
     rw [e] at this
     cases h:r.all (fun b=>b == 115 || b == 114) with
     |true=>rw [h] at this;rw [this.2 rfl];rfl
     |false=>rw [h] at this;apply beq_eq_false_iff_ne.2;intro hn;exact absurd (this.1 hn) (by simp)
    have hb:(bs (Lib.trimS r [115,114])).toList=Lib.trimS r [115,114]:=bsl _
    rw [←ha]
    generalize Lib.trimS r [115,114]=X at *
    go_enter Tryz.func49,Tryz.ntmps49
    go_wp2_with fail
    refine (HC.out _).mono ?_
    rintro e w2 ⟨rfl,rfl⟩
    go_wp2_with fail
    refine (HQ.out _).mono ?_
    rintro e w1 ⟨rfl,hk⟩
    have K1:Hid (Kp [] w2 w1):=Kp.of_below hk
    clear hk
    go_wp2
    go_ret
    refine ⟨?_,K1.out⟩
    rw [←ha]
    simp
   ·have d1:decide ((r.length:Int)≤ends)=false:=by simpa using he
    rw [d1,Bool.and_false]
    go_enter Tryz.func49,Tryz.ntmps49
    go_wp2_with fail
    refine (HC.out _).mono ?_
    rintro e w1 ⟨rfl,rfl⟩
    go_wp2
    go_ret
    exact ⟨rfl,Kp.refl _ _⟩
  ·have hf:(c == 105)=false:=beq_eq_false_iff_ne.2 hc
   rw [hf] at hs
   rw [hs] at HC
   rw [hf,Bool.and_false]
   go_enter Tryz.func49,Tryz.ntmps49
   go_wp2_with fail
   refine (HC.out _).mono ?_
   rintro e w1 ⟨rfl,rfl⟩
   go_wp2
   go_ret
   exact ⟨rfl,Kp.refl _ _⟩
end Go.Proofs.YtcdcoiobpbdmpaaGreatDoor
namespace Go.Proofs.YtcdcoiobpbdmpaaGreatDoor
open Go.RowKit
def PCt (n:Nat):Prop:= ∀ (w:World) (P:Nat→Prop) (op z:Int) (nm:List UInt8) (L:List Sx.Tr) (a:Option Addr) (c:Nat),Tb w→EL w P n L (.slice a L.length c)→Rn.nmE (n+1) (Sx.tE op nm z L)→
 Calls Tryz.prog 172 #[.agg #[.int .i64 op,.string (bs nm),.int .i64 z,.slice a L.length c]] w fun e w'=>e= .returned (.int .i64 (Rn.xf (n+1) (Sx.tE op nm z L)))∧Kp [] w w'
theorem Rn.oper_at {w:World} (hT:Tb w) {op:Int} (h1:1≤op) (h2:op≤8):w.cell? ⟨5,op.toNat * 5,none⟩=some (.int .i64 (Rn.want op)):=by
 have h:op=1∨op=2∨op=3∨op=4∨op=5∨op=6∨op=7∨op=8:=by omega
 rcases h with rfl|rfl|rfl|rfl|rfl|rfl|rfl|rfl
 ·exact (hT.opers 1 _ rfl).1
 ·exact (hT.opers 2 _ rfl).1
 ·exact (hT.opers 3 _ rfl).1
 ·exact (hT.opers 4 _ rfl).1
 ·exact (hT.opers 5 _ rfl).1
 ·exact (hT.opers 6 _ rfl).1
 ·exact (hT.opers 7 _ rfl).1
 ·exact (hT.opers 8 _ rfl).1
set_option maxRecDepth 100000 in
set_option maxHeartbeats 1000000 in
theorem partCode_op (n:Nat) (ih:PCt n) (w:World) (hT:Tb w) (P:Nat→Prop) (op:Int) (L:List Sx.Tr) (a:Option Addr) (c:Nat) (h:EL w P (n+1) L (.slice a L.length c)) (hn:Rn.nmE (n+2) (Sx.tE op [] 0 L)) (o3:4≤op) (o8:op≤8) (hl:L.length=2):
  Calls Tryz.prog 172 #[.agg #[.int .i64 op,.string (bs []),.int .i64 0,.slice a L.length c]] w fun e w'=>e= .returned (.int .i64 (Rn.firstOf (Rn.xf (n+1)) L))∧Kp [] w w':=by
 have HS:=hide h
 have IH:=hide ih
 have HN:=hide hn.2
 have HT:=hide hT
 have e0:(bs []).toList=[]:=bs0
 have q1:(op == 1)=false:=by simp;omega
 have q2:(op == 2)=false:=by simp;omega
 have HO:Hid (∀ w,Calls Tryz.prog 184 #[.int .i64 op] w fun e w'=>e= .returned (.bool true)∧w'=w):=fun w=>by
  have:=isOperation_any op w
  rw [show decide (1≤op)=true from by simp;omega,show decide (op≤8)=true from by simp;omega] at this
  exact this
 have cop:=Rn.oper_at hT (show 1≤op by omega) o8
 rw [show Rn.want op=2 from by unfold Rn.want;rw [if_neg (by omega),if_neg (by omega)]] at cop
 have cop':w.cell? ⟨5,op.toNat * 5,none⟩=some (.int .i64 2):=cop
 clear cop
 have hli:(L.length:Int)=2:=by omega
 have b0:(0:Int)≤op:=by omega
 have b1:op<9:=by omega
 have hgl:5<w.heap.size:=by have:=hT.size;omega
 clear h ih hn hl hT
 go_enter Tryz.func172,Tryz.ntmps172
 go_wp2_with fail
 refine (HO.out _).mono ?_
 rintro e w1 ⟨rfl,rfl⟩
 go_wp2_with fail
 go_quiet (fail)
 go_wp2_with fail
 go_loopw [58] (fun iv wr=> ∃ (k:Nat),k≤L.length∧iv= .int .i64 k∧Hid (Rn.firstOf (Rn.xf (n+1)) L=Rn.firstOf (Rn.xf (n+1)) (L.drop k))∧Hid (Kp [] w wr)) (fun iv _=>L.length - (intOf iv).toNat)
 case atStart=>exact ⟨0,Nat.zero_le _,rfl,rfl,((Kp.refl _ _).alloc _).drewN _⟩
 case round=>
  obtain ⟨k,hk,rfl,HF,HK⟩:=hrel
  by_cases hlt:k<L.length
  ·have d1:decide ((k:Int)<(L.length:Int))=true:=by simp;omega
   obtain ⟨b,off,op1,nm1,z1,L1,aL,cL,rfl,-,hd,m0,m1,m2,m3,hL⟩:=(HS.out.keep HK.out (by simp)).nth k hlt
   have HL:=hide hL
   have HM:=hide (HN.out k _ hd)
   have HDR:=hide (drop_nth hd)
   have hk0:(0:Int)≤(k:Int):=by omega
   have hk1:(k:Int)<(L.length:Int):=by omega
   clear hL hd
   generalize hX:Rn.xf (n+1) (Sx.tE op1 nm1 z1 L1)=X at *
   by_cases h0:X=0
   ·go_wp2_with fail
    refine (IH.out _ P op1 z1 nm1 L1 aL cL (HT.out.kp (HK.out.alloc _)) (HL.out.keep ((Kp.refl [] _).alloc _) (by simp)) HM.out).mono ?_
    rintro e w1 ⟨rfl,hk2⟩
    rw [hX,h0]
    have K1:=hide hk2
    clear hk2
    go_wp2
    go_roundw
    case rel=>exact ⟨k+1,by omega,by go_num,by rw [HF.out,HDR.out,Rn.firstOf,hX,h0];rfl,(HK.out.alloc _).trans K1.out⟩
    case measure=>simp [intOf];omega
   ·go_wp2_with fail
    refine (IH.out _ P op1 z1 nm1 L1 aL cL (HT.out.kp (HK.out.alloc _)) (HL.out.keep ((Kp.refl [] _).alloc _) (by simp)) HM.out).mono ?_
    rintro e w1 ⟨rfl,hk2⟩
    rw [hX]
    have K1:=hide hk2
    clear hk2
    go_wp2
    go_ret
    refine ⟨?_,(HK.out.alloc _).trans K1.out⟩
    rw [HF.out,HDR.out,Rn.firstOf,hX,if_pos h0]
    rfl
  ·obtain rfl:k=L.length:=by omega
   have d1:decide ((L.length:Int)<(L.length:Int))=false:=by simp
   go_wp2
   go_ret
   refine ⟨?_,HK.out⟩
   rw [HF.out,List.drop_length]
   rfl
set_option maxRecDepth 100000 in
set_option maxHeartbeats 1000000 in
theorem partCode_neg (n:Nat) (ih:PCt n) (w:World) (hT:Tb w) (P:Nat→Prop) (L:List Sx.Tr) (a:Option Addr) (c:Nat) (h:EL w P (n+1) L (.slice a L.length c)) (hn:Rn.nmE (n+2) (Sx.tE 3 [] 0 L)) (hl:L.length=1):
  Calls Tryz.prog 172 #[.agg #[.int .i64 3,.string (bs []),.int .i64 0,.slice a L.length c]] w fun e w'=>e= .returned (.int .i64 (Rn.firstOf (Rn.xf (n+1)) L))∧Kp [] w w':=by
 have HS:=hide h
 have IH:=hide ih
 have HN:=hide hn.2
 have HT:=hide hT
 have e0:(bs []).toList=[]:=bs0
 have HO:Hid (∀ w,Calls Tryz.prog 184 #[.int .i64 3] w fun e w'=>e= .returned (.bool true)∧w'=w):=fun w=>isOperation_any 3 w
 have cop:w.cell? ⟨5,15,none⟩=some (.int .i64 1):=(hT.opers 3 _ rfl).1
 have hli:(L.length:Int)=1:=by omega
 have hgl:5<w.heap.size:=by have:=hT.size;omega
 clear h ih hn hl hT
 go_enter Tryz.func172,Tryz.ntmps172
 go_wp2_with fail
 refine (HO.out _).mono ?_
 rintro e w1 ⟨rfl,rfl⟩
 go_wp2_with fail
 go_quiet (fail)
 go_wp2_with fail
 go_loopw [58] (fun iv wr=> ∃ (k:Nat),k≤L.length∧iv= .int .i64 k∧Hid (Rn.firstOf (Rn.xf (n+1)) L=Rn.firstOf (Rn.xf (n+1)) (L.drop k))∧Hid (Kp [] w wr)) (fun iv _=>L.length - (intOf iv).toNat)
 case atStart=>exact ⟨0,Nat.zero_le _,rfl,rfl,((Kp.refl _ _).alloc _).drewN _⟩
 case round=>
  obtain ⟨k,hk,rfl,HF,HK⟩:=hrel
  by_cases hlt:k<L.length
  ·have d1:decide ((k:Int)<(L.length:Int))=true:=by simp;omega
   obtain ⟨b,off,op1,nm1,z1,L1,aL,cL,rfl,-,hd,m0,m1,m2,m3,hL⟩:=(HS.out.keep HK.out (by simp)).nth k hlt
   have HL:=hide hL
   have HM:=hide (HN.out k _ hd)
   have HDR:=hide (drop_nth hd)
   have hk0:(0:Int)≤(k:Int):=by omega
   have hk1:(k:Int)<(L.length:Int):=by omega
   clear hL hd
   generalize hX:Rn.xf (n+1) (Sx.tE op1 nm1 z1 L1)=X at *
   by_cases h0:X=0
   ·go_wp2_with fail
    refine (IH.out _ P op1 z1 nm1 L1 aL cL (HT.out.kp (HK.out.alloc _)) (HL.out.keep ((Kp.refl [] _).alloc _) (by simp)) HM.out).mono ?_
    rintro e w1 ⟨rfl,hk2⟩
    rw [hX,h0]
    have K1:=hide hk2
    clear hk2
    go_wp2
    go_roundw
    case rel=>exact ⟨k+1,by omega,by go_num,by rw [HF.out,HDR.out,Rn.firstOf,hX,h0];rfl,(HK.out.alloc _).trans K1.out⟩
    case measure=>simp [intOf];omega
   ·go_wp2_with fail
    refine (IH.out _ P op1 z1 nm1 L1 aL cL (HT.out.kp (HK.out.alloc _)) (HL.out.keep ((Kp.refl [] _).alloc _) (by simp)) HM.out).mono ?_
    rintro e w1 ⟨rfl,hk2⟩
    rw [hX]
    have K1:=hide hk2
    clear hk2
    go_wp2
    go_ret
    refine ⟨?_,(HK.out.alloc _).trans K1.out⟩
    rw [HF.out,HDR.out,Rn.firstOf,hX,if_pos h0]
    rfl
  ·obtain rfl:k=L.length:=by omega
   have d1:decide ((L.length:Int)<(L.length:Int))=false:=by simp
   go_wp2
   go_ret
   refine ⟨?_,HK.out⟩
   rw [HF.out,List.drop_length]
   rfl
set_option maxRecDepth 100000 in
set_option maxHeartbeats 1000000 in
theorem partCode_num (w:World) (hT:Tb w) (z:Int) (a:Option Addr) (c:Nat):
  Calls Tryz.prog 172 #[.agg #[.int .i64 1,.string (bs []),.int .i64 z,.slice a 0 c]] w fun e w'=>e= .returned (.int .i64 (if z<0∨1000000000000000000≤z then 3 else 0))∧Kp [] w w':=by
 have e0:(bs []).toList=[]:=bs0
 have HO:Hid (∀ w,Calls Tryz.prog 184 #[.int .i64 1] w fun e w'=>e= .returned (.bool true)∧w'=w):=fun w=>isOperation_any 1 w
 have cop:w.cell? ⟨5,5,none⟩=some (.int .i64 0):=(hT.opers 1 _ rfl).1
 have hgl:5<w.heap.size:=by have:=hT.size;omega
 by_cases hz:z<0∨1000000000000000000≤z
 ·rw [if_pos hz]
  have z0: ¬ z=0:=by omega
  by_cases h1:z<0
  ·have d1:decide (z<0)=true:=by simpa using h1
   go_enter Tryz.func172,Tryz.ntmps172
   go_wp2_with fail
   refine (HO.out _).mono ?_
   rintro e w1 ⟨rfl,rfl⟩
   go_wp2_with fail
   go_quiet (fail)
   go_wp2_with fail
   go_ret
   exact ⟨rfl,((Kp.refl _ _).alloc _).drewN _⟩
  ·have d1:decide (z<0)=false:=by simpa using h1
   have d2:decide (999999999999999999<z)=true:=by simp;omega
   go_enter Tryz.func172,Tryz.ntmps172
   go_wp2_with fail
   refine (HO.out _).mono ?_
   rintro e w1 ⟨rfl,rfl⟩
   go_wp2_with fail
   go_quiet (fail)
   go_wp2_with fail
   go_ret
   exact ⟨rfl,((Kp.refl _ _).alloc _).drewN _⟩
 ·rw [if_neg hz]
  have d1:decide (z<0)=false:=by simp;omega
  have d2:decide (999999999999999999<z)=false:=by simp;omega
  clear hz
  by_cases z0:z=0
  all_goals
   go_enter Tryz.func172,Tryz.ntmps172
   go_wp2_with fail
   refine (HO.out _).mono ?_
   rintro e w1 ⟨rfl,rfl⟩
   go_wp2_with fail
   go_quiet (fail)
   go_wp2_with fail
   go_loopw [58] (fun iv wr=>iv= .int .i64 0∧Hid (Kp [] w wr)) (fun iv _=>(intOf iv).toNat)
   case atStart=>exact ⟨rfl,((Kp.refl _ _).alloc _).drewN _⟩
   case round=>
    obtain ⟨rfl,HK⟩:=hrel
    go_wp2
    go_ret
    exact ⟨rfl,HK.out⟩
set_option maxRecDepth 100000 in
set_option maxHeartbeats 1000000 in
theorem partCode_name (w:World) (hT:Tb w) (nm:List UInt8) (a:Option Addr) (c:Nat) (hn:nm.length≤1099511627776):
  Calls Tryz.prog 172 #[.agg #[.int .i64 2,.string (bs nm),.int .i64 0,.slice a 0 c]] w fun e w'=>e= .returned (.int .i64 (if Tk.isN nm=false then 4 else 0))∧Kp [] w w':=by
 have HI:Hid (∀ w,Tb w→Calls Tryz.prog 128 #[.string (bs nm)] w fun e w'=>e= .returned (.bool (Tk.isN nm))∧w'=w):=fun w h=>by
  have:=name_any (bs nm) w h.words (by rw [bsz];exact hn)
  rw [bs_list] at this
  exact this
 have e1:(bs nm).toList=nm:=bsl nm
 have HO:Hid (∀ w,Calls Tryz.prog 184 #[.int .i64 2] w fun e w'=>e= .returned (.bool true)∧w'=w):=fun w=>isOperation_any 2 w
 have cop:w.cell? ⟨5,10,none⟩=some (.int .i64 0):=(hT.opers 2 _ rfl).1
 have hgl:5<w.heap.size:=by have:=hT.size;omega
 have HT:=hide hT
 clear hT hn
 cases hX:Tk.isN nm with
 |false=>
  rw [hX] at HI
  cases h0:nm.isEmpty
  all_goals
   go_enter Tryz.func172,Tryz.ntmps172
   go_wp2_with fail
   refine (HO.out _).mono ?_
   rintro e w1 ⟨rfl,rfl⟩
   go_wp2_with fail
   go_quiet (fail)
   go_wp2_with fail
   refine (HI.out _ (HT.out.kp (((Kp.refl _ _).alloc _).drewN _))).mono ?_
   rintro e w2 ⟨rfl,rfl⟩
   go_wp2
   go_ret
   exact ⟨rfl,((Kp.refl _ _).alloc _).drewN _⟩
 |true=>
  rw [hX] at HI
  cases h0:nm.isEmpty
  all_goals
   go_enter Tryz.func172,Tryz.ntmps172
   go_wp2_with fail
   refine (HO.out _).mono ?_
   rintro e w1 ⟨rfl,rfl⟩
   go_wp2_with fail
   go_quiet (fail)
   go_wp2_with fail
   refine (HI.out _ (HT.out.kp (((Kp.refl _ _).alloc _).drewN _))).mono ?_
   rintro e w2 ⟨rfl,rfl⟩
   go_wp2
   go_loopw [58] (fun iv wr=>iv= .int .i64 0∧Hid (Kp [] w wr)) (fun iv _=>(intOf iv).toNat)
   case atStart=>exact ⟨rfl,((Kp.refl _ _).alloc _).drewN _⟩
   case round=>
    obtain ⟨rfl,HK⟩:=hrel
    go_wp2
    go_ret
    exact ⟨rfl,HK.out⟩
set_option maxRecDepth 100000 in
set_option maxHeartbeats 1000000 in
theorem partCode_no (w:World) (op z:Int) (nm:List UInt8) (n:Nat) (a:Option Addr) (c:Nat) (h:op<1∨8<op):
  Calls Tryz.prog 172 #[.agg #[.int .i64 op,.string (bs nm),.int .i64 z,.slice a n c]] w fun e w'=>e= .returned (.int .i64 5)∧Kp [] w w':=by
 have HO:Hid (∀ w,Calls Tryz.prog 184 #[.int .i64 op] w fun e w'=>e= .returned (.bool false)∧w'=w):=fun w=>by
  have:=isOperation_any op w
  rw [←Bool.decide_and,decide_eq_false (by omega)] at this
  exact this
 go_enter Tryz.func172,Tryz.ntmps172
 go_wp2_with fail
 refine (HO.out _).mono ?_
 rintro e w1 ⟨rfl,rfl⟩
 go_wp2
 go_ret
 exact ⟨rfl,(Kp.refl _ _).alloc _⟩
set_option maxRecDepth 100000 in
set_option maxHeartbeats 1000000 in
theorem partCode_bad (w:World) (hT:Tb w) (op z:Int) (nm:List UInt8) (n:Nat) (a:Option Addr) (c:Nat) (h1:1≤op) (h8:op≤8) (h:n ≠ Rn.want op∨(z ≠ 0∧op ≠ 1)∨(nm ≠ []∧op ≠ 2)):
  Calls Tryz.prog 172 #[.agg #[.int .i64 op,.string (bs nm),.int .i64 z,.slice a n c]] w fun e w'=>e= .returned (.int .i64 5)∧Kp [] w w':=by
 have HO:Hid (∀ w,Calls Tryz.prog 184 #[.int .i64 op] w fun e w'=>e= .returned (.bool true)∧w'=w):=fun w=>by
  have:=isOperation_any op w
  rw [show decide (1≤op)=true from by simp;omega,show decide (op≤8)=true from by simp;omega] at this
  exact this
 have e1:(bs nm).toList=nm:=bsl nm
 have cop:=Rn.oper_at hT h1 h8
 have b0:(0:Int)≤op:=by omega
 have b1:op<9:=by omega
 have hgl:5<w.heap.size:=by have:=hT.size;omega
 by_cases hn:n=Rn.want op
 ·have hli:((n:Int) !=((Rn.want op:Nat):Int))=false:=by simp;omega
  have h':(z ≠ 0∧op ≠ 1)∨(nm ≠ []∧op ≠ 2):=h.resolve_left (fun hc=>hc hn)
  clear h hn
  generalize Rn.want op=wn at *
  by_cases hm:nm ≠ []∧op ≠ 2
  ·have f1:nm.isEmpty=false:=by cases nm with
    |nil=>exact absurd rfl hm.1
    |cons b r=>rfl
   have f2:(op !=2)=true:=by simpa using hm.2
   clear h' hm
   go_enter Tryz.func172,Tryz.ntmps172
   go_wp2_with fail
   refine (HO.out _).mono ?_
   rintro e w1 ⟨rfl,rfl⟩
   go_wp2_with fail
   go_quiet (fail)
   go_wp2_with fail
   go_ret
   exact ⟨rfl,((Kp.refl _ _).alloc _).drewN _⟩
  ·have hz:=h'.resolve_right hm
   have f3:(z !=0)=true:=by simpa using hz.1
   have f4:(op !=1)=true:=by simpa using hz.2
   cases hne:nm.isEmpty with
   |true=>
    clear hm h' hz
    go_enter Tryz.func172,Tryz.ntmps172
    go_wp2_with fail
    refine (HO.out _).mono ?_
    rintro e w1 ⟨rfl,rfl⟩
    go_wp2_with fail
    go_quiet (fail)
    go_wp2_with fail
    go_ret
    exact ⟨rfl,((Kp.refl _ _).alloc _).drewN _⟩
   |false=>
    have ho:op=2:=by
     apply Decidable.byContradiction
     intro hc
     apply hm
     refine ⟨?_,hc⟩
     rintro rfl
     cases hne
    subst ho
    have cop':w.cell? ⟨5,10,none⟩=some (.int .i64 wn):=cop
    clear cop
    clear hm h' hz
    go_enter Tryz.func172,Tryz.ntmps172
    go_wp2_with fail
    refine (HO.out _).mono ?_
    rintro e w1 ⟨rfl,rfl⟩
    go_wp2_with fail
    go_quiet (fail)
    go_wp2_with fail
    go_ret
    exact ⟨rfl,((Kp.refl _ _).alloc _).drewN _⟩
 ·have hli:((n:Int) !=((Rn.want op:Nat):Int))=true:=by simp;omega
  clear h hn
  generalize Rn.want op=wn at *
  go_enter Tryz.func172,Tryz.ntmps172
  go_wp2_with fail
  refine (HO.out _).mono ?_
  rintro e w1 ⟨rfl,rfl⟩
  go_wp2_with fail
  go_quiet (fail)
  go_wp2_with fail
  go_ret
  exact ⟨rfl,((Kp.refl _ _).alloc _).drewN _⟩
theorem partCode_step (n:Nat) (ih:PCt n):PCt (n+1):=by
 intro w P op z nm L a c hT h hn
 by_cases hb:Rn.badF op z nm L.length
 ·rw [Rn.xf_bad hb]
  by_cases ho:op<1∨8<op
  ·exact partCode_no w op z nm L.length a c ho
  ·refine partCode_bad w hT op z nm L.length a c (by omega) (by omega) ?_
   rcases hb with h1|h1|h1
   ·exact absurd (.inl h1) ho
   ·exact absurd (.inr h1) ho
   ·exact h1
 ·rw [Rn.xf_ok hb]
  have hb':1≤op∧op≤8∧L.length=Rn.want op∧(z=0∨op=1)∧(nm=[]∨op=2):=by
   unfold Rn.badF at hb
   refine ⟨by omega,by omega,?_,by omega,?_⟩
   ·exact Decidable.byContradiction fun hc=>hb (.inr (.inr (.inl hc)))
   ·exact Decidable.byContradiction fun hc=>hb (.inr (.inr (.inr (.inr ⟨fun e=>hc (.inl e),fun e=>hc (.inr e)⟩))))
  clear hb
  obtain ⟨b1,b8,bl,bz,bn⟩:=hb'
  by_cases o1:op=1
  ·subst o1
   obtain rfl:nm=[]:=by simpa using bn
   obtain rfl:L=[]:=by simpa [Rn.want] using bl
   rw [if_neg (by omega)]
   exact partCode_num w hT z a c
  ·obtain rfl:z=0:=by omega
   by_cases o2:op=2
   ·subst o2
    obtain rfl:L=[]:=by simpa [Rn.want] using bl
    have e:(if (2:Int)=2∧Tk.isN nm=false then (4:Int) else if (0:Int)<0∨(1000000000000000000:Int)≤0 then 3 else Rn.firstOf (Rn.xf (n+1)) [])=if Tk.isN nm=false then 4 else 0:=by simp [Rn.firstOf]
    rw [e]
    exact partCode_name w hT nm a c hn.1
   ·obtain rfl:nm=[]:=by simpa [o2] using bn
    rw [if_neg (by omega),if_neg (by omega)]
    by_cases o3:op=3
    ·subst o3
     exact partCode_neg n ih w hT P L a c h hn (by simpa [Rn.want] using bl)
    ·exact partCode_op n ih w hT P op L a c h hn (by omega) b8 (by simpa [Rn.want,o1,o2,o3] using bl)
theorem partCode_any (n:Nat):PCt n:=by
 induction n with
 |zero=>intro w P op z nm L a c _ h;cases h
 |succ n ih=>exact partCode_step n ih
end Go.Proofs.YtcdcoiobpbdmpaaGreatDoor
namespace Go.Proofs.YtcdcoiobpbdmpaaGreatDoor
open Go.ChangeShapes Go.WideShapes Go.ChangeAt Go.WideMaps Go.WideElems Go.RowKit
theorem own:ownKnob Tryz.prog.godebug=none:=by kernel_rfl
theorem gWordsIs:Tryz.prog.globalNamed "pipewright/token.words" =some 0:=by kernel_rfl
theorem tWordsIs:(Tryz.prog.globals[0]?).map (·.type)=some 188:=by kernel_rfl
theorem gFormsIs:Tryz.prog.globalNamed "pipewright/render.forms" =some 1:=by kernel_rfl
theorem tFormsIs:(Tryz.prog.globals[1]?).map (·.type)=some 210:=by kernel_rfl
theorem gOperIs:Tryz.prog.globalNamed "pipewright/render.operations" =some 5:=by kernel_rfl
theorem tOperIs:(Tryz.prog.globals[5]?).map (·.type)=some 234:=by kernel_rfl
theorem tPowIs:(Tryz.prog.globals[6]?).map (·.type)=some 245:=by kernel_rfl
theorem gBitsIs:Tryz.prog.globalNamed "math/bits.deBruijn64tab" =some 8:=by kernel_rfl
theorem cells9:Tryz.prog.cellsOf 9=1:=by kernel_rfl
theorem cells3:Tryz.prog.cellsOf 3=1:=by kernel_rfl
theorem cellsOper:Tryz.prog.cellsOf 233=5:=by kernel_rfl
theorem cellsUlong:Tryz.prog.cellsOf 239=1:=by kernel_rfl
theorem cellsPow:Tryz.prog.cellsOf 245=20:=by kernel_rfl
theorem laid_pow:(Rows.laid_internal_strconv_uint64pow10:DataW Unit)=Lib.tabData .u64 Lib.pow10Tab:=by rfl
theorem cells_of_strs {H:Type} {enc:TypeId × Value→H} {P:Program} {w:World} {base:Nat} {sp:Nat→Bool} {held:Bool} {fuel:Nat} {t e:TypeId} {n:Nat} {cs:List Value} {bs:List (List UInt8)} {p:List MemPlace}
  (ht:P.underlying t=some (.array n e)) (he:P.underlying e=some .string) (hce:P.cellsOf e=1)
  (h:DataW.trod enc P w base sp held fuel t cs=some (.agg (bs.map fun (b:List UInt8)=>DataW.lit (.string b)),p)): ∀ (i:Nat) (b:List UInt8),bs[i]? =some b→cs[i]? =some (Value.string ⟨b.toArray⟩):=by
 intro i b hb
 obtain ⟨xs,m,_,hx,_,hn,hel⟩:=DataW.trod_array ht h
 simp only [Prod.mk.injEq,DataW.agg.injEq] at hx
 have hxs:=hx.1
 have hi:i<bs.length:=(List.getElem?_eq_some_iff.1 hb).1
 have hl:bs.length=xs.length:=by
  have:=congrArg List.length hxs
  simpa using this
 have h1:=hel i (by omega)
 rw [hce] at h1
 have hix:i<xs.length:=by omega
 rw [List.getElem?_eq_getElem hix] at h1
 obtain ⟨s,hc,hxe,_⟩:=DataW.trod_string he h1
 have h2:(bs.map fun b=>(DataW.lit (.string b):DataW H))[i]? =(xs.map (·.1))[i]? :=by rw [hxs]
 rw [List.getElem?_map,List.getElem?_map,hb,List.getElem?_eq_getElem hix,hxe] at h2
 simp at h2
 have h3:cs[i]? =some (.string s):=by
  have:=congrArg (·[0]?) hc
  simpa [List.getElem?_take,List.getElem?_drop] using this
 rw [h3,h2]
def Rn.opD {H:Type} (o:Int × List UInt8 × Int × Int × Int):DataW H:= .agg [.lit (.int .i64 o.1),.lit (.string o.2.1),.lit (.int .i64 o.2.2.1),.lit (.int .i64 o.2.2.2.1),.lit (.int .i64 o.2.2.2.2)]
theorem laid_oper:(Rows.laid_pipewright_render_operations:DataW Unit)= .agg (Rn.opers.map Rn.opD):=by rfl
theorem cells_of_opers {W:World} {base:Nat} {sp:Nat→Bool} {held:Bool} {fuel:Nat} {cs:List Value} {p:List MemPlace} {enc:TypeId × Value→Unit}
  (h:DataW.trod enc Tryz.prog W base sp held fuel 234 cs=some (.agg (Rn.opers.map Rn.opD),p)): ∀ (i:Nat) o,Rn.opers[i]? =some o→cs[i * 5]? =some (.int .i64 o.1)∧cs[i * 5+1]? =some (.string (bs o.2.1))∧cs[i * 5+2]? =some (.int .i64 o.2.2.1)∧cs[i * 5+3]? =some (.int .i64 o.2.2.2.1)∧cs[i * 5+4]? =some (.int .i64 o.2.2.2.2):=by
 intro i o hb
 obtain ⟨xs,m,_,hx,_,hn,hel⟩:=DataW.trod_array Tryz.underlying234 h
 simp only [Prod.mk.injEq,DataW.agg.injEq] at hx
 have hxs:=hx.1
 have hi:i<Rn.opers.length:=(List.getElem?_eq_some_iff.1 hb).1
 have hl:Rn.opers.length=xs.length:=by
  have:=congrArg List.length hxs
  simpa using this
 have h1:=hel i (by omega)
 rw [cellsOper] at h1
 have hix:i<xs.length:=by omega
 rw [List.getElem?_eq_getElem hix] at h1
 have h2:(Rn.opers.map (Rn.opD (H:=Unit)))[i]? =(xs.map (·.1))[i]? :=by rw [hxs]
 rw [List.getElem?_map,List.getElem?_map,hb,List.getElem?_eq_getElem hix] at h2
 have h3:Rn.opD o=xs[i].1:=by simpa using h2
 obtain ⟨ys,n,_,hy,_,hlen,hf⟩:=DataW.trod_struct Tryz.underlying233 h1
 have hlen5:ys.length=5:=hlen
 rw [hy] at h3
 match ys,hlen5 with
 |[y0,y1,y2,y3,y4],_=>
  simp only [Rn.opD,List.map_cons,List.map_nil,DataW.agg.injEq,List.cons.injEq,and_true] at h3
  obtain ⟨e0,e1,e2,e3,e4⟩:=h3
  have g0:DataW.trod enc Tryz.prog W base sp held n 3 ((((cs.drop (i * 5)).take 5).drop 0).take (Tryz.prog.cellsOf 3))=some y0:=hf 0 _ rfl
  rw [cells3] at g0
  have g1:DataW.trod enc Tryz.prog W base sp held n 9 ((((cs.drop (i * 5)).take 5).drop 1).take (Tryz.prog.cellsOf 9))=some y1:=hf 1 _ rfl
  rw [cells9] at g1
  have g2:DataW.trod enc Tryz.prog W base sp held n 3 ((((cs.drop (i * 5)).take 5).drop 2).take (Tryz.prog.cellsOf 3))=some y2:=hf 2 _ rfl
  rw [cells3] at g2
  have g3:DataW.trod enc Tryz.prog W base sp held n 3 ((((cs.drop (i * 5)).take 5).drop 3).take (Tryz.prog.cellsOf 3))=some y3:=hf 3 _ rfl
  rw [cells3] at g3
  have g4:DataW.trod enc Tryz.prog W base sp held n 3 ((((cs.drop (i * 5)).take 5).drop 4).take (Tryz.prog.cellsOf 3))=some y4:=hf 4 _ rfl
  rw [cells3] at g4
  obtain ⟨k0,c0,d0,_⟩:=DataW.trod_int Tryz.underlying3 g0
  obtain ⟨k1,c1,d1,_⟩:=DataW.trod_string Tryz.underlying9 g1
  obtain ⟨k2,c2,d2,_⟩:=DataW.trod_int Tryz.underlying3 g2
  obtain ⟨k3,c3,d3,_⟩:=DataW.trod_int Tryz.underlying3 g3
  obtain ⟨k4,c4,d4,_⟩:=DataW.trod_int Tryz.underlying3 g4
  rw [d0] at e0
  rw [d1] at e1
  rw [d2] at e2
  rw [d3] at e3
  rw [d4] at e4
  simp only [DataW.lit.injEq,Lit.int.injEq,Lit.string.injEq,true_and] at e0 e1 e2 e3 e4
  have q0:=congrArg (·[0]?) c0
  have q1:=congrArg (·[0]?) c1
  have q2:=congrArg (·[0]?) c2
  have q3:=congrArg (·[0]?) c3
  have q4:=congrArg (·[0]?) c4
  simp [List.getElem?_drop] at q0 q1 q2 q3 q4
  rw [q0,q1,q2,q3,q4,e0,e1,e2,e3,e4]
  simp [bs]
theorem laid_forms:(Rows.laid_pipewright_render_forms:DataW Unit)= .agg (Rn.forms.map fun (b:List UInt8)=>DataW.lit (.string b)):=by rfl
theorem laid_words:(Rows.laid_pipewright_token_words:DataW Unit)= .agg (Tk.words.map fun (b:List UInt8)=>DataW.lit (.string b)):=by rfl
theorem tb_of_laid {W:World} (h:laidMetH Tryz.prog [("math/bits.deBruijn32tab",Rows.laid_math_bits_deBruijn32tab),("math/bits.deBruijn64tab",Rows.laid_math_bits_deBruijn64tab),("internal/strconv.uint64pow10",Rows.laid_internal_strconv_uint64pow10),("unicode/utf8.acceptRanges",Rows.laid_unicode_utf8_acceptRanges),("pipewright/token.words",Rows.laid_pipewright_token_words),("pipewright/render.forms",Rows.laid_pipewright_render_forms),("pipewright/render.operations",Rows.laid_pipewright_render_operations),("unicode/utf8.first",Rows.laid_unicode_utf8_first)] W):Tb W:=by
 rw [MakeChecks.laidMetH_plain _ _ _ (by kernel_rfl)] at h
 obtain ⟨ps,⟨_,_,_,_,_,_,_,_,_,_,⟨g1,t1,cs1,f1,p1,q1,hg1,ht1,hv1,hd1,⟨g2,t2,cs2,f2,p2,q2,hg2,ht2,hv2,hd2,⟨_,_,_,_,_,_,_,_,_,_,⟨g4,t4,cs4,f4,p4,q4,hg4,ht4,hv4,hd4,⟨g5,t5,cs5,f5,p5,q5,hg5,ht5,hv5,hd5,⟨g6,t6,cs6,f6,p6,q6,hg6,ht6,hv6,hd6,_,_⟩,_⟩,_⟩,_⟩,_⟩,_⟩,_⟩,_⟩:=h
 obtain rfl:=Option.some.inj (gPowIs.symm.trans hg2)
 obtain rfl:=Option.some.inj (tPowIs.symm.trans ht2)
 obtain rfl:=Option.some.inj (gWordsIs.symm.trans hg4)
 obtain rfl:=Option.some.inj (tWordsIs.symm.trans ht4)
 obtain rfl:=Option.some.inj (gFormsIs.symm.trans hg5)
 obtain rfl:=Option.some.inj (tFormsIs.symm.trans ht5)
 obtain rfl:=Option.some.inj (gOperIs.symm.trans hg6)
 obtain rfl:=Option.some.inj (tOperIs.symm.trans ht6)
 have hw: ∀ (i:Nat) b,Tk.words[i]? =some b→W.cell? ⟨0,i,none⟩=some (.string (bs b)):=by
  intro i b hb
  have h1:=cells_of_strs (bs:=Tk.words) Tryz.underlying188 Tryz.underlying9 cells9 (by rw [←laid_words];exact hd4) i b hb
  have h2:=World.var?_cell hg4 hv4 i
  rw [h2]
  simpa [bs] using h1
 refine ⟨⟨World.block_lt_of_cell? W ⟨0,5,none⟩ (hw 5 _ rfl),hw⟩,?_,?_,?_,?_⟩
 ·unfold World.var? at hv1
  rw [gBitsIs] at hv1
  simp only [Option.bind_some] at hv1
  rcases Nat.lt_or_ge 8 W.heap.size with h'|h'
  ·omega
  ·rw [Array.getElem?_eq_none h'] at hv1;cases hv1
 ·have h1:=Lib.cells_of_tab (zs:=Lib.pow10Tab) (k:= .u64) Tryz.underlying245 Tryz.underlying239 cellsUlong cellsPow (by rw [←laid_pow];exact hd2)
  unfold Lib.TabIs
  rw [hv2,←h1]
 ·intro i b hb
  have h1:=cells_of_strs (bs:=Rn.forms) Tryz.underlying210 Tryz.underlying9 cells9 (by rw [←laid_forms];exact hd5) i b hb
  have h2:=World.var?_cell hg5 hv5 i
  rw [h2]
  simpa [bs] using h1
 ·intro i o ho
  obtain ⟨a0,a1,a2,a3,a4⟩:=cells_of_opers (by rw [←laid_oper];exact hd6) i o ho
  exact ⟨by rw [World.var?_cell hg6 hv6];simpa using a0,by rw [World.var?_cell hg6 hv6];simpa using a1,by rw [World.var?_cell hg6 hv6];simpa using a2,by rw [World.var?_cell hg6 hv6];simpa using a3,by rw [World.var?_cell hg6 hv6];simpa using a4⟩
end Go.Proofs.YtcdcoiobpbdmpaaGreatDoor
