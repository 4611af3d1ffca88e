import Derived.Test.YtcdcoiobpbdmpaaGreatDoorMae
import Derived.Lib.Builder
import Derived.Lib.AppendStr
import Derived.Lib.UnsafeStr
import Derived.Lib.OthersKept
import Derived.Laws.Externs
import Derived.Test.YtcdcoiobpbdmpaaGreatDoorMag
namespace Go.Proofs.YtcdcoiobpbdmpaaGreatDoor
open Go.RowKit
theorem Tryz.sizeBuilder:(Tryz.prog.info? 140).map (·.size)=some 2:=by kernel_rfl
theorem Tryz.liesPage:liesAt Tryz.prog Tryz.prog.depth 142 (3 / Tryz.prog.cellsOf 142) 0 140 1=true:=by kernel_rfl
theorem Tryz.infoByte:(Tryz.prog.info? 5).map (fun i=>(i.zero,i.size,i.bytes))=some (some (.int .u8 0),1,1):=by kernel_rfl
theorem Tryz.cellsByte:Tryz.prog.cellsOf 5=1:=by kernel_rfl
structure PG (w0:World) (pb:Nat) (x:List UInt8) (k:Nat) (w:World):Prop where
 below:Below w0.heap.size w0 w
 home:w0.heap.size≤pb
 is: ∃ p v,(p= .pointer none∨p= .pointer (some ⟨pb,0,none⟩))∧w.heap[pb]? =some (.cells #[p,v,.int .i64 k] 142 (0,0))∧w.ownsRow w0.heap.size 5 1 v x.length (Lib.byteCells x)∧v.ownBlock ≠ some pb
theorem PG.kp {w0 w:World} {pb k:Nat} {x:List UInt8} (h:PG w0 pb x k w) (S:List Nat):Kp S w0 w:=Kp.of_below h.below
theorem PG.lt {w0 w:World} {pb k:Nat} {x:List UInt8} (h:PG w0 pb x k w):pb<w.heap.size:=by
 obtain ⟨p,v,_,hb,_⟩:=h.is
 rcases Nat.lt_or_ge pb w.heap.size with h'|h'
 ·exact h'
 ·simp [Array.getElem?_eq_none h'] at hb
theorem PG.size {w0 w:World} {pb k:Nat} {x:List UInt8} (h:PG w0 pb x k w):w0.heap.size≤w.heap.size:=h.below.size
theorem PG.kept {w0 w w':World} {pb k:Nat} {x:List UInt8} (h:PG w0 pb x k w) (hk:Kp [] w w'):PG w0 pb x k w':=by
 have hlt:=h.lt
 obtain ⟨p,v,hp,hb,hown,hne⟩:=h.is
 refine ⟨?_,h.home,p,v,hp,(hk.block pb hlt (by simp)).trans hb,?_,hne⟩
 ·have hb:=h.below
  exact ⟨hk.os.trans hb.os,hk.tape.trans hb.tape,hk.output.trans hb.output,Nat.le_trans hb.size hk.size,fun j hj=>(hk.block j (Nat.lt_of_lt_of_le hj hb.size) (by simp)).trans (hb.block j hj)⟩
 ·exact hown.kept (row:=none) ⟨hk.os,hk.tape,hk.output,hk.size,fun j hj _=>hk.block j hj (by simp)⟩ (by cases v.ownBlock<;> simp)
theorem PG.alloc {w0 w:World} {pb k:Nat} {x:List UInt8} (h:PG w0 pb x k w) (o:Obj):PG w0 pb x k (w.alloc o):=h.kept ((Kp.refl [] w).alloc o)
theorem PG.put {w0 w:World} {pb k:Nat} {p v v':Value} {x:List UInt8} (hbl:Below w0.heap.size w0 w) (hB:w0.heap.size≤pb) (hp:p= .pointer none∨p= .pointer (some ⟨pb,0,none⟩)) (hb:w.heap[pb]? =some (.cells #[p,v,.int .i64 k] 142 (0,0))) (hown:w.ownsRow w0.heap.size 5 1 v' x.length (Lib.byteCells x)):
  PG w0 pb x k (w.setCell ⟨pb,1,none⟩ v'):=by
 have hne:=Lib.ownBlock_ne hown hb (by decide)
 refine ⟨hbl.setCell (p:=⟨pb,1,none⟩) hB _,hB,p,v',hp,?_,?_,hne⟩
 ·simp [World.setCell,Array.getElem?_modify,hb]
 ·exact hown.kept (row:=some pb) ⟨rfl,rfl,rfl,by simp [World.setCell],fun k _ hk=>Below.heap_setCell _ _ _ _ (fun e=>hk (by simp [e]))⟩ (Or.inr hne)
theorem PG.deep {w0 w:World} {pb k k':Nat} {x:List UInt8} (h:PG w0 pb x k w):PG w0 pb x k' (w.setCell ⟨pb,2,none⟩ (.int .i64 k')):=by
 obtain ⟨p,v,hp,hb,hown,hne⟩:=h.is
 refine ⟨h.below.setCell (p:=⟨pb,2,none⟩) h.home _,h.home,p,v,hp,?_,?_,hne⟩
 ·simp [World.setCell,Array.getElem?_modify,hb]
 ·exact hown.kept (row:=some pb) ⟨rfl,rfl,rfl,by simp [World.setCell],fun k _ hk=>Below.heap_setCell _ _ _ _ (fun e=>hk (by simp [e]))⟩ (Or.inr hne)
theorem PG.blocks {w0 w:World} {pb k:Nat} {x:List UInt8} (h:PG w0 pb x k w):w.cell? ⟨pb,2,none⟩=some (.int .i64 k):=by
 obtain ⟨p,v,hp,hb,hown,hne⟩:=h.is
 rw [Lib.cell_of_heap hb];rfl
theorem PG.loose {w0 w:World} {pb k:Nat} {x:List UInt8} (h:PG w0 pb x k w) (j:Nat):w.frozen? ⟨pb,j,none⟩=false:=by
 obtain ⟨p,v,hp,hb,hown,hne⟩:=h.is
 exact Lib.frozen_of_heap hb j
theorem PG.new (w0:World):PG w0 w0.heap.size [] 0 (w0.alloc (.cells #[.pointer none,.slice none 0 0,.int .i64 0] 142)):=
 ⟨(Below.refl _ _).alloc (Nat.le_refl _) _,Nat.le_refl _,.pointer none,.slice none 0 0,.inl rfl,heap_alloc_new w0 _,World.ownsRow_nil _ _ _ _,by simp [Value.ownBlock]⟩
def Fr (pb:Nat) (w w':World):Prop:=Lib.OthersKept 5 (some pb) w w'
theorem Fr.refl (pb:Nat) (w:World):Fr pb w w:=Lib.OthersKept.refl _ _ w
theorem Fr.trans {pb:Nat} {a b c:World} (h:Fr pb a b) (k:Fr pb b c):Fr pb a c:=Lib.OthersKept.trans h k
theorem Fr.alloc {pb:Nat} {a b:World} (h:Fr pb a b) (o:Obj):Fr pb a (b.alloc o):=Lib.OthersKept.alloc h o
theorem Fr.page {pb:Nat} {a b:World} (h:Fr pb a b) (o:Nat) (v:Value):Fr pb a (b.setCell ⟨pb,o,none⟩ v):=Lib.OthersKept.setCell h ⟨pb,o,none⟩ rfl v
theorem Fr.of_kp {pb:Nat} {a b:World} (h:Kp [] a b):Fr pb a b:=by
 intro k o hk _ _
 exact (h.block k (Array.getElem?_eq_some_iff.1 hk).1 (by simp)).trans hk
theorem Fr.heap {pb b:Nat} {w w':World} {cs:Array Value} {T:TypeId} {fr:Nat × Nat} (h:Fr pb w w') (hb:w.heap[b]? =some (.cells cs T fr)) (hne:b ≠ pb) (hT:T ≠ 5):w'.heap[b]? =some (.cells cs T fr):=
 h b _ hb (fun e=>hne (Option.some.inj e)) (fun c fz e=>hT (by cases e;rfl))
theorem own_kind {w:World} {B:Nat} {e:TypeId} {v:Value} {n:Nat} {xs:List Value} (h:w.ownsRow B e 1 v n xs): ∀ g,v.ownBlock=some g→ ∃ c fz,w.heap[g]? =some (.cells c e fz):=by
 intro g hg
 rcases h.2 with ⟨rfl,_⟩|⟨g',cap,cur,rfl,_,hgg,_⟩
 ·simp [Value.ownBlock] at hg
 ·simp [Value.ownBlock] at hg
  subst hg
  exact ⟨_,_,hgg⟩
set_option maxHeartbeats 400000 in
set_option maxRecDepth 100000 in
theorem pcheck_used (b:Nat) (w:World) (h0:w.cell? ⟨b,0,none⟩=some (.pointer (some ⟨b,0,none⟩))):
  Calls Tryz.prog 151 #[.pointer (some ⟨b,0,none⟩)] w fun e w'=>e= .returned (.tuple #[])∧w'=w:=by
 obtain ⟨j,hj,_⟩:=Option.map_eq_some_iff.1 Tryz.sizeBuilder
 go_enter Tryz.func151,Tryz.ntmps151
 go_wp2
 rw [Lib.run_neq_ptr_same w _ Tryz.underlying137 hj]
 go_wp2
 go_end0
 exact ⟨rfl,rfl⟩
set_option maxHeartbeats 400000 in
set_option maxRecDepth 100000 in
theorem pcheck_fresh (b:Nat) (w:World) (h0:w.cell? ⟨b,0,none⟩=some (.pointer none)) (hsh:w.shape? b=some (142,3)) (hfz:w.frozen? ⟨b,0,none⟩=false):
  Calls Tryz.prog 151 #[.pointer (some ⟨b,0,none⟩)] w fun e w'=>e= .returned (.tuple #[])∧w'=w.setCell ⟨b,0,none⟩ (.pointer (some ⟨b,0,none⟩)):=by
 obtain ⟨j,hj,hjs⟩:=Option.map_eq_some_iff.1 Tryz.sizeBuilder
 go_enter Tryz.func151,Tryz.ntmps151
 go_wp2
 rw [Lib.run_to_unsafe w ⟨b,0,none⟩ Tryz.underlying137 Tryz.underlying222 hj (by rw [hjs];decide) hsh (Nat.zero_lt_succ 2)]
 simp only [Result.andThen]
 rw [Oper.upon_value]
 go_wp2
 rw [run_callFunc_extern Tryz.func173 (by kernel_rfl) (by kernel_rfl) (by kernel_rfl) (e:=Extern.AbiNoEscape.same) (by kernel_rfl)]
 rw [Lib.run_noEscape]
 simp only [Result.andThen]
 rw [Oper.upon_value]
 go_wp2
 rw [Lib.run_from_unsafe w ⟨b,0,none⟩ Tryz.underlying222 Tryz.underlying137 hj hsh Tryz.liesPage]
 simp only [Result.andThen]
 rw [Oper.upon_value]
 go_wp2
 go_end0
 exact ⟨rfl,rfl⟩
def PU (w0:World) (pb:Nat) (x:List UInt8) (k:Nat) (w:World):Prop:=
 Below w0.heap.size w0 w∧w0.heap.size≤pb∧ ∃ v,w.heap[pb]? =some (.cells #[.pointer (some ⟨pb,0,none⟩),v,.int .i64 k] 142 (0,0))∧w.ownsRow w0.heap.size 5 1 v x.length (Lib.byteCells x)∧v.ownBlock ≠ some pb
theorem pcheck_any {w0 w:World} {pb k:Nat} {x:List UInt8} (h:PG w0 pb x k w):
  Calls Tryz.prog 151 #[.pointer (some ⟨pb,0,none⟩)] w fun e w'=>e= .returned (.tuple #[])∧PU w0 pb x k w'∧Fr pb w w':=by
 obtain ⟨p,v,hp,hb,hown,hne⟩:=h.is
 rcases hp with rfl|rfl
 ·refine (pcheck_fresh pb w (by rw [Lib.cell_of_heap hb];rfl) (by simp [World.shape?,hb]) (Lib.frozen_of_heap hb 0)).mono ?_
  rintro e w' ⟨rfl,rfl⟩
  refine ⟨rfl,⟨h.below.setCell (p:=⟨pb,0,none⟩) h.home _,h.home,v,?_,?_,hne⟩,(Fr.refl _ _).page _ _⟩
  ·simp [World.setCell,Array.getElem?_modify,hb]
  ·exact hown.kept (row:=some pb) ⟨rfl,rfl,rfl,by simp [World.setCell],fun k _ hk=>Below.heap_setCell _ _ _ _ (fun e=>hk (by simp [e]))⟩ (Or.inr hne)
 ·refine (pcheck_used pb w (by rw [Lib.cell_of_heap hb];rfl)).mono ?_
  rintro e w' ⟨rfl,rfl⟩
  exact ⟨rfl,⟨h.below,h.home,v,hb,hown,hne⟩,Fr.refl _ _⟩
set_option maxHeartbeats 400000 in
set_option maxRecDepth 100000 in
theorem pWriteString {w0 w:World} {pb k:Nat} {x:List UInt8} (s:List UInt8) (h:PG w0 pb x k w) (hlen:x.length+s.length≤140737488355328):
  Calls Tryz.prog 131 #[.pointer (some ⟨pb,0,none⟩),.string (bs s)] w fun e w'=>e= .returned (.tuple #[.int .i64 s.length,.nilIface])∧PG w0 pb (x++s) k w'∧Fr pb w w':=by
 obtain ⟨i0,hi,hz0,hz1,hz2⟩:=info_parts Tryz.infoByte
 have zs:=bsz s
 go_enter Tryz.func131,Tryz.ntmps131
 go_wp2_with fail
 refine (pcheck_any h).mono ?_
 rintro e w1 ⟨rfl,⟨hb1,hB,v,hbk,hown,hne⟩,hk1⟩
 have c0:w1.cell? ⟨pb,0,none⟩=some (.pointer (some ⟨pb,0,none⟩)):=by rw [Lib.cell_of_heap hbk];rfl
 have c1:w1.cell? ⟨pb,1,none⟩=some v:=by rw [Lib.cell_of_heap hbk];rfl
 go_wp2_with (at_builtin;refine Lib.wpList_append_own_string _ rfl _ _ 138 9 rfl w0.heap.size 5 i0 Tryz.underlying138 Tryz.underlying9 hi hz0 hz1 hz2 _ _ _ rfl hown (bs s) rfl ?c3 ?c4 ?c5 ?_)
 case c3=>unfold maxLen;omega
 case c4=>omega
 case c5=>have:=hb1.size;omega
 intro v' w2 hown' hgrow _
 have hlt:pb<w1.heap.size:=by
  rcases Nat.lt_or_ge pb w1.heap.size with h'|h'
  ·exact h'
  ·simp [Array.getElem?_eq_none h'] at hbk
 have hb2:w2.heap[pb]? =some (.cells #[.pointer (some ⟨pb,0,none⟩),v,.int .i64 k] 142 (0,0)):=by
  rw [hgrow.block pb hlt (fun e=>hne e.symm)]
  exact hbk
 have d0:w2.cell? ⟨pb,0,none⟩=some (.pointer (some ⟨pb,0,none⟩)):=by rw [Lib.cell_of_heap hb2];rfl
 have d1:w2.cell? ⟨pb,1,none⟩=some v:=by rw [Lib.cell_of_heap hb2];rfl
 have f1:w2.frozen? ⟨pb,1,none⟩=false:=Lib.frozen_of_heap hb2 1
 obtain ⟨ao,n',cap,rfl⟩: ∃ ao n' cap,v'= .slice ao n' cap:=by
  rcases hown'.2 with ⟨hv,_⟩|⟨g,cap,cur,hv,_⟩
  ·exact ⟨_,_,_,hv⟩
  ·exact ⟨_,_,_,hv⟩
 go_wp2
 go_ret2
 refine ⟨rfl,PG.put (hb1.grown hgrow (by have:=hb1.size;omega) (fun k hk=>(hown.lt k hk).1)) hB (.inr rfl) hb2 ?_,Fr.page (Lib.OthersKept.grown hk1 hgrow (own_kind hown)) _ _⟩
 rw [Lib.byteCells_append,List.length_append]
 rw [Lib.strCells_eq,bs_list] at hown'
 exact hown'
set_option maxHeartbeats 400000 in
set_option maxRecDepth 100000 in
theorem pWriteByte {w0 w:World} {pb k:Nat} {x:List UInt8} (c:UInt8) (h:PG w0 pb x k w) (hlen:x.length+1≤140737488355328):
  Calls Tryz.prog 130 #[.pointer (some ⟨pb,0,none⟩),.int .u8 c.toNat] w fun e w'=>e= .returned .nilIface∧PG w0 pb (x++[c]) k w'∧Fr pb w w':=by
 obtain ⟨i0,hi,hz0,hz1,hz2⟩:=info_parts Tryz.infoByte
 go_enter Tryz.func130,Tryz.ntmps130
 go_wp2_with fail
 refine (pcheck_any h).mono ?_
 rintro e w1 ⟨rfl,⟨hb1,hB,v,hbk,hown,hne⟩,hk1⟩
 have c0:w1.cell? ⟨pb,0,none⟩=some (.pointer (some ⟨pb,0,none⟩)):=by rw [Lib.cell_of_heap hbk];rfl
 have c1:w1.cell? ⟨pb,1,none⟩=some v:=by rw [Lib.cell_of_heap hbk];rfl
 go_wp2_with (at_builtin;refine wpList_append_own _ rfl _ _ 138 rfl w0.heap.size 5 i0 (.int .u8 0) 1 1 Tryz.underlying138 hi hz0 hz1 hz2 rfl (by decide) _ _ _ rfl (hown.alloc _) ⟨w1.heap.size,0,none⟩ 1 1 [.int .u8 c.toNat] rfl rfl ?c1 ?c2 ?c3 ?c4 ?c5 ?_)
 case c1=>
  intro j u hj
  match j,hj with
  |0,hj=>simp at hj;subst hj;simp [Addr.add]
 case c2=>intro u hu;simp at hu;subst hu;rfl
 case c3=>unfold maxLen;omega
 case c4=>omega
 case c5=>have:=hb1.size;simp;omega
 intro v' w2 hown' hgrow _
 have hlt:pb<w1.heap.size:=by
  rcases Nat.lt_or_ge pb w1.heap.size with h'|h'
  ·exact h'
  ·simp [Array.getElem?_eq_none h'] at hbk
 have hb2:w2.heap[pb]? =some (.cells #[.pointer (some ⟨pb,0,none⟩),v,.int .i64 k] 142 (0,0)):=by
  rw [hgrow.block pb (by simp;omega) (fun e=>hne e.symm),Lib.alloc_old w1 _ pb hlt]
  exact hbk
 have d0:w2.cell? ⟨pb,0,none⟩=some (.pointer (some ⟨pb,0,none⟩)):=by rw [Lib.cell_of_heap hb2];rfl
 have d1:w2.cell? ⟨pb,1,none⟩=some v:=by rw [Lib.cell_of_heap hb2];rfl
 have f1:w2.frozen? ⟨pb,1,none⟩=false:=Lib.frozen_of_heap hb2 1
 obtain ⟨ao,n',cap,rfl⟩: ∃ ao n' cap,v'= .slice ao n' cap:=by
  rcases hown'.2 with ⟨hv,_⟩|⟨g,cap,cur,hv,_⟩
  ·exact ⟨_,_,_,hv⟩
  ·exact ⟨_,_,_,hv⟩
 have hkind: ∀ g,v.ownBlock=some g→ ∃ c' fz,(w1.alloc (Obj.cells #[Value.int IntKind.u8 c.toNat] 5)).heap[g]? =some (.cells c' 5 fz):=own_kind (hown.alloc _)
 go_wp2
 go_ret
 refine ⟨rfl,PG.put ((hb1.alloc (by have:=hb1.size;omega) _).grown hgrow (by have:=hb1.size;simp;omega) (fun k hk=>(hown.lt k hk).1)) hB (.inr rfl) hb2 ?_,Fr.page (Lib.OthersKept.grown (hk1.alloc _) hgrow hkind) _ _⟩
 rw [Lib.byteCells_append,List.length_append]
 exact hown'
set_option maxHeartbeats 400000 in
set_option maxRecDepth 100000 in
theorem pLen {w0 w:World} {pb k:Nat} {x:List UInt8} (h:PG w0 pb x k w):
  Calls Tryz.prog 69 #[.pointer (some ⟨pb,0,none⟩)] w fun e w'=>e= .returned (.int .i64 x.length)∧w'=w:=by
 obtain ⟨p,v,hp,hbk,hown,hne⟩:=h.is
 obtain ⟨ao,cap,rfl⟩: ∃ ao cap,v= .slice ao x.length cap:=by
  rcases hown.2 with ⟨hv,h0⟩|⟨g,cap,cur,hv,_⟩
  ·exact ⟨none,0,by rw [hv,h0]⟩
  ·exact ⟨_,_,hv⟩
 have c1:w.cell? ⟨pb,1,none⟩=some (.slice ao x.length cap):=by rw [Lib.cell_of_heap hbk];rfl
 go_enter Tryz.func69,Tryz.ntmps69
 go_wp2
 go_ret
 exact ⟨rfl,rfl⟩
end Go.Proofs.YtcdcoiobpbdmpaaGreatDoor
namespace Go.Proofs.YtcdcoiobpbdmpaaGreatDoor
open Go.RowKit
def TX (pb:Nat) (l:List (List UInt8)) (a:Option Addr) (w:World):Prop:=
 l=[]∨ ∃ tb,a=some ⟨tb,0,none⟩∧tb ≠ pb∧w.heap[tb]? =some (.cells (l.map fun s=>Value.string (bs s)).toArray 9 (0,0))
theorem TX.keep {pb:Nat} {l:List (List UInt8)} {a:Option Addr} {w w':World} (h:TX pb l a w) (hk:Fr pb w w'):TX pb l a w':=by
 rcases h with h|⟨tb,h1,h2,h3⟩
 ·exact .inl h
 ·exact .inr ⟨tb,h1,h2,hk.heap h3 h2 (by decide)⟩
theorem TX.nth {pb:Nat} {l:List (List UInt8)} {a:Option Addr} {w:World} (h:TX pb l a w) {i:Nat} {s:List UInt8} (hi:l[i]? =some s): ∃ tb,a=some ⟨tb,0,none⟩∧w.cell? ⟨tb,i,none⟩=some (.string (bs s)):=by
 rcases h with rfl|⟨tb,h1,h2,h3⟩
 ·simp at hi
 ·refine ⟨tb,h1,?_⟩
  rw [Lib.cell_of_heap h3]
  simp [hi]
theorem TX.new {pb:Nat} (l:List (List UInt8)) (w:World) (h:pb<w.heap.size):TX pb l (some ⟨w.heap.size,0,none⟩) (w.alloc (.cells (l.map fun s=>Value.string (bs s)).toArray 9)):=
 .inr ⟨_,rfl,by omega,heap_alloc_new w _⟩
theorem TX.new' {pb:Nat} (l:List (List UInt8)) (w:World) (m:Nat) (hm:w.heap.size=m) (h:pb<w.heap.size):TX pb l (some ⟨m,0,none⟩) (w.alloc (.cells (l.map fun s=>Value.string (bs s)).toArray 9)):=by
 subst hm
 exact TX.new l w h
theorem flat_take {l:List (List UInt8)} {i:Nat} {s:List UInt8} (h:l[i]? =some s):(l.take (i+1)).flatten=(l.take i).flatten++s:=by
 rw [List.take_add_one,h]
 simp
theorem flat_le (l:List (List UInt8)) (i:Nat):(l.take i).flatten.length≤l.flatten.length:=by
 have:=congrArg List.length (congrArg List.flatten (List.take_append_drop i l))
 rw [List.flatten_append,List.length_append] at this
 omega
set_option maxHeartbeats 400000 in
set_option maxRecDepth 100000 in
theorem pAdd {w0 w:World} {pb k:Nat} {x:List UInt8} (l:List (List UInt8)) (a:Option Addr) (c:Nat) (h:PG w0 pb x k w) (ht:TX pb l a w) (hlen:x.length+l.flatten.length≤140737488355328) (hl:l.length≤1000000000):
  Calls Tryz.prog 102 #[.pointer (some ⟨pb,0,none⟩),.slice a l.length c] w fun e w'=>e= .returned (.tuple #[])∧PG w0 pb (x++l.flatten) k w'∧Fr pb w w':=by
 have H:=hide h
 have HT:=hide ht
 clear h ht
 go_enter Tryz.func102,Tryz.ntmps102
 go_wp2_with fail
 go_loopw [8] (fun iv wr=> ∃ (i:Nat),i≤l.length∧iv= .int .i64 i∧Hid (PG w0 pb (x++(l.take i).flatten) k wr)∧Hid (Fr pb w wr)) (fun iv _=>l.length - (intOf iv).toNat)
 case atStart=>exact ⟨0,Nat.zero_le _,rfl,by simpa using H,Fr.refl _ _⟩
 case round=>
  obtain ⟨i,hi,rfl,HP,HF⟩:=hrel
  by_cases hlt:i<l.length
  ·have d1:decide ((i:Int)<(l.length:Int))=true:=by simp;omega
   obtain ⟨s,hs⟩: ∃ s,l[i]? =some s:=⟨_,List.getElem?_eq_getElem hlt⟩
   obtain ⟨tb,rfl,c1⟩:=(HT.out.keep HF.out).nth hs
   have hk0:(0:Int)≤(i:Int):=by omega
   have hk1:(i:Int)<(l.length:Int):=by omega
   have HC:=hide (pWriteString s HP.out (by have:=flat_le l (i+1);rw [flat_take hs] at this;simp only [List.length_append] at this ⊢;omega))
   go_wp2_with fail
   refine HC.out.mono ?_
   rintro e w2 ⟨rfl,h2,hf2⟩
   have H2:=hide h2
   have F2:=hide (HF.out.trans hf2)
   clear h2 hf2
   go_wp2
   go_roundw
   case rel=>exact ⟨i+1,by omega,by go_num,by rw [flat_take hs,←List.append_assoc];exact H2,F2⟩
   case measure=>simp [intOf];omega
  ·obtain rfl:i=l.length:=by omega
   have d1:decide ((l.length:Int)<(l.length:Int))=false:=by simp
   rw [List.take_length] at HP
   go_wp2
   go_end0
   exact ⟨rfl,HP.out,HF.out⟩
set_option maxHeartbeats 400000 in
set_option maxRecDepth 100000 in
theorem pBegin {w0 w:World} {pb k:Nat} {x:List UInt8} (l:List (List UInt8)) (a:Option Addr) (c:Nat) (h:PG w0 pb x k w) (ht:TX pb l a w) (hlen:x.length+k+l.flatten.length≤140737488355328) (hl:l.length≤1000000000):
  Calls Tryz.prog 100 #[.pointer (some ⟨pb,0,none⟩),.slice a l.length c] w fun e w'=>e= .returned (.tuple #[])∧PG w0 pb (x++Rn.tabs k++l.flatten) k w'∧Fr pb w w':=by
 have H:=hide h
 have HT:=hide ht
 have hb:=h.blocks
 clear h ht
 go_enter Tryz.func100,Tryz.ntmps100
 go_wp2_with fail
 go_loopw [8] (fun iv wr=> ∃ (i:Nat),i≤k∧iv= .int .i64 i∧Hid (PG w0 pb (x++Rn.tabs i) k wr)∧Hid (Fr pb w wr)) (fun iv _=>k - (intOf iv).toNat)
 case atStart=>exact ⟨0,Nat.zero_le _,rfl,by simpa [Rn.tabs] using H,Fr.refl _ _⟩
 case round=>
  obtain ⟨i,hi,rfl,HP,HF⟩:=hrel
  by_cases hlt:i<k
  ·have d1:decide ((i:Int)<(k:Int))=true:=by simp;omega
   have hk0:(0:Int)≤(i:Int):=by omega
   have HC:=hide (pWriteByte 9 HP.out (by simp [Rn.tabs];omega))
   go_wp2_with fail
   refine HC.out.mono ?_
   rintro e w2 ⟨rfl,h2,hf2⟩
   have H2:=hide h2
   have F2:=hide (HF.out.trans hf2)
   clear h2 hf2
   go_wp2
   go_roundw
   case rel=>exact ⟨i+1,by omega,by go_num,by have:=H2.out;rw [List.append_assoc] at this;rw [Rn.tabs,List.replicate_succ'];exact this,F2⟩
   case measure=>simp [intOf];omega
  ·obtain rfl:i=k:=by omega
   have d1:decide ((i:Int)<(i:Int))=false:=by simp
   have HC:=hide (pAdd l a c HP.out (HT.out.keep HF.out) (by simp only [List.length_append,Rn.tabs,List.length_replicate];omega) hl)
   go_wp2_with fail
   refine HC.out.mono ?_
   rintro e w2 ⟨rfl,h2,hf2⟩
   go_wp2
   go_end0
   exact ⟨rfl,h2,HF.out.trans hf2⟩
end Go.Proofs.YtcdcoiobpbdmpaaGreatDoor
namespace Go.Proofs.YtcdcoiobpbdmpaaGreatDoor
open Go.RowKit
set_option maxHeartbeats 400000 in
set_option maxRecDepth 100000 in
theorem pComma {w0 w:World} {pb k:Nat} {x:List UInt8} (i:Nat) (h:PG w0 pb x k w) (hlen:x.length+(if i=0 then [] else [44,32]:List UInt8).length≤140737488355328):
  Calls Tryz.prog 101 #[.pointer (some ⟨pb,0,none⟩),.int .i64 i] w fun e w'=>e= .returned (.tuple #[])∧PG w0 pb (x++if i=0 then [] else [44,32]) k w'∧Fr pb w w':=by
 by_cases hi:i=0
 ·subst hi
  have H:=hide h
  clear h
  go_enter Tryz.func101,Tryz.ntmps101
  go_wp2
  go_end0
  exact ⟨rfl,by simpa using H.out,Fr.refl _ _⟩
 ·have d1:decide ((0:Int)<(i:Int))=true:=by simp;omega
  rw [if_neg hi] at hlen ⊢
  have HC:=hide (pAdd [[44,32]] (some ⟨w.heap.size,0,none⟩) 1 (h.alloc _) (TX.new [[44,32]] w h.lt) hlen (by simp))
  clear h
  go_enter Tryz.func101,Tryz.ntmps101
  go_wp2_with fail
  refine HC.out.mono ?_
  rintro e w2 ⟨rfl,h2,hf2⟩
  go_wp2
  go_end0
  exact ⟨rfl,h2,((Fr.refl _ _).alloc _).trans hf2⟩
theorem bs_nth (t:List UInt8) (i:Nat) (h:i<(bs t).size):t[i]? =some (bs t)[i]:=by
 have hl:i<t.length:=by rw [←bsz];exact h
 rw [List.getElem?_eq_getElem hl]
 rfl
def Rn.tyc (b:UInt8):List UInt8:=if b=115 then [115,101,110,100,32] else if b=114 then [114,101,99,118,32] else [105,110,116]
theorem Rn.tyw_cons (b:UInt8) (r:List UInt8):Rn.tyw (b::r)=Rn.tyc b++Rn.tyw r:=rfl
theorem Rn.tyw_append (a b:List UInt8):Rn.tyw (a++b)=Rn.tyw a++Rn.tyw b:=by
 induction a with
 |nil=>rfl
 |cons c r ih=>rw [List.cons_append,Rn.tyw_cons,Rn.tyw_cons,ih,List.append_assoc]
theorem Rn.tyc_len (b:UInt8):(Rn.tyc b).length≤5:=by
 unfold Rn.tyc
 split
 ·simp
 ·split<;> simp
theorem Rn.tyw_len (l:List UInt8):(Rn.tyw l).length≤5 * l.length:=by
 induction l with
 |nil=>simp [Rn.tyw]
 |cons c r ih=>
  rw [Rn.tyw_cons,List.length_append,List.length_cons]
  have:=Rn.tyc_len c
  omega
theorem Rn.tyw_ge (l:List UInt8):l.length≤(Rn.tyw l).length:=by
 induction l with
 |nil=>simp
 |cons c r ih=>
  rw [Rn.tyw_cons,List.length_append,List.length_cons]
  have:1≤(Rn.tyc c).length:=by
   unfold Rn.tyc
   split
   ·simp
   ·split<;> simp
  omega
theorem Rn.tyw_take {l:List UInt8} {i:Nat} {c:UInt8} (h:l[i]? =some c):Rn.tyw (l.take (i+1))=Rn.tyw (l.take i)++Rn.tyc c:=by
 rw [List.take_add_one,h,Rn.tyw_append]
 simp [Rn.tyw,Rn.tyc]
set_option maxHeartbeats 400000 in
set_option maxRecDepth 100000 in
theorem pTypeWords {w0 w:World} {pb k:Nat} {x:List UInt8} (t:List UInt8) (h:PG w0 pb x k w) (hlen:x.length+(Rn.tyw t).length≤140737488355328):
  Calls Tryz.prog 103 #[.pointer (some ⟨pb,0,none⟩),.string (bs t)] w fun e w'=>e= .returned (.tuple #[])∧PG w0 pb (x++Rn.tyw t) k w'∧Fr pb w w':=by
 have H:=hide h
 have zt:=bsz t
 have htl:t.length≤140737488355328:=by have:=Rn.tyw_ge t;omega
 clear h
 go_enter Tryz.func103,Tryz.ntmps103
 go_wp2_with fail
 go_loopw [7] (fun iv wr=> ∃ (i:Nat),i≤t.length∧iv= .int .i64 i∧Hid (PG w0 pb (x++Rn.tyw (t.take i)) k wr)∧Hid (Fr pb w wr)) (fun iv _=>t.length - (intOf iv).toNat)
 case atStart=>exact ⟨0,Nat.zero_le _,rfl,by simpa [Rn.tyw] using H,Fr.refl _ _⟩
 case round=>
  obtain ⟨i,hi,rfl,HP,HF⟩:=hrel
  by_cases hlt:i<t.length
  ·have d1:decide ((i:Int)<(t.length:Int))=true:=by simp;omega
   have hz:i<(bs t).size:=by omega
   have hc:t[i]? =some (bs t)[i]:=bs_nth t i hz
   have hk0:(0:Int)≤(i:Int):=by omega
   have hk1:(i:Int)<(t.length:Int):=by omega
   have e1:=Rn.tyw_take hc
   have HB:Hid ((x++Rn.tyw (t.take i)).length+(Rn.tyc (bs t)[i]).length≤140737488355328):=by
    show _≤_
    have h1:=congrArg List.length (congrArg Rn.tyw (List.take_append_drop (i+1) t))
    rw [Rn.tyw_append,e1,List.length_append,List.length_append] at h1
    rw [List.length_append]
    omega
   have HC:=hide (fun s (hs:s=Rn.tyc (bs t)[i])=>pAdd [s] (some ⟨wr.heap.size,0,none⟩) 1 (HP.out.alloc _) (TX.new [s] wr HP.out.lt) (by have:=HB.out;rw [←hs] at this;simp only [List.flatten_cons,List.flatten_nil,List.append_nil];omega) (by simp))
   by_cases h1:(bs t)[i]=115
   ·have q1:(((bs t)[i].toNat:Int) == 115)=true:=by rw [h1];rfl
    have e2:Rn.tyc (bs t)[i]=[115,101,110,100,32]:=by rw [Rn.tyc,if_pos h1]
    go_wp2_with fail
    refine (HC.out [115,101,110,100,32] e2.symm).mono ?_
    rintro e w2 ⟨rfl,h2,hf2⟩
    have H2:=hide h2
    have F2:=hide (HF.out.trans (((Fr.refl _ _).alloc _).trans hf2))
    clear h2 hf2
    go_wp2
    go_roundw
    case rel=>exact ⟨i+1,by omega,by go_num,by rw [e1,e2,←List.append_assoc];exact H2,F2⟩
    case measure=>simp [intOf];omega
   ·have q1:(((bs t)[i].toNat:Int) == 115)=false:=by
     simp only [beq_eq_false_iff_ne]
     intro hh
     exact h1 (UInt8.toNat_inj.1 (by simpa using (show (bs t)[i].toNat=115 by omega)))
    by_cases h2:(bs t)[i]=114
    ·have q2:(((bs t)[i].toNat:Int) == 114)=true:=by rw [h2];rfl
     have e2:Rn.tyc (bs t)[i]=[114,101,99,118,32]:=by rw [Rn.tyc,if_neg h1,if_pos h2]
     go_wp2_with fail
     refine (HC.out [114,101,99,118,32] e2.symm).mono ?_
     rintro e w2 ⟨rfl,h2,hf2⟩
     have H2:=hide h2
     have F2:=hide (HF.out.trans (((Fr.refl _ _).alloc _).trans hf2))
     clear h2 hf2
     go_wp2
     go_roundw
     case rel=>exact ⟨i+1,by omega,by go_num,by rw [e1,e2,←List.append_assoc];exact H2,F2⟩
     case measure=>simp [intOf];omega
    ·have q2:(((bs t)[i].toNat:Int) == 114)=false:=by
      simp only [beq_eq_false_iff_ne]
      intro hh
      exact h2 (UInt8.toNat_inj.1 (by simpa using (show (bs t)[i].toNat=114 by omega)))
     have e2:Rn.tyc (bs t)[i]=[105,110,116]:=by rw [Rn.tyc,if_neg h1,if_neg h2]
     go_wp2_with fail
     refine (HC.out [105,110,116] e2.symm).mono ?_
     rintro e w2 ⟨rfl,h2,hf2⟩
     have H2:=hide h2
     have F2:=hide (HF.out.trans (((Fr.refl _ _).alloc _).trans hf2))
     clear h2 hf2
     go_wp2
     go_roundw
     case rel=>exact ⟨i+1,by omega,by go_num,by rw [e1,e2,←List.append_assoc];exact H2,F2⟩
     case measure=>simp [intOf];omega
  ·obtain rfl:i=t.length:=by omega
   have d1:decide ((t.length:Int)<(t.length:Int))=false:=by simp
   rw [List.take_length] at HP
   go_wp2
   go_end0
   exact ⟨rfl,HP.out,HF.out⟩
set_option maxHeartbeats 400000 in
set_option maxRecDepth 100000 in
theorem pLeaf {w0 w:World} {pb k:Nat} {x:List UInt8} (op N:Int) (nm:List UInt8) (v:Value) (h:PG w0 pb x k w) (hT:Tb w) (h0:0≤N) (h1:N≤9223372036854775807) (hlen:x.length+(if op=1 then Rn.digs N else nm).length≤140737488355328):
  Calls Tryz.prog 194 #[.pointer (some ⟨pb,0,none⟩),.agg #[.int .i64 op,.string (bs nm),.int .i64 N,v]] w fun e w'=>e= .returned (.tuple #[])∧PG w0 pb (x++if op=1 then Rn.digs N else nm) k w'∧Fr pb w w':=by
 have H:=hide h
 have HT:=hide hT
 have HL:=hide h.lt
 clear h hT
 by_cases ho:op=1
 ·subst ho
  rw [if_pos rfl] at hlen ⊢
  have HI:=hide (formatInt_any N (w.alloc (.cells #[.int .i64 1,.string (bs nm),.int .i64 N,v] 112)) (by omega) h1 (HT.out.kp ((Kp.refl _ _).alloc _)))
  change Hid (Calls _ _ _ _ fun e w'=>e= .returned (.string (bs (Rn.digs N)))∧_) at HI
  go_enter Tryz.func194,Tryz.ntmps194
  go_wp2_with fail
  refine HI.out.mono ?_
  rintro e w2 ⟨rfl,hk2⟩
  have H2:=hide ((H.out.alloc _).kept hk2)
  have F2:Hid (Fr pb w w2):=((Fr.refl _ _).alloc _).trans (Fr.of_kp hk2)
  have HC:=hide (pAdd [Rn.digs N] (some ⟨w2.heap.size,0,none⟩) 1 (H2.out.alloc _) (TX.new [Rn.digs N] w2 H2.out.lt) (by simp;omega) (by simp))
  clear hk2
  go_wp2_with fail
  refine HC.out.mono ?_
  rintro e w3 ⟨rfl,h3,hf3⟩
  go_wp2
  go_end0
  exact ⟨rfl,by simpa using h3,F2.out.trans (((Fr.refl _ _).alloc _).trans hf3)⟩
 ·have d1:(op == 1)=false:=by simpa using ho
  rw [if_neg ho] at hlen ⊢
  have H2:=hide (H.out.alloc (.cells #[.int .i64 op,.string (bs nm),.int .i64 N,v] 112))
  have HC:=hide (pAdd [nm] (some ⟨w.heap.size+1,0,none⟩) 1 (H2.out.alloc _) (TX.new' [nm] _ _ (by simp) H2.out.lt) (by simp;omega) (by simp))
  go_enter Tryz.func194,Tryz.ntmps194
  go_wp2_with fail
  refine HC.out.mono ?_
  rintro e w3 ⟨rfl,h3,hf3⟩
  go_wp2
  go_end0
  exact ⟨rfl,by simpa using h3,(((Fr.refl _ _).alloc _).alloc _).trans hf3⟩
end Go.Proofs.YtcdcoiobpbdmpaaGreatDoor
