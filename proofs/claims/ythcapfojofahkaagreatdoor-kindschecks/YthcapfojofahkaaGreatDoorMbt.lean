import Derived.Test.YthcapfojofahkaaGreatDoorMad
import Derived.Test.YthcapfojofahkaaGreatDoorMae
import Derived.Deep.AppendLies
import Derived.Deep.RegionLaw
import Derived.Deep.RegionHeldLaw
import Derived.Test.YthcapfojofahkaaGreatDoorMbs
namespace Go.Proofs.YthcapfojofahkaaGreatDoor
open Go.RowKit
theorem Tryz.infoParam:(Tryz.prog.info? 44).map (fun i=>(i.zero,i.size,i.bytes))=some (some (.agg #[.string ⟨#[]⟩,.string ⟨#[]⟩]),2,32):=by kernel_rfl
theorem Tryz.infoExpr:(Tryz.prog.info? 49).map (fun i=>(i.zero,i.size,i.bytes))=some (some (.agg #[.int .i64 0,.string ⟨#[]⟩,.int .i64 0,.slice none 0 0]),4,56):=by kernel_rfl
theorem Tryz.infoStmt:(Tryz.prog.info? 51).map (fun i=>(i.zero,i.size,i.bytes))=some (some (.agg #[.int .i64 0,.int .i64 0,.string ⟨#[]⟩,.string ⟨#[]⟩,.string ⟨#[]⟩,.int .i64 0,.slice none 0 0,.slice none 0 0,.slice none 0 0]),9,144):=by kernel_rfl
theorem Tryz.infoStage:(Tryz.prog.info? 43).map (fun i=>(i.zero,i.size,i.bytes))=some (some (.agg #[.string ⟨#[]⟩,.int .i64 0,.slice none 0 0,.slice none 0 0]),4,72):=by kernel_rfl
theorem own_blk {w:World} {B t z n:Nat} {v:Value} {xs:List Value} (h:w.ownsRow B t z v n xs): ∀ k,k ∈ v.ownBlock.toList→B≤k:=by
 intro k hk
 rcases h.2 with ⟨rfl,_⟩|⟨g,cap,cur,rfl,hB,_⟩
 ·simp [Value.ownBlock] at hk
 ·simp [Value.ownBlock] at hk
  omega
theorem own_lt {w:World} {B t z n:Nat} {v:Value} {xs:List Value} (h:w.ownsRow B t z v n xs): ∀ k,some k=v.ownBlock→k<w.heap.size:=by
 intro k hk
 rcases h.2 with ⟨rfl,_⟩|⟨g,cap,cur,rfl,hB,hg,_⟩
 ·simp [Value.ownBlock] at hk
 ·simp [Value.ownBlock] at hk
  rw [hk]
  rcases Nat.lt_or_ge g w.heap.size with h'|h'
  ·exact h'
  ·rw [Array.getElem?_eq_none h'] at hg;cases hg
theorem own_keep {w w':World} {S:List Nat} {B t z n:Nat} {v:Value} {xs:List Value} (h:w.ownsRow B t z v n xs) (hk:Kp S w w') (hS: ∀ k,k ∈ S→k<B):w'.ownsRow B t z v n xs:=by
 refine ⟨h.1,h.2.imp id (fun ⟨g,cap,cur,hv,hB,hg,r⟩=>⟨g,cap,cur,hv,hB,?_,r⟩)⟩
 rw [hk.block g (by
  rcases Nat.lt_or_ge g w.heap.size with h'|h'
  ·exact h'
  ·rw [Array.getElem?_eq_none h'] at hg;cases hg) (fun hm=>by have:=hS g hm;omega)]
 exact hg
theorem Kp.of_grown {w w':World} {row:Option Nat} (h:w.grownBy w' row):Kp row.toList w w':=
 ⟨h.os,h.tape,h.output,h.size,fun k hk hn=>h.block k hk (fun e=>hn (by rw [←e];simp))⟩
theorem cells_nine_new (w:World) (n:Nat) (hn:n=w.heap.size) (a b c d e f g h i:Value) (t:TypeId): ∀ (j:Nat) (v:Value),[a,b,c,d,e,f,g,h,i][j]? =some v→(w.alloc (.cells #[a,b,c,d,e,f,g,h,i] t)).cell? ((⟨n,0,none⟩:Addr).add j)=some v:=by
 intro j v hj
 subst hn
 rw [Addr.add_mid]
 match j,hj with
 |0,hj=>simp at hj;subst hj;simp [go_sem]
 |1,hj=>simp at hj;subst hj;simp [go_sem]
 |2,hj=>simp at hj;subst hj;simp [go_sem]
 |3,hj=>simp at hj;subst hj;simp [go_sem]
 |4,hj=>simp at hj;subst hj;simp [go_sem]
 |5,hj=>simp at hj;subst hj;simp [go_sem]
 |6,hj=>simp at hj;subst hj;simp [go_sem]
 |7,hj=>simp at hj;subst hj;simp [go_sem]
 |8,hj=>simp at hj;subst hj;simp [go_sem]
theorem rows_grow {R:World→(Nat→Prop)→Sx.Tr→List Value→Prop} (hkeep: ∀ (w w':World) (S:List Nat) (P:Nat→Prop) d c,R w P d c→Kp S w w'→(∀ k,k ∈ S→ ¬ P k)→R w' P d c)
  (hbase: ∀ (w:World) (P P':Nat→Prop) d c,R w P d c→(∀ b,b<w.heap.size→P b→P' b)→R w P' d c) {B g:Nat} {W w3:World} {v:Value} {l:List Sx.Tr} {cs:List Value}
  (h:Rw (R W (fun b=>B≤b∧some b ≠ v.ownBlock)) l cs) (hg:W.grownBy w3 v.ownBlock) (hat:v.ownBlock=some g∨g=W.heap.size):Rw (R w3 (fun b=>B≤b∧some b ≠ some g)) l cs:=by
 refine h.mono (fun d c hd=> ?_)
 have h1:=hbase W _ (fun b=>B≤b∧some b ≠ v.ownBlock∧b ≠ g) d c hd (fun b hb hP=>⟨hP.1,hP.2,fun e=>by
  rcases hat with ha|ha
  ·exact hP.2 (by rw [ha,e])
  ·omega⟩)
 have h2:=hkeep W w3 _ _ d c h1 (Kp.of_grown hg) (fun k hk hP=>hP.2.1 (Option.mem_toList.1 hk).symm)
 exact hbase w3 _ _ d c h2 (fun b _ hP=>⟨hP.1,fun e=>hP.2.2 (by simpa using e)⟩)
structure S9 (w:World) (b:Nat) (D at':Int) (A B T:ByteArray) (N:Int) (uE uB uL:Value):Prop where
 c0:w.cell? ⟨b,0,none⟩=some (.int .i64 D)
 c1:w.cell? ⟨b,1,none⟩=some (.int .i64 at')
 c2:w.cell? ⟨b,2,none⟩=some (.string A)
 c3:w.cell? ⟨b,3,none⟩=some (.string B)
 c4:w.cell? ⟨b,4,none⟩=some (.string T)
 c5:w.cell? ⟨b,5,none⟩=some (.int .i64 N)
 c6:w.cell? ⟨b,6,none⟩=some uE
 c7:w.cell? ⟨b,7,none⟩=some uB
 c8:w.cell? ⟨b,8,none⟩=some uL
 fz: ∀ o,w.frozen? ⟨b,o,none⟩=false
section
variable {w w':World} {S:List Nat} {b:Nat} {D at':Int} {A B T:ByteArray} {N:Int} {uE uB uL:Value}
theorem S9.lt (h:S9 w b D at' A B T N uE uB uL):b<w.heap.size:=World.block_lt_of_cell? w ⟨b,0,none⟩ h.c0
theorem S9.keep (h:S9 w b D at' A B T N uE uB uL) (k:Kp S w w') (hn:b ∉ S):S9 w' b D at' A B T N uE uB uL:=
 ⟨k.some h.c0 hn,k.some h.c1 hn,k.some h.c2 hn,k.some h.c3 hn,k.some h.c4 hn,k.some h.c5 hn,k.some h.c6 hn,k.some h.c7 hn,k.some h.c8 hn,fun o=>(k.frozen (p:=⟨b,o,none⟩) h.lt hn).trans (h.fz o)⟩
theorem S9.setE (h:S9 w b D at' A B T N uE uB uL) (x:Value):S9 (w.setCell ⟨b,6,none⟩ x) b D at' A B T N x uB uL:=
 ⟨(cell_off _ _ _ _ _ (by decide)).trans h.c0,(cell_off _ _ _ _ _ (by decide)).trans h.c1,(cell_off _ _ _ _ _ (by decide)).trans h.c2,(cell_off _ _ _ _ _ (by decide)).trans h.c3,(cell_off _ _ _ _ _ (by decide)).trans h.c4,(cell_off _ _ _ _ _ (by decide)).trans h.c5,by rw [World.cell?_setCell_same (h:=h.c6)],(cell_off _ _ _ _ _ (by decide)).trans h.c7,(cell_off _ _ _ _ _ (by decide)).trans h.c8,fun o=>by simpa using h.fz o⟩
theorem S9.setBody (h:S9 w b D at' A B T N uE uB uL) (x:Value):S9 (w.setCell ⟨b,7,none⟩ x) b D at' A B T N uE x uL:=
 ⟨(cell_off _ _ _ _ _ (by decide)).trans h.c0,(cell_off _ _ _ _ _ (by decide)).trans h.c1,(cell_off _ _ _ _ _ (by decide)).trans h.c2,(cell_off _ _ _ _ _ (by decide)).trans h.c3,(cell_off _ _ _ _ _ (by decide)).trans h.c4,(cell_off _ _ _ _ _ (by decide)).trans h.c5,(cell_off _ _ _ _ _ (by decide)).trans h.c6,by rw [World.cell?_setCell_same (h:=h.c7)],(cell_off _ _ _ _ _ (by decide)).trans h.c8,fun o=>by simpa using h.fz o⟩
theorem S9.new (w:World) (D at':Int) (A B T:ByteArray) (N:Int) (uE uB uL:Value) (t:TypeId):S9 (w.alloc (.cells #[.int .i64 D,.int .i64 at',.string A,.string B,.string T,.int .i64 N,uE,uB,uL] t)) w.heap.size D at' A B T N uE uB uL:=
 ⟨by simp [go_sem],by simp [go_sem],by simp [go_sem],by simp [go_sem],by simp [go_sem],by simp [go_sem],by simp [go_sem],by simp [go_sem],by simp [go_sem],fun o=>by simp [go_sem]⟩
end
def RE (w:World) (P:Nat→Prop) (n:Nat) (d:Sx.Tr) (c:List Value):Prop:= ∃ op nm k L u,d=Sx.tE op nm k L∧c=[.int .i64 op,.string (bs nm),.int .i64 k,u]∧EL w P n L u
theorem RE_len {w:World} {P:Nat→Prop} {n:Nat} (d:Sx.Tr) (c:List Value) (h:RE w P n d c):c.length=4:=by
 obtain ⟨op,nm,k,L,u,_,rfl,_⟩:=h;rfl
theorem EL.of_sl {w:World} {P:Nat→Prop} {n:Nat} {l:List Sx.Tr} {v:Value} (h:Sl (RE w P n) w P l v):EL w P (n+1) l v:=by
 obtain ⟨a,cap,hv,h⟩:=h
 refine ⟨a,cap,hv,h.imp id ?_⟩
 rintro ⟨b,off,cs,ha,hb,hr,hc⟩
 refine ⟨b,off,ha,hb,fun i d hd=> ?_⟩
 obtain ⟨c,⟨op,nm,k,L,u,h1,rfl,h3⟩,hcc⟩:=hr.at (z:=4) RE_len i d hd
 refine ⟨op,nm,k,L,u,h1,?_,?_,?_,?_,h3⟩
 ·simpa using hc _ _ (hcc 0 _ rfl)
 ·simpa [Nat.add_assoc] using hc _ _ (hcc 1 _ rfl)
 ·simpa [Nat.add_assoc] using hc _ _ (hcc 2 _ rfl)
 ·simpa [Nat.add_assoc] using hc _ _ (hcc 3 _ rfl)
theorem RE.keep {w w':World} {S:List Nat} {P:Nat→Prop} {n:Nat} {d:Sx.Tr} {c:List Value} (h:RE w P n d c) (hk:Kp S w w') (hS: ∀ k,k ∈ S→ ¬ P k):RE w' P n d c:=by
 obtain ⟨op,nm,k,L,u,h1,h2,h3⟩:=h
 exact ⟨op,nm,k,L,u,h1,h2,h3.keep hk hS⟩
theorem RE.base {w:World} {P P':Nat→Prop} {n:Nat} {d:Sx.Tr} {c:List Value} (h:RE w P n d c) (hP: ∀ b,b<w.heap.size→P b→P' b):RE w P' n d c:=by
 obtain ⟨op,nm,k,L,u,h1,h2,h3⟩:=h
 exact ⟨op,nm,k,L,u,h1,h2,h3.base hP⟩
end Go.Proofs.YthcapfojofahkaaGreatDoor
namespace Go.Proofs.YthcapfojofahkaaGreatDoor
open Go.RowKit
def CE (n:Nat):Prop:= ∀ (w:World) (P:Nat→Prop) (l:List Sx.Tr) (v:Value),EL w P n l v→Sx.wE n l≤1000000→
 Calls Tryz.prog 35 #[v] w fun e w'=> ∃ a cap,e= .returned (.slice a l.length cap)∧EL w' (fun b=>w.heap.size≤b) n l (.slice a l.length cap)∧Kp [] w w'
theorem wE_nth (n:Nat) (l:List Sx.Tr) (hw:Sx.wE (n+1) l≤1000000): ∀ (i:Nat) d,l[i]? =some d→Sx.wE n (Sx.eL d)≤1000000:=fun i d hd=>by
 have h1:Sx.sum (fun d=>Sx.wE n (Sx.eL d)) (l.take (i+1))=Sx.sum (fun d=>Sx.wE n (Sx.eL d)) (l.take i)+Sx.wE n (Sx.eL d):=Sx.sum_take (fun d=>Sx.wE n (Sx.eL d)) l i d hd
 have h2:=Sx.sum_take_le (fun d=>Sx.wE n (Sx.eL d)) l (i+1)
 have:l.length+Sx.sum (fun d=>Sx.wE n (Sx.eL d)) l=Sx.wE (n+1) l:=rfl
 omega
theorem take_snoc {l:List Sx.Tr} {k:Nat} {d:Sx.Tr} (h:l[k]? =some d):l.take (k+1)=l.take k++[d]:=by
 rw [List.take_add_one,h]
 rfl
set_option maxRecDepth 100000 in
set_option maxHeartbeats 2000000 in
theorem copyExprs_step (n:Nat) (ih:CE n):CE (n+1):=by
 intro w P l v h hw
 obtain ⟨a,cap,rfl⟩:=h.slice
 obtain ⟨i0,hi0,hz0,hz1,hz2⟩:=info_parts Tryz.infoExpr
 have HS:=hide h
 have IH:=hide ih
 have hl:l.length≤1000000:=by have:l.length+_=Sx.wE (n+1) l:=rfl;omega
 have HWT:=hide (wE_nth n l hw)
 clear h ih hw
 go_enter Tryz.func35,Tryz.ntmps35
 go_wp2
 go_loopw [3,4] (fun v iv wr=> ∃ (k:Nat) (cs:List Value),k≤l.length∧iv= .int .i64 k∧Hid (Kp [] w wr)∧Hid (wr.ownsRow w.heap.size 49 4 v k cs)∧Hid (Rw (RE wr (fun b=>w.heap.size≤b∧some b ≠ v.ownBlock) n) (l.take k) cs)) (fun _ iv _=>l.length - (intOf iv).toNat)
 case atStart=>exact ⟨0,[],Nat.zero_le _,rfl,Kp.refl _ _,World.ownsRow_nil _ _ _ _,by show Rw _ _ _;rw [List.take_zero];rfl⟩
 case round=>
  obtain ⟨k,cs,hk,rfl,HK,HO,HR⟩:=hrel
  have hz:=HK.out.size
  by_cases hlt:k<l.length
  ·obtain ⟨b,off,op,nm,z,L,aL,cL,rfl,-,hd,m0,m1,m2,m3,hL⟩:=(HS.out.keep HK.out (by simp)).nth k hlt
   have hwt:Sx.wE n L≤1000000:=HWT.out k _ hd
   have HD:=hide hd
   have HL:=hide hL
   have HOL:=hide (own_lt HO.out)
   have hk0:(0:Int)≤(k:Int):=by omega
   have hk1:(k:Int)<(l.length:Int):=by omega
   have hblt:=World.block_lt_of_cell? _ _ m0
   clear hL hd
   go_wp2_with fail
   refine (IH.out _ P L _ (HL.out.keep ((Kp.refl [] _).alloc _) (by simp)) hwt).mono ?_
   rintro e w1 ⟨a5,cap5,rfl,hEL,hk5⟩
   have c0:w1.cell? ⟨wr.heap.size,0,none⟩=some (.int .i64 op):=hk5.some (by simp [go_sem]) (by simp)
   have c1:w1.cell? ⟨wr.heap.size,1,none⟩=some (.string (bs nm)):=hk5.some (by simp [go_sem]) (by simp)
   have c2:w1.cell? ⟨wr.heap.size,2,none⟩=some (.int .i64 z):=hk5.some (by simp [go_sem]) (by simp)
   have c3:w1.cell? ⟨wr.heap.size,3,none⟩=some (.slice aL L.length cL):=hk5.some (by simp [go_sem]) (by simp)
   have f3:w1.frozen? ⟨wr.heap.size,3,none⟩=false:=(hk5.frozen (p:=⟨wr.heap.size,3,none⟩) (by simp) (by simp)).trans (by simp [go_sem])
   have K5:Hid (Kp [] wr (w1.setCell ⟨wr.heap.size,3,none⟩ (.slice a5 L.length cap5))):=(((Kp.refl [] _).alloc _).trans hk5).nb (Nat.le_refl _) _ _
   have hs5:wr.heap.size<w1.heap.size:=World.block_lt_of_cell? _ _ c0
   have HRE:Hid (RE (w1.setCell ⟨wr.heap.size,3,none⟩ (.slice a5 L.length cap5)) (fun b=>wr.heap.size<b) n (Sx.tE op nm z L) [.int .i64 op,.string (bs nm),.int .i64 z,.slice a5 L.length cap5]):=
    ⟨op,nm,z,L,_,rfl,rfl,(hEL.base (P':=fun b=>wr.heap.size<b) (fun b _ hb=>by simp at hb;omega)).keep (Kp.rb (S:=[]) (Kp.refl _ _) _ _) (by simp)⟩
   have HO5:=hide (own_keep HO.out K5.out (by simp))
   have HR5:=hide (HR.out.mono (fun d cc hd=>hd.keep K5.out (by simp)))
   clear hEL hk5
   go_wp2_with (at_builtin;refine wpList_append_lies _ rfl _ _ 47 rfl w.heap.size 49 i0 (.agg #[.int .i64 0,.string ⟨#[]⟩,.int .i64 0,.slice none 0 0]) 4 56 Tryz.underlying47 hi0 hz0 hz1 hz2 rfl (by decide) _ _ _ rfl (by exact HO5.out.alloc _) ⟨w1.heap.size,0,none⟩ 1 1 [.int .i64 op,.string (bs nm),.int .i64 z,.slice a5 L.length cap5] rfl rfl ?c1 ?c2 ?c3 ?c4 ?c5 ?c6 _ rfl ?_)
   case c1=>exact cells_four_new _ _ (by simp [World.setCell]) _ _ _ _ _
   case c2=>intro u hu;simp at hu;rcases hu with rfl|rfl|rfl|rfl<;> rfl
   case c3=>decide
   case c4=>unfold maxLen;omega
   case c5=>omega
   case c6=>simp [World.setCell];omega
   ·intro g cap6 w6 hown hgrow hat hlt6
    have hblk:=own_blk HO5.out
    have hR:Rw (RE ((w1.setCell ⟨wr.heap.size,3,none⟩ (.slice a5 L.length cap5)).alloc (.cells #[.int .i64 op,.string (bs nm),.int .i64 z,.slice a5 L.length cap5] 49)) (fun b=>w.heap.size≤b∧some b ≠ Value.ownBlock u3) n) (l.take k++[Sx.tE op nm z L]) (cs++[.int .i64 op,.string (bs nm),.int .i64 z,.slice a5 L.length cap5]):=by
     refine Rw.snoc (HR5.out.mono (fun d cc hd=>hd.keep (S:=[]) ((Kp.refl _ _).alloc _) (by simp))) ?_
     refine (HRE.out.base (P':=fun b=>w.heap.size≤b∧some b ≠ Value.ownBlock u3) (fun b _ hb=> ?_)).keep (S:=[]) ((Kp.refl _ _).alloc _) (by simp)
     exact ⟨by omega,fun e=>by have:=HOL.out b e;omega⟩
    have hR6:=rows_grow (R:=fun w P d c=>RE w P n d c) (fun w w' S P d c h hk hS=>h.keep hk hS) (fun w P P' d c h hP=>h.base hP) hR hgrow (by simpa [World.setCell] using hat)
    rw [←take_snoc HD.out] at hR6
    have HR6:=hide hR6
    have HO6:=hide hown
    have HK6:=hide (((HK.out.trans K5.out).alloc (.cells #[.int .i64 op,.string (bs nm),.int .i64 z,.slice a5 L.length cap5] 49)).grown hgrow (fun k hk=> .inl (hblk k (by rw [hk];simp))))
    clear hR hR6 hown hgrow hat
    go_wp2
    go_roundw
    case rel=>exact ⟨k+1,_,by omega,by go_num,HK6.out,HO6.out,HR6.out⟩
    case measure=>simp [intOf];omega
  ·obtain rfl:k=l.length:=by omega
   have hR:=HR.out
   rw [List.take_length] at hR
   have hSl:Sl (RE wr (fun b=>w.heap.size≤b) n) wr (fun b=>w.heap.size≤b) l u3:=Sl.of_own HO.out rfl (fun b hb=>hb) (hR.mono (fun d cc hd=>hd.base (fun b _ hb=>hb.1)))
   obtain ⟨a5,c5,rfl,-⟩:=id hSl
   have HSl:=hide hSl
   clear hR hSl
   go_wp2
   go_ret
   exact ⟨a5,c5,rfl,EL.of_sl HSl.out,HK.out⟩
theorem copyExprs_any (n:Nat):CE n:=by
 induction n with
 |zero=>intro w P l v h;cases h
 |succ n ih=>exact copyExprs_step n ih
end Go.Proofs.YthcapfojofahkaaGreatDoor
namespace Go.Proofs.YthcapfojofahkaaGreatDoor
open Go.RowKit
def CSt (n:Nat):Prop:= ∀ (w:World) (P:Nat→Prop) (l:List Sx.Tr) (v:Value),SL w P n l v→Sx.wS n l≤1000000→
 Calls Tryz.prog 18 #[v] w fun e w'=> ∃ a cap,e= .returned (.slice a l.length cap)∧SL w' (fun b=>w.heap.size≤b) n l (.slice a l.length cap)∧Kp [] w w'
theorem wS_nth' (n:Nat) (l:List Sx.Tr) (hw:Sx.wS (n+1) l≤1000000): ∀ (i:Nat) d,l[i]? =some d→Sx.wE n (Sx.sE d)+Sx.wS n (Sx.sB d)+Sx.wS n (Sx.sO d)≤1000000:=fun i d hd=>by
 have h1:Sx.sum (fun d=>Sx.wE n (Sx.sE d)+Sx.wS n (Sx.sB d)+Sx.wS n (Sx.sO d)) (l.take (i+1))=Sx.sum (fun d=>Sx.wE n (Sx.sE d)+Sx.wS n (Sx.sB d)+Sx.wS n (Sx.sO d)) (l.take i)+(Sx.wE n (Sx.sE d)+Sx.wS n (Sx.sB d)+Sx.wS n (Sx.sO d)):=Sx.sum_take _ l i d hd
 have h2:=Sx.sum_take_le (fun d=>Sx.wE n (Sx.sE d)+Sx.wS n (Sx.sB d)+Sx.wS n (Sx.sO d)) l (i+1)
 have:l.length+Sx.sum (fun d=>Sx.wE n (Sx.sE d)+Sx.wS n (Sx.sB d)+Sx.wS n (Sx.sO d)) l=Sx.wS (n+1) l:=rfl
 omega
set_option maxRecDepth 100000 in
set_option maxHeartbeats 4000000 in
theorem copyStmts_step (n:Nat) (ih:CSt n):CSt (n+1):=by
 intro w P l v h hw
 obtain ⟨a,cap,rfl⟩:=h.slice
 obtain ⟨i0,hi0,hz0,hz1,hz2⟩:=info_parts Tryz.infoStmt
 have HS:=hide h
 have IH:=hide ih
 have IHE:=hide (copyExprs_any n)
 have hl:l.length≤1000000:=by have:l.length+_=Sx.wS (n+1) l:=rfl;omega
 have HWT:=hide (wS_nth' n l hw)
 clear h ih hw
 go_enter Tryz.func18,Tryz.ntmps18
 go_wp2
 go_loopw [3,4] (fun v iv wr=> ∃ (k:Nat) (cs:List Value),k≤l.length∧iv= .int .i64 k∧Hid (Kp [] w wr)∧Hid (wr.ownsRow w.heap.size 51 9 v k cs)∧Hid (Rw (RS wr (fun b=>w.heap.size≤b∧some b ≠ v.ownBlock) n) (l.take k) cs)) (fun _ iv _=>l.length - (intOf iv).toNat)
 case atStart=>exact ⟨0,[],Nat.zero_le _,rfl,Kp.refl _ _,World.ownsRow_nil _ _ _ _,by show Rw _ _ _;rw [List.take_zero];rfl⟩
 case round=>
  obtain ⟨k,cs,hk,rfl,HK,HO,HR⟩:=hrel
  have hz:=HK.out.size
  by_cases hlt:k<l.length
  ·obtain ⟨b,off,D,at',A,B,T,N,E,body,els,uE,uB,uL,rfl,-,hd,m0,m1,m2,m3,m4,m5,m6,m7,m8,hE,hB,hL⟩:=(HS.out.keep HK.out (by simp)).nth k hlt
   obtain ⟨aE,cE,rfl⟩:=hE.slice
   obtain ⟨aB,cB,rfl⟩:=hB.slice
   obtain ⟨aL,cL,rfl⟩:=hL.slice
   have hwt:Sx.wE n E+Sx.wS n body+Sx.wS n els≤1000000:=HWT.out k _ hd
   have HD:=hide hd
   have HE:=hide hE
   have HB:=hide hB
   have HL:=hide hL
   have HOL:=hide (own_lt HO.out)
   have hk0:(0:Int)≤(k:Int):=by omega
   have hk1:(k:Int)<(l.length:Int):=by omega
   have hblt:=World.block_lt_of_cell? _ _ m0
   have HN:=hide (S9.new wr D at' (bs A) (bs B) (bs T) N (.slice aE E.length cE) (.slice aB body.length cB) (.slice aL els.length cL) 51)
   clear hE hB hL hd
   go_wp2_with fail
   refine (IHE.out _ P E _ (HE.out.keep ((Kp.refl [] _).alloc _) (by simp)) (by omega)).mono ?_
   rintro e w1 ⟨a5,cap5,rfl,hE5,hk5⟩
   have hs1:=HN.out.keep hk5 (by simp)
   have HS1:=hide (hs1.setE (.slice a5 E.length cap5))
   have K1:Hid (Kp [] wr (w1.setCell ⟨wr.heap.size,6,none⟩ (.slice a5 E.length cap5))):=(((Kp.refl [] _).alloc _).trans hk5).nb (Nat.le_refl _) _ _
   have HE5:=hide ((hE5.base (P':=fun b=>wr.heap.size<b) (fun b _ hb=>by simp at hb;omega)).keep (Kp.rb (b:=wr.heap.size) (S:=[]) (Kp.refl _ _) 6 (.slice a5 E.length cap5)) (by simp))
   have hsz1:=hs1.lt
   obtain ⟨-,-,-,-,-,-,x6,x7,x8,xf⟩:=hs1
   have xf6:=xf 6
   clear hE5 hk5 xf
   go_wp2_with fail
   refine (IH.out _ P body _ (HB.out.keep K1.out (by simp)) (by omega)).mono ?_
   rintro e w2 ⟨a6,cap6,rfl,hB6,hk6⟩
   have hs2:=HS1.out.keep hk6 (by simp)
   have HS2:=hide (hs2.setBody (.slice a6 body.length cap6))
   have K2:Hid (Kp [] wr (w2.setCell ⟨wr.heap.size,7,none⟩ (.slice a6 body.length cap6))):=(K1.out.trans hk6).nb (Nat.le_refl _) _ _
   have kr2:=Kp.rb (b:=wr.heap.size) (S:=[]) (Kp.refl _ w2) 7 (.slice a6 body.length cap6)
   have HE6:=hide ((HE5.out.keep hk6 (by simp)).keep kr2 (by simp))
   have HB6:=hide ((hB6.base (P':=fun b=>wr.heap.size<b) (fun b _ hb=>by simp [World.setCell] at hb;omega)).keep kr2 (by simp))
   have hsz2:=hs2.lt
   obtain ⟨-,-,-,-,-,-,-,y7,y8,yf⟩:=hs2
   have yf7:=yf 7
   clear hB6 hk6 yf x6 x7 x8 xf6 kr2
   go_wp2_with fail
   refine (IH.out _ P els _ (HL.out.keep K2.out (by simp)) (by omega)).mono ?_
   rintro e w3 ⟨a7,cap7,rfl,hL7,hk7⟩
   have hs3:=HS2.out.keep hk7 (by simp)
   have K3:Hid (Kp [] wr (w3.setCell ⟨wr.heap.size,8,none⟩ (.slice a7 els.length cap7))):=(K2.out.trans hk7).nb (Nat.le_refl _) _ _
   have kr3:=Kp.rb (b:=wr.heap.size) (S:=[]) (Kp.refl _ w3) 8 (.slice a7 els.length cap7)
   have hE7:=(HE6.out.keep hk7 (by simp)).keep kr3 (by simp)
   have hB7:=(HB6.out.keep hk7 (by simp)).keep kr3 (by simp)
   have hL8:=(hL7.base (P':=fun b=>wr.heap.size<b) (fun b _ hb=>by simp [World.setCell] at hb;omega)).keep kr3 (by simp)
   have HRE:Hid (RS (w3.setCell ⟨wr.heap.size,8,none⟩ (.slice a7 els.length cap7)) (fun b=>wr.heap.size<b) n (Sx.tS D at' A B T N E body els) [.int .i64 D,.int .i64 at',.string (bs A),.string (bs B),.string (bs T),.int .i64 N,.slice a5 E.length cap5,.slice a6 body.length cap6,.slice a7 els.length cap7]):=
    ⟨D,at',A,B,T,N,E,body,els,_,_,_,rfl,rfl,hE7,hB7,hL8⟩
   have hsz3:=hs3.lt
   obtain ⟨z0,z1,z2,z3,z4,z5,z6,z7,z8,zf⟩:=hs3
   have zf8:=zf 8
   have HO5:=hide (own_keep HO.out K3.out (by simp))
   have HR5:=hide (HR.out.mono (fun d cc hd=>hd.keep K3.out (by simp)))
   clear hL7 hk7 zf y7 y8 yf7 kr3 hE7 hB7 hL8
   go_wp2_with (at_builtin;refine wpList_append_lies _ rfl _ _ 41 rfl w.heap.size 51 i0 (.agg #[.int .i64 0,.int .i64 0,.string ⟨#[]⟩,.string ⟨#[]⟩,.string ⟨#[]⟩,.int .i64 0,.slice none 0 0,.slice none 0 0,.slice none 0 0]) 9 144 Tryz.underlying41 hi0 hz0 hz1 hz2 rfl (by decide) _ _ _ rfl (by exact HO5.out.alloc _) ⟨w3.heap.size,0,none⟩ 1 1 [.int .i64 D,.int .i64 at',.string (bs A),.string (bs B),.string (bs T),.int .i64 N,.slice a5 E.length cap5,.slice a6 body.length cap6,.slice a7 els.length cap7] rfl rfl ?c1 ?c2 ?c3 ?c4 ?c5 ?c6 _ rfl ?_)
   case c1=>exact cells_nine_new _ _ (by simp [World.setCell]) _ _ _ _ _ _ _ _ _ _
   case c2=>intro u hu;simp at hu;rcases hu with rfl|rfl|rfl|rfl|rfl|rfl|rfl|rfl|rfl<;> rfl
   case c3=>decide
   case c4=>unfold maxLen;omega
   case c5=>omega
   case c6=>simp [World.setCell];omega
   ·intro g cap9 w6 hown hgrow hat hlt6
    have hblk:=own_blk HO5.out
    have hR:Rw (RS ((w3.setCell ⟨wr.heap.size,8,none⟩ (.slice a7 els.length cap7)).alloc (.cells #[.int .i64 D,.int .i64 at',.string (bs A),.string (bs B),.string (bs T),.int .i64 N,.slice a5 E.length cap5,.slice a6 body.length cap6,.slice a7 els.length cap7] 51)) (fun b=>w.heap.size≤b∧some b ≠ Value.ownBlock u3) n) (l.take k++[Sx.tS D at' A B T N E body els]) (cs++[.int .i64 D,.int .i64 at',.string (bs A),.string (bs B),.string (bs T),.int .i64 N,.slice a5 E.length cap5,.slice a6 body.length cap6,.slice a7 els.length cap7]):=by
     refine Rw.snoc (HR5.out.mono (fun d cc hd=>hd.keep (S:=[]) ((Kp.refl _ _).alloc _) (by simp))) ?_
     refine (HRE.out.base (P':=fun b=>w.heap.size≤b∧some b ≠ Value.ownBlock u3) (fun b _ hb=> ?_)).keep (S:=[]) ((Kp.refl _ _).alloc _) (by simp)
     exact ⟨by omega,fun e=>by have:=HOL.out b e;omega⟩
    have hR6:=rows_grow (R:=fun w P d c=>RS w P n d c) (fun w w' S P d c h hk hS=>h.keep hk hS) (fun w P P' d c h hP=>h.base hP) hR hgrow (by simpa [World.setCell] using hat)
    rw [←take_snoc HD.out] at hR6
    have HR6:=hide hR6
    have HO6:=hide hown
    have HK6:=hide (((HK.out.trans K3.out).alloc (.cells #[.int .i64 D,.int .i64 at',.string (bs A),.string (bs B),.string (bs T),.int .i64 N,.slice a5 E.length cap5,.slice a6 body.length cap6,.slice a7 els.length cap7] 51)).grown hgrow (fun k hk=> .inl (hblk k (by rw [hk];simp))))
    clear hR hR6 hown hgrow hat
    go_wp2
    go_roundw
    case rel=>exact ⟨k+1,_,by omega,by go_num,HK6.out,HO6.out,HR6.out⟩
    case measure=>simp [intOf];omega
  ·obtain rfl:k=l.length:=by omega
   have hR:=HR.out
   rw [List.take_length] at hR
   have hSl:Sl (RS wr (fun b=>w.heap.size≤b) n) wr (fun b=>w.heap.size≤b) l u3:=Sl.of_own HO.out rfl (fun b hb=>hb) (hR.mono (fun d cc hd=>hd.base (fun b _ hb=>hb.1)))
   obtain ⟨a5,c5,rfl,-⟩:=id hSl
   have HSl:=hide hSl
   clear hR hSl
   go_wp2
   go_ret
   exact ⟨a5,c5,rfl,HSl.out,HK.out⟩
theorem copyStmts_any (n:Nat):CSt n:=by
 induction n with
 |zero=>intro w P l v h;cases h
 |succ n ih=>exact copyStmts_step n ih
end Go.Proofs.YthcapfojofahkaaGreatDoor
namespace Go.Proofs.YthcapfojofahkaaGreatDoor
open Go.RowKit
theorem wG_nth' (n:Nat) (l:List Sx.Tr) (hw:Sx.wG n l≤1000000): ∀ (i:Nat) d,l[i]? =some d→Sx.wS n (Sx.gB d)≤1000000:=fun i d hd=>by
 have h1:Sx.sum (fun d=>Sx.wS n (Sx.gB d)) (l.take (i+1))=Sx.sum (fun d=>Sx.wS n (Sx.gB d)) (l.take i)+Sx.wS n (Sx.gB d):=Sx.sum_take _ l i d hd
 have h2:=Sx.sum_take_le (fun d=>Sx.wS n (Sx.gB d)) l (i+1)
 have:Sx.sum (fun d=>Sx.wS n (Sx.gB d)) l=Sx.wG n l:=rfl
 omega
structure G4 (w:World) (b:Nat) (nm:ByteArray) (at':Int) (uP uB:Value):Prop where
 c0:w.cell? ⟨b,0,none⟩=some (.string nm)
 c1:w.cell? ⟨b,1,none⟩=some (.int .i64 at')
 c2:w.cell? ⟨b,2,none⟩=some uP
 c3:w.cell? ⟨b,3,none⟩=some uB
 fz: ∀ o,w.frozen? ⟨b,o,none⟩=false
section
variable {w w':World} {S:List Nat} {b:Nat} {nm:ByteArray} {at':Int} {uP uB:Value}
theorem G4.lt (h:G4 w b nm at' uP uB):b<w.heap.size:=World.block_lt_of_cell? w ⟨b,0,none⟩ h.c0
theorem G4.keep (h:G4 w b nm at' uP uB) (k:Kp S w w') (hn:b ∉ S):G4 w' b nm at' uP uB:=
 ⟨k.some h.c0 hn,k.some h.c1 hn,k.some h.c2 hn,k.some h.c3 hn,fun o=>(k.frozen (p:=⟨b,o,none⟩) h.lt hn).trans (h.fz o)⟩
theorem G4.setP (h:G4 w b nm at' uP uB) (x:Value):G4 (w.setCell ⟨b,2,none⟩ x) b nm at' x uB:=by
 have h0:=h.c0
 have h1:=h.c1
 have h2:=h.c2
 have h3:=h.c3
 have hf:=h.fz
 constructor<;> simp [go_sem, *]
theorem G4.new (w:World) (nm:ByteArray) (at':Int) (uP uB:Value) (t:TypeId):G4 (w.alloc (.cells #[.string nm,.int .i64 at',uP,uB] t)) w.heap.size nm at' uP uB:=by
 constructor<;> simp [go_sem]
end
theorem rp_one {l:List Sx.Tr} {cs:List Value} (h:Rw RP l cs): ∀ u ∈ cs,u.oneCell'=true:=by
 induction l generalizing cs with
 |nil=>cases h;simp
 |cons d r ih=>
  obtain ⟨c1,c2,rfl,⟨nm,T,-,rfl⟩,h3⟩:=h
  intro u hu
  simp at hu
  rcases hu with rfl|rfl|hu
  ·rfl
  ·rfl
  ·exact ih h3 u hu
set_option maxRecDepth 100000 in
set_option maxHeartbeats 4000000 in
theorem copyProgram_any (n:Nat) (w:World) (P:Nat→Prop) (l:List Sx.Tr) (a:Option Addr) (cap:Nat) (h:Sl (RG w P n) w P l (.slice a l.length cap)) (hs:Sm n l):
  Calls Tryz.prog 8 #[.agg #[.slice a l.length cap]] w fun e w'=> ∃ a' cap',e= .returned (.agg #[.slice a' l.length cap'])∧Sl (RG w' (fun b=>w.heap.size≤b) n) w' (fun b=>w.heap.size≤b) l (.slice a' l.length cap')∧Kp [] w w':=by
 obtain ⟨i0,hi0,hz0,hz1,hz2⟩:=info_parts Tryz.infoStage
 obtain ⟨j0,hj0,gz0,gz1,gz2⟩:=info_parts Tryz.infoParam
 have HS:=hide h
 have IH:=hide (copyStmts_any n)
 have hl:=hs.len
 have HWT:=hide (wG_nth' n l hs.w)
 have HPS:=hide hs.ps
 clear h hs
 go_enter Tryz.func8,Tryz.ntmps8
 go_wp2
 go_loopw [4] (fun iv wr=> ∃ (k:Nat) (cs:List Value) (av:Option Addr) (nv cv:Nat),k≤l.length∧iv= .int .i64 k∧Hid (Kp [] w wr)∧Hid (wr.ownsRow (w.heap.size+3) 43 4 (.slice av nv cv) k cs)∧Hid (Rw (RG wr (fun b=>w.heap.size+3≤b∧some b ≠ Value.ownBlock (.slice av nv cv)) n) (l.take k) cs)∧
  wr.cell? ⟨w.heap.size,0,none⟩=some (.slice a l.length cap)∧wr.cell? ⟨w.heap.size+1+1,0,none⟩=some (.slice av nv cv)∧wr.cell? ⟨w.heap.size+1,0,none⟩=some (.slice none 0 0)∧wr.frozen? ⟨w.heap.size+1+1,0,none⟩=false∧wr.frozen? ⟨w.heap.size+1,0,none⟩=false) (fun iv _=>l.length - (intOf iv).toNat)
 case atStart=>exact ⟨0,[],none,0,0,Nat.zero_le _,rfl,((((Kp.refl _ _).alloc _).alloc _).alloc _),World.ownsRow_nil _ _ _ _,(by show Rw _ _ _;rw [List.take_zero];rfl),by simp [go_sem],by simp [go_sem],by simp [go_sem],by simp [go_sem],by simp [go_sem]⟩
 case round=>
  obtain ⟨k,cs,av,nv,cv,hk,rfl,HK,HO,HR,p0,o0,r0,of0,rf0⟩:=hrel
  have hz:=World.block_lt_of_cell? _ _ o0
  simp only at hz
  by_cases hlt:k<l.length
  ·obtain ⟨b,off,nm,at',ps,body,uP,uB,rfl,-,hd,m0,m1,m2,m3,hP,hB⟩:=GL.nth (HS.out.keep HK.out (by simp) (fun d c h=>h.keep HK.out (by simp))) k hlt
   obtain ⟨aP,cP,rfl,hPc⟩:=id hP
   obtain ⟨aB,cB,rfl⟩:=hB.slice
   have hwt:Sx.wS n body≤1000000:=HWT.out k _ hd
   have hps:ps.length≤1000000:=HPS.out k _ hd
   have HD:=hide hd
   have HB:=hide hB
   have HPC:=hide hPc
   have HOL:=hide (own_lt HO.out)
   have hk0:(0:Int)≤(k:Int):=by omega
   have hk1:(k:Int)<(l.length:Int):=by omega
   have hblt:=World.block_lt_of_cell? _ _ m0
   clear hP hB hd hPc
   by_cases hpn:ps=[]
   ·subst hpn
    cases aP with
    |none=>
     have HG6:=hide (G4.new wr (bs nm) at' (.slice none 0 0) (.slice aB body.length cB) 43)
     have K6:Hid (Kp [] wr (wr.alloc (.cells #[.string (bs nm),.int .i64 at',.slice none 0 0,.slice aB body.length cB] 43))):=(Kp.refl [] _).alloc _
     have HQ6:Hid (Sl RP (wr.alloc (.cells #[.string (bs nm),.int .i64 at',.slice none 0 0,.slice aB body.length cB] 43)) (fun b=>wr.heap.size<b) [] (.slice none 0 0)):=Sl.nil _ _ _ _ _
     go_wp2_with fail
     refine (IH.out _ P body _ (HB.out.keep K6.out (by simp)) hwt).mono ?_
     rintro e w7 ⟨a7,cap7,rfl,hB7,hk7⟩
     have hG7:=HG6.out.keep hk7 (by simp)
     have K7:Hid (Kp [] wr (w7.setCell ⟨wr.heap.size,3,none⟩ (.slice a7 body.length cap7))):=(K6.out.trans hk7).nb (Nat.le_refl _) _ _
     have kr:=Kp.rb (b:=wr.heap.size) (S:=[]) (Kp.refl _ w7) 3 (.slice a7 body.length cap7)
     have hs6:=HG6.out.lt
     have HRE:Hid (RG (w7.setCell ⟨wr.heap.size,3,none⟩ (.slice a7 body.length cap7)) (fun b=>wr.heap.size<b) n (Sx.tG nm at' [] body) [.string (bs nm),.int .i64 at',.slice none 0 0,.slice a7 body.length cap7]):=
      ⟨nm,at',[],body,_,_,rfl,rfl,(HQ6.out.keep hk7 (by simp) (fun _ _ h=>h)).keep kr (by simp) (fun _ _ h=>h),(hB7.base (P':=fun b=>wr.heap.size<b) (fun b _ hb=>Nat.lt_of_lt_of_le hs6 hb)).keep kr (by simp)⟩
     have hsz7:=hG7.lt
     obtain ⟨y0,y1,y2,y3,yf⟩:=hG7
     have yf3:=yf 3
     have k57:=K6.out.trans hk7
     have p7:=k57.some p0 (by simp)
     have o7:=k57.some o0 (by simp)
     have r7:=k57.some r0 (by simp)
     have of7:w7.frozen? ⟨w.heap.size+1+1,0,none⟩=false:=(k57.frozen (p:=⟨w.heap.size+1+1,0,none⟩) (by dsimp only;omega) (by simp)).trans of0
     have rf7:w7.frozen? ⟨w.heap.size+1,0,none⟩=false:=(k57.frozen (p:=⟨w.heap.size+1,0,none⟩) (by dsimp only;omega) (by simp)).trans rf0
     have HO5:=hide (own_keep HO.out K7.out (by simp))
     have HR5:=hide (HR.out.mono (fun d cc hd=>hd.keep K7.out (by simp)))
     have kr2:=(Kp.rb (b:=wr.heap.size) (S:=[]) (Kp.refl _ w7) 3 (.slice a7 body.length cap7)).alloc (.cells #[.string (bs nm),.int .i64 at',.slice none 0 0,.slice a7 body.length cap7] 43)
     have KR:=hide kr2
     clear hB7 hk7 yf kr k57 kr2
     go_wp2_with (at_builtin;refine wpList_append_lies _ rfl _ _ 22 rfl (w.heap.size+3) 43 i0 (.agg #[.string ⟨#[]⟩,.int .i64 0,.slice none 0 0,.slice none 0 0]) 4 72 Tryz.underlying22 hi0 hz0 hz1 hz2 rfl (by decide) _ _ _ rfl (by exact HO5.out.alloc _) ⟨w7.heap.size,0,none⟩ 1 1 [.string (bs nm),.int .i64 at',.slice none 0 0,.slice a7 body.length cap7] rfl rfl ?c1 ?c2 ?c3 ?c4 ?c5 ?c6 _ rfl ?_)
     case c1=>exact cells_four_new _ _ (by simp [World.setCell]) _ _ _ _ _
     case c2=>intro u hu;simp at hu;rcases hu with rfl|rfl|rfl|rfl<;> rfl
     case c3=>decide
     case c4=>unfold maxLen;omega
     case c5=>omega
     case c6=>simp [World.setCell];omega
     intro g cap9 w9 hown hgrow hat hlt9
     have hblk:=own_blk HO5.out
     have hR:Rw (RG ((w7.setCell ⟨wr.heap.size,3,none⟩ (.slice a7 body.length cap7)).alloc (.cells #[.string (bs nm),.int .i64 at',.slice none 0 0,.slice a7 body.length cap7] 43)) (fun b=>w.heap.size+3≤b∧some b ≠ Value.ownBlock (.slice av nv cv)) n) (l.take k++[Sx.tG nm at' [] body]) (cs++[.string (bs nm),.int .i64 at',.slice none 0 0,.slice a7 body.length cap7]):=by
      refine Rw.snoc (HR5.out.mono (fun d cc hd=>hd.keep (S:=[]) ((Kp.refl _ _).alloc _) (by simp))) ?_
      refine (HRE.out.base (P':=fun b=>w.heap.size+3≤b∧some b ≠ Value.ownBlock (.slice av nv cv)) (fun b _ hb=> ?_)).keep (S:=[]) ((Kp.refl _ _).alloc _) (by simp)
      exact ⟨by omega,fun e=>by have:=HOL.out b e;omega⟩
     have hR6:=rows_grow (R:=fun w P d c=>RG w P n d c) (fun w w' S P d c h hk hS=>h.keep hk hS) (fun w P P' d c h hP=>h.base hP) hR hgrow (by simpa [World.setCell] using hat)
     rw [←take_snoc HD.out] at hR6
     have kg:=Kp.of_grown hgrow
     have hno: ∀ j,j<w.heap.size+3→j ∉ (Value.ownBlock (.slice av nv cv)).toList:=fun j hj hm=>by have:=hblk j hm;omega
     have hzk:=KR.out.size
     have p8:=KR.out.some p7 (by simp;omega)
     have o8:=KR.out.some o7 (by simp;omega)
     have r8:=KR.out.some r7 (by simp;omega)
     have of8:=(KR.out.frozen (p:=⟨w.heap.size+1+1,0,none⟩) (by dsimp only;omega) (by simp;omega)).trans of7
     have rf8:=(KR.out.frozen (p:=⟨w.heap.size+1,0,none⟩) (by dsimp only;omega) (by simp;omega)).trans rf7
     have p9:=kg.some p8 (hno _ (by dsimp only;omega))
     have o9:=kg.some o8 (hno _ (by dsimp only;omega))
     have r9:=kg.some r8 (hno _ (by dsimp only;omega))
     have of9:=(kg.frozen (p:=⟨w.heap.size+1+1,0,none⟩) (by dsimp only;omega) (hno _ (by dsimp only;omega))).trans of8
     have rf9:=(kg.frozen (p:=⟨w.heap.size+1,0,none⟩) (by dsimp only;omega) (hno _ (by dsimp only;omega))).trans rf8
     have hK9:=(((HK.out.trans K7.out).alloc (.cells #[.string (bs nm),.int .i64 at',.slice none 0 0,.slice a7 body.length cap7] 43)).grown hgrow (fun k hk=> .inl (by have:=hblk k (by rw [hk];simp);omega)))
     have kz:Kp [w.heap.size+1+1] w9 (w9.setCell ⟨w.heap.size+1+1,0,none⟩ (.slice (some ⟨g,0,none⟩) (k+1) cap9)):=Kp.rb (Kp.refl _ _) _ _
     have HK9:Hid (Kp [] w (w9.setCell ⟨w.heap.size+1+1,0,none⟩ (.slice (some ⟨g,0,none⟩) (k+1) cap9))):=hK9.nb (by omega) _ _
     have HO9:=hide (own_keep hown kz (by simp))
     have HR9:Hid (Rw (RG (w9.setCell ⟨w.heap.size+1+1,0,none⟩ (.slice (some ⟨g,0,none⟩) (k+1) cap9)) (fun b=>w.heap.size+3≤b∧some b ≠ some g) n) (l.take (k+1)) (cs++[.string (bs nm),.int .i64 at',.slice none 0 0,.slice a7 body.length cap7])):=hR6.mono (fun d cc hd=>hd.keep kz (fun k hk hP=>by have h5:w.heap.size+3≤k:=hP.1;simp at hk;omega))
     have X1:Hid _:=kz.some p9 (by simp;omega)
     have X2:Hid _:=kz.some r9 (by simp)
     have X3:Hid _:=(kz.frozen (p:=⟨w.heap.size+1,0,none⟩) (World.block_lt_of_cell? _ _ r9) (by simp)).trans rf9
     clear hR hR6 hown hgrow hat kg kz hK9 p8 o8 r8 of8 rf8
     go_wp2
     go_roundw
     case rel=>exact ⟨k+1,_,_,_,_,by omega,by go_num,HK9.out,HO9.out,HR9.out,X1.out,by simp [go_sem,o9],X2.out,by simp [go_sem,of9],X3.out⟩
     case measure=>simp [intOf];omega
    |some ad=>
     have HG6:=hide (G4.new wr (bs nm) at' (.slice none 0 0) (.slice aB body.length cB) 43)
     have K6:Hid (Kp [] wr (wr.alloc (.cells #[.string (bs nm),.int .i64 at',.slice none 0 0,.slice aB body.length cB] 43))):=(Kp.refl [] _).alloc _
     have HQ6:Hid (Sl RP (wr.alloc (.cells #[.string (bs nm),.int .i64 at',.slice none 0 0,.slice aB body.length cB] 43)) (fun b=>wr.heap.size<b) [] (.slice none 0 0)):=Sl.nil _ _ _ _ _
     go_wp2_with fail
     refine (IH.out _ P body _ (HB.out.keep K6.out (by simp)) hwt).mono ?_
     rintro e w7 ⟨a7,cap7,rfl,hB7,hk7⟩
     have hG7:=HG6.out.keep hk7 (by simp)
     have K7:Hid (Kp [] wr (w7.setCell ⟨wr.heap.size,3,none⟩ (.slice a7 body.length cap7))):=(K6.out.trans hk7).nb (Nat.le_refl _) _ _
     have kr:=Kp.rb (b:=wr.heap.size) (S:=[]) (Kp.refl _ w7) 3 (.slice a7 body.length cap7)
     have hs6:=HG6.out.lt
     have HRE:Hid (RG (w7.setCell ⟨wr.heap.size,3,none⟩ (.slice a7 body.length cap7)) (fun b=>wr.heap.size<b) n (Sx.tG nm at' [] body) [.string (bs nm),.int .i64 at',.slice none 0 0,.slice a7 body.length cap7]):=
      ⟨nm,at',[],body,_,_,rfl,rfl,(HQ6.out.keep hk7 (by simp) (fun _ _ h=>h)).keep kr (by simp) (fun _ _ h=>h),(hB7.base (P':=fun b=>wr.heap.size<b) (fun b _ hb=>Nat.lt_of_lt_of_le hs6 hb)).keep kr (by simp)⟩
     have hsz7:=hG7.lt
     obtain ⟨y0,y1,y2,y3,yf⟩:=hG7
     have yf3:=yf 3
     have k57:=K6.out.trans hk7
     have p7:=k57.some p0 (by simp)
     have o7:=k57.some o0 (by simp)
     have r7:=k57.some r0 (by simp)
     have of7:w7.frozen? ⟨w.heap.size+1+1,0,none⟩=false:=(k57.frozen (p:=⟨w.heap.size+1+1,0,none⟩) (by dsimp only;omega) (by simp)).trans of0
     have rf7:w7.frozen? ⟨w.heap.size+1,0,none⟩=false:=(k57.frozen (p:=⟨w.heap.size+1,0,none⟩) (by dsimp only;omega) (by simp)).trans rf0
     have HO5:=hide (own_keep HO.out K7.out (by simp))
     have HR5:=hide (HR.out.mono (fun d cc hd=>hd.keep K7.out (by simp)))
     have kr2:=(Kp.rb (b:=wr.heap.size) (S:=[]) (Kp.refl _ w7) 3 (.slice a7 body.length cap7)).alloc (.cells #[.string (bs nm),.int .i64 at',.slice none 0 0,.slice a7 body.length cap7] 43)
     have KR:=hide kr2
     clear hB7 hk7 yf kr k57 kr2
     go_wp2_with (at_builtin;refine wpList_append_lies _ rfl _ _ 22 rfl (w.heap.size+3) 43 i0 (.agg #[.string ⟨#[]⟩,.int .i64 0,.slice none 0 0,.slice none 0 0]) 4 72 Tryz.underlying22 hi0 hz0 hz1 hz2 rfl (by decide) _ _ _ rfl (by exact HO5.out.alloc _) ⟨w7.heap.size,0,none⟩ 1 1 [.string (bs nm),.int .i64 at',.slice none 0 0,.slice a7 body.length cap7] rfl rfl ?c1 ?c2 ?c3 ?c4 ?c5 ?c6 _ rfl ?_)
     case c1=>exact cells_four_new _ _ (by simp [World.setCell]) _ _ _ _ _
     case c2=>intro u hu;simp at hu;rcases hu with rfl|rfl|rfl|rfl<;> rfl
     case c3=>decide
     case c4=>unfold maxLen;omega
     case c5=>omega
     case c6=>simp [World.setCell];omega
     intro g cap9 w9 hown hgrow hat hlt9
     have hblk:=own_blk HO5.out
     have hR:Rw (RG ((w7.setCell ⟨wr.heap.size,3,none⟩ (.slice a7 body.length cap7)).alloc (.cells #[.string (bs nm),.int .i64 at',.slice none 0 0,.slice a7 body.length cap7] 43)) (fun b=>w.heap.size+3≤b∧some b ≠ Value.ownBlock (.slice av nv cv)) n) (l.take k++[Sx.tG nm at' [] body]) (cs++[.string (bs nm),.int .i64 at',.slice none 0 0,.slice a7 body.length cap7]):=by
      refine Rw.snoc (HR5.out.mono (fun d cc hd=>hd.keep (S:=[]) ((Kp.refl _ _).alloc _) (by simp))) ?_
      refine (HRE.out.base (P':=fun b=>w.heap.size+3≤b∧some b ≠ Value.ownBlock (.slice av nv cv)) (fun b _ hb=> ?_)).keep (S:=[]) ((Kp.refl _ _).alloc _) (by simp)
      exact ⟨by omega,fun e=>by have:=HOL.out b e;omega⟩
     have hR6:=rows_grow (R:=fun w P d c=>RG w P n d c) (fun w w' S P d c h hk hS=>h.keep hk hS) (fun w P P' d c h hP=>h.base hP) hR hgrow (by simpa [World.setCell] using hat)
     rw [←take_snoc HD.out] at hR6
     have kg:=Kp.of_grown hgrow
     have hno: ∀ j,j<w.heap.size+3→j ∉ (Value.ownBlock (.slice av nv cv)).toList:=fun j hj hm=>by have:=hblk j hm;omega
     have hzk:=KR.out.size
     have p8:=KR.out.some p7 (by simp;omega)
     have o8:=KR.out.some o7 (by simp;omega)
     have r8:=KR.out.some r7 (by simp;omega)
     have of8:=(KR.out.frozen (p:=⟨w.heap.size+1+1,0,none⟩) (by dsimp only;omega) (by simp;omega)).trans of7
     have rf8:=(KR.out.frozen (p:=⟨w.heap.size+1,0,none⟩) (by dsimp only;omega) (by simp;omega)).trans rf7
     have p9:=kg.some p8 (hno _ (by dsimp only;omega))
     have o9:=kg.some o8 (hno _ (by dsimp only;omega))
     have r9:=kg.some r8 (hno _ (by dsimp only;omega))
     have of9:=(kg.frozen (p:=⟨w.heap.size+1+1,0,none⟩) (by dsimp only;omega) (hno _ (by dsimp only;omega))).trans of8
     have rf9:=(kg.frozen (p:=⟨w.heap.size+1,0,none⟩) (by dsimp only;omega) (hno _ (by dsimp only;omega))).trans rf8
     have hK9:=(((HK.out.trans K7.out).alloc (.cells #[.string (bs nm),.int .i64 at',.slice none 0 0,.slice a7 body.length cap7] 43)).grown hgrow (fun k hk=> .inl (by have:=hblk k (by rw [hk];simp);omega)))
     have kz:Kp [w.heap.size+1+1] w9 (w9.setCell ⟨w.heap.size+1+1,0,none⟩ (.slice (some ⟨g,0,none⟩) (k+1) cap9)):=Kp.rb (Kp.refl _ _) _ _
     have HK9:Hid (Kp [] w (w9.setCell ⟨w.heap.size+1+1,0,none⟩ (.slice (some ⟨g,0,none⟩) (k+1) cap9))):=hK9.nb (by omega) _ _
     have HO9:=hide (own_keep hown kz (by simp))
     have HR9:Hid (Rw (RG (w9.setCell ⟨w.heap.size+1+1,0,none⟩ (.slice (some ⟨g,0,none⟩) (k+1) cap9)) (fun b=>w.heap.size+3≤b∧some b ≠ some g) n) (l.take (k+1)) (cs++[.string (bs nm),.int .i64 at',.slice none 0 0,.slice a7 body.length cap7])):=hR6.mono (fun d cc hd=>hd.keep kz (fun k hk hP=>by have h5:w.heap.size+3≤k:=hP.1;simp at hk;omega))
     have X1:Hid _:=kz.some p9 (by simp;omega)
     have X2:Hid _:=kz.some r9 (by simp)
     have X3:Hid _:=(kz.frozen (p:=⟨w.heap.size+1,0,none⟩) (World.block_lt_of_cell? _ _ r9) (by simp)).trans rf9
     clear hR hR6 hown hgrow hat kg kz hK9 p8 o8 r8 of8 rf8
     go_wp2
     go_roundw
     case rel=>exact ⟨k+1,_,_,_,_,by omega,by go_num,HK9.out,HO9.out,HR9.out,X1.out,by simp [go_sem,o9],X2.out,by simp [go_sem,of9],X3.out⟩
     case measure=>simp [intOf];omega
   ·skip
    obtain ⟨g5,og5,cs5,rfl,-,hr5,hc5⟩:=HPC.out.resolve_left hpn
    have hl5:0<ps.length:=List.length_pos_iff.2 hpn
    have HR0:=hide hr5
    have HC0:=hide hc5
    have hln:=hr5.len RP_len
    clear hr5 hc5
    go_wp2_with (at_builtin;refine wpList_append_lies _ rfl _ _ 40 rfl (wr.heap.size+1) 44 j0 (.agg #[.string ⟨#[]⟩,.string ⟨#[]⟩]) 2 32 Tryz.underlying40 hj0 gz0 gz1 gz2 rfl (by decide) (.slice none 0 0) 0 [] rfl (World.ownsRow_nil _ _ _ _) ⟨g5,og5,none⟩ ps.length cP cs5 rfl hln ?e1 ?e2 ?e3 ?e4 ?e5 ?e6 _ rfl ?_)
    case e1=>
     intro j u hu
     exact ((Kp.refl [] _).alloc _).some (HC0.out j u hu) (by simp)
    case e2=>exact rp_one HR0.out
    case e4=>unfold maxLen;omega
    case e5=>omega
    intro g6 cap6 w5 hown6 hgrow6 hat6 hlt6
    have kg6:Kp [] (wr.alloc (.cells #[.string (bs nm),.int .i64 at',.slice (some ⟨g5,og5,none⟩) ps.length cP,.slice aB body.length cB] 43)) w5:=Kp.of_grown hgrow6
    have hQ:Sl RP w5 (fun b=>wr.heap.size<b) ps (.slice (some ⟨g6,0,none⟩) ps.length cap6):=Sl.of_own hown6 rfl (fun b hb=>by omega) HR0.out
    have hG5:=(G4.new wr (bs nm) at' (.slice (some ⟨g5,og5,none⟩) ps.length cP) (.slice aB body.length cB) 43).keep kg6 (by simp)
    have HG6:=hide (hG5.setP (.slice (some ⟨g6,0,none⟩) ps.length cap6))
    have HQ6:=hide (hQ.keep (Kp.rb (b:=wr.heap.size) (S:=[]) (Kp.refl _ w5) 2 (.slice (some ⟨g6,0,none⟩) ps.length cap6)) (by simp) (fun _ _ h=>h))
    have K6:Hid (Kp [] wr (w5.setCell ⟨wr.heap.size,2,none⟩ (.slice (some ⟨g6,0,none⟩) ps.length cap6))):=(((Kp.refl [] _).alloc _).trans kg6).nb (Nat.le_refl _) _ _
    have hsz5:=hG5.lt
    obtain ⟨-,-,x2,x3,xf⟩:=hG5
    have xf2:=xf 2
    clear hQ xf hown6 hgrow6 hat6 kg6
    go_wp2_with fail
    refine (IH.out _ P body _ (HB.out.keep K6.out (by simp)) hwt).mono ?_
    rintro e w7 ⟨a7,cap7,rfl,hB7,hk7⟩
    have hG7:=HG6.out.keep hk7 (by simp)
    have K7:Hid (Kp [] wr (w7.setCell ⟨wr.heap.size,3,none⟩ (.slice a7 body.length cap7))):=(K6.out.trans hk7).nb (Nat.le_refl _) _ _
    have kr:=Kp.rb (b:=wr.heap.size) (S:=[]) (Kp.refl _ w7) 3 (.slice a7 body.length cap7)
    have hs6:=HG6.out.lt
    have HRE:Hid (RG (w7.setCell ⟨wr.heap.size,3,none⟩ (.slice a7 body.length cap7)) (fun b=>wr.heap.size<b) n (Sx.tG nm at' ps body) [.string (bs nm),.int .i64 at',.slice (some ⟨g6,0,none⟩) ps.length cap6,.slice a7 body.length cap7]):=
     ⟨nm,at',ps,body,_,_,rfl,rfl,(HQ6.out.keep hk7 (by simp) (fun _ _ h=>h)).keep kr (by simp) (fun _ _ h=>h),(hB7.base (P':=fun b=>wr.heap.size<b) (fun b _ hb=>Nat.lt_of_lt_of_le hs6 hb)).keep kr (by simp)⟩
    have hsz7:=hG7.lt
    obtain ⟨y0,y1,y2,y3,yf⟩:=hG7
    have yf3:=yf 3
    have k57:=K6.out.trans hk7
    have p7:=k57.some p0 (by simp)
    have o7:=k57.some o0 (by simp)
    have r7:=k57.some r0 (by simp)
    have of7:w7.frozen? ⟨w.heap.size+1+1,0,none⟩=false:=(k57.frozen (p:=⟨w.heap.size+1+1,0,none⟩) (by dsimp only;omega) (by simp)).trans of0
    have rf7:w7.frozen? ⟨w.heap.size+1,0,none⟩=false:=(k57.frozen (p:=⟨w.heap.size+1,0,none⟩) (by dsimp only;omega) (by simp)).trans rf0
    have HO5:=hide (own_keep HO.out K7.out (by simp))
    have HR5:=hide (HR.out.mono (fun d cc hd=>hd.keep K7.out (by simp)))
    have kr2:=(Kp.rb (b:=wr.heap.size) (S:=[]) (Kp.refl _ w7) 3 (.slice a7 body.length cap7)).alloc (.cells #[.string (bs nm),.int .i64 at',.slice (some ⟨g6,0,none⟩) ps.length cap6,.slice a7 body.length cap7] 43)
    have KR:=hide kr2
    clear hB7 hk7 yf kr k57 kr2
    go_wp2_with (at_builtin;refine wpList_append_lies _ rfl _ _ 22 rfl (w.heap.size+3) 43 i0 (.agg #[.string ⟨#[]⟩,.int .i64 0,.slice none 0 0,.slice none 0 0]) 4 72 Tryz.underlying22 hi0 hz0 hz1 hz2 rfl (by decide) _ _ _ rfl (by exact HO5.out.alloc _) ⟨w7.heap.size,0,none⟩ 1 1 [.string (bs nm),.int .i64 at',.slice (some ⟨g6,0,none⟩) ps.length cap6,.slice a7 body.length cap7] rfl rfl ?c1 ?c2 ?c3 ?c4 ?c5 ?c6 _ rfl ?_)
    case c1=>exact cells_four_new _ _ (by simp [World.setCell]) _ _ _ _ _
    case c2=>intro u hu;simp at hu;rcases hu with rfl|rfl|rfl|rfl<;> rfl
    case c3=>decide
    case c4=>unfold maxLen;omega
    case c5=>omega
    case c6=>simp [World.setCell];omega
    intro g cap9 w9 hown hgrow hat hlt9
    have hblk:=own_blk HO5.out
    have hR:Rw (RG ((w7.setCell ⟨wr.heap.size,3,none⟩ (.slice a7 body.length cap7)).alloc (.cells #[.string (bs nm),.int .i64 at',.slice (some ⟨g6,0,none⟩) ps.length cap6,.slice a7 body.length cap7] 43)) (fun b=>w.heap.size+3≤b∧some b ≠ Value.ownBlock (.slice av nv cv)) n) (l.take k++[Sx.tG nm at' ps body]) (cs++[.string (bs nm),.int .i64 at',.slice (some ⟨g6,0,none⟩) ps.length cap6,.slice a7 body.length cap7]):=by
     refine Rw.snoc (HR5.out.mono (fun d cc hd=>hd.keep (S:=[]) ((Kp.refl _ _).alloc _) (by simp))) ?_
     refine (HRE.out.base (P':=fun b=>w.heap.size+3≤b∧some b ≠ Value.ownBlock (.slice av nv cv)) (fun b _ hb=> ?_)).keep (S:=[]) ((Kp.refl _ _).alloc _) (by simp)
     exact ⟨by omega,fun e=>by have:=HOL.out b e;omega⟩
    have hR6:=rows_grow (R:=fun w P d c=>RG w P n d c) (fun w w' S P d c h hk hS=>h.keep hk hS) (fun w P P' d c h hP=>h.base hP) hR hgrow (by simpa [World.setCell] using hat)
    rw [←take_snoc HD.out] at hR6
    have kg:=Kp.of_grown hgrow
    have hno: ∀ j,j<w.heap.size+3→j ∉ (Value.ownBlock (.slice av nv cv)).toList:=fun j hj hm=>by have:=hblk j hm;omega
    have hzk:=KR.out.size
    have p8:=KR.out.some p7 (by simp;omega)
    have o8:=KR.out.some o7 (by simp;omega)
    have r8:=KR.out.some r7 (by simp;omega)
    have of8:=(KR.out.frozen (p:=⟨w.heap.size+1+1,0,none⟩) (by dsimp only;omega) (by simp;omega)).trans of7
    have rf8:=(KR.out.frozen (p:=⟨w.heap.size+1,0,none⟩) (by dsimp only;omega) (by simp;omega)).trans rf7
    have p9:=kg.some p8 (hno _ (by dsimp only;omega))
    have o9:=kg.some o8 (hno _ (by dsimp only;omega))
    have r9:=kg.some r8 (hno _ (by dsimp only;omega))
    have of9:=(kg.frozen (p:=⟨w.heap.size+1+1,0,none⟩) (by dsimp only;omega) (hno _ (by dsimp only;omega))).trans of8
    have rf9:=(kg.frozen (p:=⟨w.heap.size+1,0,none⟩) (by dsimp only;omega) (hno _ (by dsimp only;omega))).trans rf8
    have hK9:=(((HK.out.trans K7.out).alloc (.cells #[.string (bs nm),.int .i64 at',.slice (some ⟨g6,0,none⟩) ps.length cap6,.slice a7 body.length cap7] 43)).grown hgrow (fun k hk=> .inl (by have:=hblk k (by rw [hk];simp);omega)))
    have kz:Kp [w.heap.size+1+1] w9 (w9.setCell ⟨w.heap.size+1+1,0,none⟩ (.slice (some ⟨g,0,none⟩) (k+1) cap9)):=Kp.rb (Kp.refl _ _) _ _
    have HK9:Hid (Kp [] w (w9.setCell ⟨w.heap.size+1+1,0,none⟩ (.slice (some ⟨g,0,none⟩) (k+1) cap9))):=hK9.nb (by omega) _ _
    have HO9:=hide (own_keep hown kz (by simp))
    have HR9:Hid (Rw (RG (w9.setCell ⟨w.heap.size+1+1,0,none⟩ (.slice (some ⟨g,0,none⟩) (k+1) cap9)) (fun b=>w.heap.size+3≤b∧some b ≠ some g) n) (l.take (k+1)) (cs++[.string (bs nm),.int .i64 at',.slice (some ⟨g6,0,none⟩) ps.length cap6,.slice a7 body.length cap7])):=hR6.mono (fun d cc hd=>hd.keep kz (fun k hk hP=>by have h5:w.heap.size+3≤k:=hP.1;simp at hk;omega))
    have X1:Hid _:=kz.some p9 (by simp;omega)
    have X2:Hid _:=kz.some r9 (by simp)
    have X3:Hid _:=(kz.frozen (p:=⟨w.heap.size+1,0,none⟩) (World.block_lt_of_cell? _ _ r9) (by simp)).trans rf9
    clear hR hR6 hown hgrow hat kg kz hK9 p8 o8 r8 of8 rf8
    go_wp2
    go_roundw
    case rel=>exact ⟨k+1,_,_,_,_,by omega,by go_num,HK9.out,HO9.out,HR9.out,X1.out,by simp [go_sem,o9],X2.out,by simp [go_sem,of9],X3.out⟩
    case measure=>simp [intOf];omega
  ·obtain rfl:k=l.length:=by omega
   have hR:=HR.out
   rw [List.take_length] at hR
   have hSl:Sl (RG wr (fun b=>w.heap.size+3≤b) n) wr (fun b=>w.heap.size+3≤b) l (.slice av nv cv):=Sl.of_own HO.out rfl (fun b hb=>hb) (hR.mono (fun d cc hd=>hd.base (fun b _ hb=>hb.1)))
   obtain ⟨a5,c5,hv5,-⟩:=id hSl
   cases hv5
   have HSl:=hide hSl
   have h01:=World.block_lt_of_cell? _ _ r0
   clear hR hSl
   go_wp2
   have kz:Kp [w.heap.size+1] wr (wr.setCell ⟨w.heap.size+1,0,none⟩ (.slice av l.length cv)):=Kp.rb (Kp.refl _ _) _ _
   refine bodyPost_ret (v:= .agg #[.slice av l.length cv]) (by simp [results,Tryz.results8,go_sem,r0]) rfl ⟨av,cv,rfl,?_,HK.out.nb (by omega) _ _⟩
   have h3:Sl (RG (wr.setCell ⟨w.heap.size+1,0,none⟩ (.slice av l.length cv)) (fun b=>w.heap.size+3≤b) n) (wr.setCell ⟨w.heap.size+1,0,none⟩ (.slice av l.length cv)) (fun b=>w.heap.size+3≤b) l (.slice av l.length cv):=HSl.out.keep kz (by simp) (fun d c h=>h.keep kz (by simp))
   exact h3.base (fun b _ hb=>by omega) (fun d c h=>⟨h.base (fun b _ hb=>by omega),by obtain ⟨nm,at',ps,body,uP,uB,_,rfl,_⟩:=h;simp⟩)
end Go.Proofs.YthcapfojofahkaaGreatDoor
