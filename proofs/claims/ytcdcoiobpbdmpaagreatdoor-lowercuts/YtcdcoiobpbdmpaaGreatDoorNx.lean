import Derived.Test.YtcdcoiobpbdmpaaGreatDoorRows
import Derived.Test.YtcdcoiobpbdmpaaGreatDoorMaa
import Derived.Test.YtcdcoiobpbdmpaaGreatDoorMab
import Derived.Test.YtcdcoiobpbdmpaaGreatDoorMac
import Derived.Test.YtcdcoiobpbdmpaaGreatDoorMad
import Derived.Test.YtcdcoiobpbdmpaaGreatDoorMae
import Derived.Test.YtcdcoiobpbdmpaaGreatDoorMaf
import Derived.Test.YtcdcoiobpbdmpaaGreatDoorMag
import Derived.Test.YtcdcoiobpbdmpaaGreatDoorMah
import Derived.Test.YtcdcoiobpbdmpaaGreatDoorMai
import Derived.Test.YtcdcoiobpbdmpaaGreatDoorMaj
import Derived.Test.YtcdcoiobpbdmpaaGreatDoorMak
import Derived.Test.YtcdcoiobpbdmpaaGreatDoorMal
import Derived.Test.YtcdcoiobpbdmpaaGreatDoorMam
import Derived.Test.YtcdcoiobpbdmpaaGreatDoorMan
import Derived.Test.YtcdcoiobpbdmpaaGreatDoorMao
import Derived.Test.YtcdcoiobpbdmpaaGreatDoorMap
import Derived.Test.YtcdcoiobpbdmpaaGreatDoorMaq
import Derived.Test.YtcdcoiobpbdmpaaGreatDoorMar
import Derived.Test.YtcdcoiobpbdmpaaGreatDoorMas
import Derived.Test.YtcdcoiobpbdmpaaGreatDoorMat
import Derived.Test.YtcdcoiobpbdmpaaGreatDoorMau
import Derived.Test.YtcdcoiobpbdmpaaGreatDoorMav
import Derived.Test.YtcdcoiobpbdmpaaGreatDoorMaw
import Derived.Test.YtcdcoiobpbdmpaaGreatDoorMax
import Derived.Test.YtcdcoiobpbdmpaaGreatDoorMay
import Derived.Test.YtcdcoiobpbdmpaaGreatDoorMaz
import Derived.Test.YtcdcoiobpbdmpaaGreatDoorMba
import Derived.Test.YtcdcoiobpbdmpaaGreatDoorMbb
import Derived.Test.YtcdcoiobpbdmpaaGreatDoorMbc
import Derived.Test.YtcdcoiobpbdmpaaGreatDoorMbd
import Derived.Test.YtcdcoiobpbdmpaaGreatDoorMbe
import Derived.Test.YtcdcoiobpbdmpaaGreatDoorMbf
import Derived.Test.YtcdcoiobpbdmpaaGreatDoorMbg
import Derived.Test.YtcdcoiobpbdmpaaGreatDoorMbh
import Derived.Test.YtcdcoiobpbdmpaaGreatDoorMbi
import Derived.Test.YtcdcoiobpbdmpaaGreatDoorMbj
import Derived.Test.YtcdcoiobpbdmpaaGreatDoorMbk
import Derived.Test.YtcdcoiobpbdmpaaGreatDoorMbl
import Derived.Test.YtcdcoiobpbdmpaaGreatDoorMbm
import Derived.Test.YtcdcoiobpbdmpaaGreatDoorMbn
import Derived.Test.YtcdcoiobpbdmpaaGreatDoorMbo
import Derived.Test.YtcdcoiobpbdmpaaGreatDoorMbp
import Derived.Test.YtcdcoiobpbdmpaaGreatDoorMbq
import Derived.Test.YtcdcoiobpbdmpaaGreatDoorMbr
import Derived.Test.YtcdcoiobpbdmpaaGreatDoorMbs
import Derived.Test.YtcdcoiobpbdmpaaGreatDoorMbt
import Derived.Test.YtcdcoiobpbdmpaaGreatDoorMbu
import Derived.Test.YtcdcoiobpbdmpaaGreatDoorMbv
import Derived.Test.YtcdcoiobpbdmpaaGreatDoorMbw
import Derived.Test.YtcdcoiobpbdmpaaGreatDoorMbx
import Derived.Test.YtcdcoiobpbdmpaaGreatDoorMby
import Derived.Test.YtcdcoiobpbdmpaaGreatDoorMbz
import Derived.Test.YtcdcoiobpbdmpaaGreatDoorCards
import Derived.Test.YtcdcoiobpbdmpaaGreatDoorTie
import Derived.BigQuiet
import Derived.BigRegion
import Derived.ChangeArms
import Derived.Deep.AppendLies
import Derived.Deep.Cut
import Derived.Deep.LoopGhost
import Derived.Deep.MidRow
import Derived.Deep.Onto
import Derived.Deep.QuietTactic
import Derived.Deep.RegionHeld
import Derived.Deep.RegionHeld3
import Derived.Deep.RegionHeldLaw
import Derived.Deep.RegionLaw
import Derived.Deep.RegionWith
import Derived.Deep.Upon
import Derived.Defers
import Derived.JoinedTies
import Derived.KernelRfl
import Derived.LaidByTextLater
import Derived.LaidMore
import Derived.LaidOnce
import Derived.LaidSub
import Derived.Laws.AppendOwnNone
import Derived.Laws.Externs
import Derived.Laws.OwnMore
import Derived.Laws.Strings3
import Derived.Lay
import Derived.Lib.AppendStr
import Derived.Lib.Builder
import Derived.Lib.Bytealg
import Derived.Lib.ItoaLen
import Derived.Lib.ItoaMem
import Derived.Lib.ItoaNum
import Derived.Lib.LaidTab
import Derived.Lib.OthersKept
import Derived.Lib.SliceRun
import Derived.Lib.Slices
import Derived.Lib.Strings
import Derived.Lib.UnsafeStr
import Derived.Lib.Walk
import Derived.Maps.OwnSet
import Derived.OpenShut
import Derived.ProofKit
import Derived.Recover
import Derived.SevenTiedAt
import Derived.Shelf.LaysM
import Derived.Shelf.Small.Wraps
import Derived.Shelf.Strconv.Clone
import Derived.Shelf.Strconv.Itoa3
import Derived.Shelf.Strconv.Itoa4
import Derived.Shelf.Strings.Count
import Derived.Shelf.Strings.Search1
import Derived.Shelf.Strings.Search2
import Derived.Shelf.Strings.Search3
import Derived.Shelf.Strings.SlTrimAscii
import Derived.Stop.Joined
import Derived.WalkKit
import Derived.WalkLawsBesides
import Derived.WalkSpells
import Derived.WideKeyEntry
import GoSem.Claim
import GoSem.ClaimJoined
import GoSem.ClaimMapViews
import GoSem.ClaimSeven
import GoSem.ClaimWide
import GoSem.PinnedTables
namespace Go.Proofs.YtcdcoiobpbdmpaaGreatDoor
open Go.RowKit
theorem Kx.below_of {X:Nat→Prop} {w w':World} (h:Kx X w w') (hX: ∀ k,k<w.heap.size→X k):Below w.heap.size w w':=⟨h.os,h.tape,h.output,h.size,fun k hk=>h.block k hk (hX k hk)⟩
theorem add_at (g o k:Nat):(⟨g,o,none⟩:Addr).add k=⟨g,o+k,none⟩:=by unfold Addr.add;split<;> simp_all
namespace Cd
end Cd
end Go.Proofs.YtcdcoiobpbdmpaaGreatDoor
namespace Go.Proofs.YtcdcoiobpbdmpaaGreatDoor
open Go.RowKit
structure BXc (b:Nat) (w:World) (cs:List Value):Prop where
 c: ∀ (j:Nat) u,cs[j]? =some u→w.cell? ⟨b,j,none⟩=some u
 z: ∀ j,w.frozen? ⟨b,j,none⟩=false
 l:b<w.heap.size
theorem BXc.new (w:World) (cs:Array Value) (t:TypeId):BXc w.heap.size (w.alloc (.cells cs t)) cs.toList:=
 ⟨fun j u hu=>by
  have:cs[j]? =some u:=by rw [←Array.getElem?_toList];exact hu
  simp [go_sem,this],fun j=>by simp [go_sem],by simp⟩
theorem BXc.keep {b:Nat} {w w':World} {cs:List Value} (h:BXc b w cs) (hb:Below w.heap.size w w'):BXc b w' cs:=
 ⟨fun j u hu=>bsome hb (h.c j u hu),fun j=>(hb.frozen (p:=⟨b,j,none⟩) h.l).trans (h.z j),Nat.lt_of_lt_of_le h.l hb.size⟩
theorem BXc.keepK {b:Nat} {w w':World} {cs:List Value} {X:Nat→Prop} (h:BXc b w cs) (hb:Kx X w w') (hX:X b):BXc b w' cs:=
 ⟨fun j u hu=>hb.cell (h.c j u hu) hX,fun j=>(hb.frozen (p:=⟨b,j,none⟩) h.l hX).trans (h.z j),Nat.lt_of_lt_of_le h.l hb.size⟩
theorem BXc.set {b:Nat} {w:World} {cs:List Value} (h:BXc b w cs) {j:Nat} {u:Value} (hj:cs[j]? =some u) (v:Value):BXc b (w.setCell ⟨b,j,none⟩ v) (cs.set j v):=by
 have hc:=h.c j u hj
 refine ⟨fun k x hx=> ?_,fun k=>(World.frozen?_setCell _ _ _ _).trans (h.z k),by simpa [World.setCell] using h.l⟩
 by_cases e:k=j
 ·subst e
  rw [List.getElem?_set_self (List.getElem?_eq_some_iff.1 hj).1] at hx
  cases hx
  exact World.cell?_setCell_same _ _ _ hc
 ·rw [List.getElem?_set_ne (by omega)] at hx
  rw [World.cell?_setCell_other _ _ _ _ (fun e'=>by injection e' with _ e2;omega)]
  exact h.c k x hx
theorem BXc.other {b b' j:Nat} {w:World} {cs:List Value} (h:BXc b w cs) (hb:b' ≠ b) (v:Value):BXc b (w.setCell ⟨b',j,none⟩ v) cs:=
 ⟨fun k x hx=>by rw [World.cell?_setCell_other _ _ _ _ (fun e'=>by injection e' with e1;exact hb e1)];exact h.c k x hx,fun k=>(World.frozen?_setCell _ _ _ _).trans (h.z k),by simpa [World.setCell] using h.l⟩
theorem own_keepC {t z B:Nat} {w w':World} {v:Value} {n:Nat} {xs:List Value} (h:w.ownsRow B t z v n xs) (hk: ∀ g,v.ownBlock=some g→w'.heap[g]? =w.heap[g]?):w'.ownsRow B t z v n xs:=by
 refine ⟨h.1,?_⟩
 rcases h.2 with h|⟨g,cap,cur,hv,hb,hg,rest⟩
 ·exact .inl h
 ·exact .inr ⟨g,cap,cur,hv,hb,by rw [hk g (by rw [hv];rfl)];exact hg,rest⟩
theorem own_slice {t z B:Nat} {w:World} {v:Value} {n:Nat} {xs:List Value} (h:w.ownsRow B t z v n xs): ∃ a c,v= .slice a n c:=by
 rcases h.2 with ⟨hv,h0⟩|⟨g,cap,cur,hv,-⟩
 ·exact ⟨none,0,by rw [hv,h0]⟩
 ·exact ⟨_,_,hv⟩
theorem flat_cell {α:Type} {f:α→List Value} {z:Nat} (hz: ∀ x,(f x).length=z) (l:List α) (k:Nat) (x:α) (hx:l[k]? =some x) (j:Nat) (u:Value) (hu:(f x)[j]? =some u):(l.flatMap f)[k * z+j]? =some u:=by
 induction l generalizing k with
 |nil=>simp at hx
 |cons y r ih=>
  have hj:j<z:=by rw [←hz x];exact (List.getElem?_eq_some_iff.1 hu).1
  rw [List.flatMap_cons]
  cases k with
  |zero=>
   simp at hx
   subst hx
   rw [Nat.zero_mul,Nat.zero_add,List.getElem?_append_left (by rw [hz];exact hj)]
   exact hu
  |succ k=>
   rw [List.getElem?_append_right (by rw [hz,Nat.succ_mul];omega),hz,show (k+1) * z+j - z=k * z+j by rw [Nat.succ_mul];omega]
   exact ih k (by simpa using hx)
theorem flat_len {α:Type} {f:α→List Value} {z:Nat} (hz: ∀ x,(f x).length=z) (l:List α):(l.flatMap f).length=l.length * z:=by
 induction l with
 |nil=>simp
 |cons y r ih=>rw [List.flatMap_cons,List.length_append,ih,hz,List.length_cons,Nat.succ_mul];omega
theorem flat_read {α:Type} {f:α→List Value} {z:Nat} (hz: ∀ x,(f x).length=z) (h0:0<z) {l:List α} {w:World} {g o:Nat} (h: ∀ (k:Nat) x,l[k]? =some x→ ∀ (j:Nat) u,(f x)[j]? =some u→w.cell? ⟨g,o+k * z+j,none⟩=some u):
  ∀ j u,(l.flatMap f)[j]? =some u→w.cell? ((⟨g,o,none⟩:Addr).add j)=some u:=by
 intro j u hu
 rw [add_at]
 have hj:=(List.getElem?_eq_some_iff.1 hu).1
 rw [flat_len hz] at hj
 have hk:j / z<l.length:=Nat.div_lt_of_lt_mul (by rw [Nat.mul_comm];exact hj)
 have hm:j % z<z:=Nat.mod_lt _ h0
 obtain ⟨x,hx⟩: ∃ x,l[j / z]? =some x:=⟨_,List.getElem?_eq_getElem hk⟩
 obtain ⟨v,hv⟩: ∃ v,(f x)[j % z]? =some v:=⟨_,List.getElem?_eq_getElem (by rw [hz];exact hm)⟩
 have e:j / z * z+j % z=j:=by rw [Nat.mul_comm];exact Nat.div_add_mod j z
 have h1:=flat_cell hz l _ _ hx _ _ hv
 rw [e,hu] at h1
 cases h1
 have:=h _ _ hx _ _ hv
 rwa [show o+j / z * z+j % z=o+j by omega] at this
theorem run_app {P:Program} (w:World) (t ty:TypeId) (base:Nat) (e:TypeId) (i:TypeInfo) (z:Value) (size bytes:Nat) (ht:P.underlying t=some (.slice e)) (hi:P.info? e=some i) (hz:i.zero=some z)
  (hsize:i.size=size) (hby:i.bytes=bytes) (hzs:z.cells.size=size) (hsz:0<size)
  (v:Value) (n:Nat) (xs:List Value) (hown:w.ownsRow base e size v n xs)
  (a0:Option Addr) (m c:Nat) (news:List Value) (hl:news.length=m * size) (hnews:0<m→ ∃ ad,a0=some ad∧ ∀ j u,news[j]? =some u→w.cell? (ad.add j)=some u) (h1: ∀ u ∈ news,u.oneCell'=true)
  (h63:n+m≤maxLen) (hbytes:(n+m) * bytes≤140737488355328) (hbase:base≤w.heap.size):
  ∃ a' c' w',(Builtin.append_ #[t,t] ty #[v,.slice a0 m c]).run P w= .ok (.slice a' (n+m) c') w'∧w'.ownsRow base e size (.slice a' (n+m) c') (n+m) (xs++news)∧w.grownBy w' v.ownBlock∧((Value.slice a' (n+m) c').ownBlock=v.ownBlock∨(Value.slice a' (n+m) c').ownBlock=some w.heap.size):=by
 by_cases hm:m=0
 ·subst hm
  obtain rfl:news=[]:=List.eq_nil_of_length_eq_zero (by omega)
  have hr:(Builtin.append_ #[t,t] ty #[v,.slice a0 0 c]).run P w= .ok v w:=by
   have hsrc:Src P i.size t (.slice a0 0 c) 0 [] w:=by
    cases a0 with
    |none=>exact Src.ofNil w ht c
    |some ad=>exact Src.ofSlice w ht ad 0 c [] (by simp) (fun j u hu=>by simp at hu) (fun u hu=>by simp at hu)
   rcases hown.2 with ⟨rfl,rfl⟩|⟨g,cap,cur,rfl,_,_,hnc,_⟩
   ·exact run_append_nothing w t t ty e i ht hi _ _ _ (Nat.le_refl _) _ hsrc
   ·exact run_append_nothing w t t ty e i ht hi _ _ _ hnc _ hsrc
  obtain ⟨a,c',rfl⟩:=own_slice hown
  exact ⟨a,c',w,hr,by simpa using hown,⟨rfl,rfl,rfl,Nat.le_refl _,fun _ _ _=>rfl⟩,.inl rfl⟩
 ·obtain ⟨ad,rfl,hc⟩:=hnews (by omega)
  obtain ⟨g,cap,w',hr,ho,hg,hat,-⟩:=run_append_lies (P:=P) w t ty base e i z size bytes ht hi hz hsize hby hzs hsz v n xs hown ad m c news hl hc h1 (by omega) h63 hbytes hbase _ rfl
  exact ⟨_,_,w',hr,ho,hg,hat.imp (fun e=>e.symm) (fun e=>by rw [e];rfl)⟩
theorem wpList_app {P:Program} {w:World} {ops:Array Oper} {rest:List Oper} {o:Oper} {a:Act} {Q:Exit→Act→World→Prop} (hgd:o.guard=none) (s x:Operand) (t:TypeId)
  (ho:o.op= .call { callee:= .builtin .append,args:= #[s,x],argTypes:= #[t,t] }) (base:Nat) (e:TypeId) (i:TypeInfo) (z:Value) (size bytes:Nat) (ht:P.underlying t=some (.slice e)) (hi:P.info? e=some i) (hz:i.zero=some z)
  (hsize:i.size=size) (hby:i.bytes=bytes) (hzs:z.cells.size=size) (hsz:0<size)
  (v:Value) (n:Nat) (xs:List Value) (hs:a.eval s=v) (hown:w.ownsRow base e size v n xs)
  (a0:Option Addr) (m c:Nat) (news:List Value) (hx:a.eval x= .slice a0 m c) (hl:news.length=m * size) (hnews:0<m→ ∃ ad,a0=some ad∧ ∀ j u,news[j]? =some u→w.cell? (ad.add j)=some u) (h1: ∀ u ∈ news,u.oneCell'=true)
  (h63:n+m≤maxLen) (hbytes:(n+m) * bytes≤140737488355328) (hbase:base≤w.heap.size)
  (h: ∀ a' c' w',w'.ownsRow base e size (.slice a' (n+m) c') (n+m) (xs++news)→w.grownBy w' v.ownBlock→((Value.slice a' (n+m) c').ownBlock=v.ownBlock∨(Value.slice a' (n+m) c').ownBlock=some w.heap.size)→wpList P ops Q rest (a.put o.dst (.slice a' (n+m) c')) w'):wpList P ops Q (o::rest) a w:=
 wpList_plain hgd fun _ hK=>by
  obtain ⟨a',c',w',hr,h2,h3,h4⟩:=run_app w t o.type base e i z size bytes ht hi hz hsize hby hzs hsz v n xs hown a0 m c news hl hnews h1 h63 hbytes hbase
  unfold Oper.wp execOp
  simp only [ho,resolve,invoke,builtin,Sem.run_bind,Sem.run_pure,Result.andThen_ok,List.map_toArray,List.map_cons,List.map_nil,hs,hx,hr]
  exact hK _ _ (h a' c' w' h2 h3 h4)
theorem step_app {P:Program} {w:World} {ops:Array Oper} {o:Oper} {a:Act} {K:Act→World→Prop} {Q:Exit→Act→World→Prop} {E:Prop} (hgd:o.guard=none) (s x:Operand) (t:TypeId)
  (ho:o.op= .call { callee:= .builtin .append,args:= #[s,x],argTypes:= #[t,t] }) (base:Nat) (e:TypeId) (i:TypeInfo) (z:Value) (size bytes:Nat) (ht:P.underlying t=some (.slice e)) (hi:P.info? e=some i) (hz:i.zero=some z)
  (hsize:i.size=size) (hby:i.bytes=bytes) (hzs:z.cells.size=size) (hsz:0<size)
  (v:Value) (n:Nat) (xs:List Value) (hs:a.eval s=v) (hown:w.ownsRow base e size v n xs)
  (a0:Option Addr) (m c:Nat) (news:List Value) (hx:a.eval x= .slice a0 m c) (hl:news.length=m * size) (hnews:0<m→ ∃ ad,a0=some ad∧ ∀ j u,news[j]? =some u→w.cell? (ad.add j)=some u) (h1: ∀ u ∈ news,u.oneCell'=true)
  (h63:n+m≤maxLen) (hbytes:(n+m) * bytes≤140737488355328) (hbase:base≤w.heap.size)
  (h: ∀ a' c' w',w'.ownsRow base e size (.slice a' (n+m) c') (n+m) (xs++news)→w.grownBy w' v.ownBlock→((Value.slice a' (n+m) c').ownBlock=v.ownBlock∨(Value.slice a' (n+m) c').ownBlock=some w.heap.size)→K (a.put o.dst (.slice a' (n+m) c')) w'):
  if Region.wanted o (yielded ops a.tmps)=true then Oper.wp P o a w K Q else E:=by
 have hw:Region.wanted o (yielded ops a.tmps)=true:=by simp [Region.wanted,hgd]
 rw [if_pos hw]
 obtain ⟨a',c',w',hr,h2,h3,h4⟩:=run_app w t o.type base e i z size bytes ht hi hz hsize hby hzs hsz v n xs hown a0 m c news hl hnews h1 h63 hbytes hbase
 unfold Oper.wp execOp
 simp only [ho,resolve,invoke,builtin,Sem.run_bind,Sem.run_pure,Result.andThen_ok,List.map_toArray,List.map_cons,List.map_nil,hs,hx,hr]
 exact h a' c' w' h2 h3 h4
end Go.Proofs.YtcdcoiobpbdmpaaGreatDoor
namespace Go.Proofs.YtcdcoiobpbdmpaaGreatDoor
open Go.RowKit
theorem flatten_at {z:Nat} (l:List (List Value)) (hz: ∀ c ∈ l,c.length=z) (k:Nat) (c:List Value) (hk:l[k]? =some c) (j:Nat) (u:Value) (hu:c[j]? =some u):l.flatten[k * z+j]? =some u:=by
 induction l generalizing k with
 |nil=>simp at hk
 |cons a r ih=>
  have ha:a.length=z:=hz a List.mem_cons_self
  rw [List.flatten_cons]
  cases k with
  |zero=>
   simp at hk
   subst hk
   rw [Nat.zero_mul,Nat.zero_add,List.getElem?_append_left (List.getElem?_eq_some_iff.1 hu).1]
   exact hu
  |succ k=>
   rw [List.getElem?_append_right (by rw [ha,Nat.succ_mul];omega),ha,show (k+1) * z+j - z=k * z+j by rw [Nat.succ_mul];omega]
   exact ih (fun c hc=>hz c (List.mem_cons_of_mem _ hc)) k (by simpa using hk)
structure ROc {α:Type} (t z:Nat) (D:World→(Nat→Prop)→α→List Value→Prop) (B:Nat) (w:World) (v:Value) (l:List α):Prop where
 ex: ∃ iv:List (List Value),iv.length=l.length∧w.ownsRow B t z v l.length iv.flatten∧ ∀ (k:Nat) x,l[k]? =some x→ ∃ cs,iv[k]? =some cs∧D w (fun j=>B≤j∧j<w.heap.size∧v.ownBlock ≠ some j) x cs
section
variable {α:Type} {t z:Nat} {D:World→(Nat→Prop)→α→List Value→Prop} {B:Nat} {w w':World} {v v':Value} {l:List α}
theorem ROc.nil (t z:Nat) (D:World→(Nat→Prop)→α→List Value→Prop) (B:Nat) (w:World):ROc t z D B w (.slice none 0 0) []:=
 ⟨[],rfl,World.ownsRow_nil _ _ _ _,fun k x h=>by simp at h⟩
theorem ROc.keep (hD: ∀ {w w':World} {N N':Nat→Prop} {x:α} {cs:List Value},D w N x cs→Kx N w w'→(∀ j,N j→N' j)→D w' N' x cs) (h:ROc t z D B w v l) (hb:Kx (fun j=>B≤j) w w'):ROc t z D B w' v l:=by
 obtain ⟨iv,h1,h2,h3⟩:=h.ex
 refine ⟨iv,h1,own_keepC h2 (fun g hg=>hb.block g (h2.lt g hg).2 (h2.lt g hg).1),fun k x hx=> ?_⟩
 obtain ⟨cs,h4,h5⟩:=h3 k x hx
 exact ⟨cs,h4,hD h5 (hb.mono (fun j _ hj=>hj.1)) (fun j hj=>⟨hj.1,Nat.lt_of_lt_of_le hj.2.1 hb.size,hj.2.2⟩)⟩
theorem ROc.push2 (hD: ∀ {w w':World} {N N':Nat→Prop} {x:α} {cs:List Value},D w N x cs→Kx N w w'→(∀ j,N j→N' j)→D w' N' x cs) {iv:List (List Value)} (h1:iv.length=l.length) (h3: ∀ (k:Nat) x,l[k]? =some x→ ∃ cs,iv[k]? =some cs∧D w (fun j=>B≤j∧j<w.heap.size∧v.ownBlock ≠ some j) x cs) {x:α} {cs:List Value} (hx:D w (fun j=>B≤j∧j<w.heap.size∧v.ownBlock ≠ some j) x cs)
  (happ:w'.ownsRow B t z v' (l.length+1) (iv.flatten++cs)) (hg:w.grownBy w' v.ownBlock) (hv:v'.ownBlock=v.ownBlock∨v'.ownBlock=some w.heap.size):ROc t z D B w' v' (l++[x]):=by
 have hk:Kx (fun j=>B≤j∧j<w.heap.size∧v.ownBlock ≠ some j) w w':=⟨hg.os,hg.tape,hg.output,hg.size,fun j hj hN=>hg.block j hj (fun e=>hN.2.2 e.symm)⟩
 have hN: ∀ j,(B≤j∧j<w.heap.size∧v.ownBlock ≠ some j)→(B≤j∧j<w'.heap.size∧v'.ownBlock ≠ some j):=fun j hj=>⟨hj.1,Nat.lt_of_lt_of_le hj.2.1 hg.size,fun e=>by
  rcases hv with hv|hv
  ·exact hj.2.2 (by rw [←hv];exact e)
  ·rw [hv] at e
   cases e
   omega⟩
 refine ⟨iv++[cs],by simp [h1],?_,fun k y hy=> ?_⟩
 ·rw [List.length_append,List.length_cons,List.length_nil,List.flatten_append]
  simpa using happ
 ·by_cases e:k<l.length
  ·rw [List.getElem?_append_left e] at hy
   obtain ⟨c,h4,h5⟩:=h3 k y hy
   exact ⟨c,by rw [List.getElem?_append_left (by omega)];exact h4,hD h5 hk hN⟩
  ·rw [List.getElem?_append_right (by omega)] at hy
   have hk0:k - l.length=0:=by
    have:=(List.getElem?_eq_some_iff.1 hy).1
    simp at this;omega
   rw [hk0] at hy
   simp at hy
   subst hy
   exact ⟨cs,by rw [List.getElem?_append_right (by omega),h1,hk0];rfl,hD hx hk hN⟩
theorem ROc.read (hz: ∀ {w:World} {N:Nat→Prop} {x:α} {cs:List Value},D w N x cs→cs.length=z) (h:ROc t z D B w v l) (hl:l ≠ []): ∃ g c,v= .slice (some ⟨g,0,none⟩) l.length c∧B≤g∧g<w.heap.size∧ ∀ (k:Nat) x,l[k]? =some x→ ∃ cs,(∀ (j:Nat) u,cs[j]? =some u→w.cell? ⟨g,0+k * z+j,none⟩=some u)∧D w (fun j=>B≤j∧j<w.heap.size∧v.ownBlock ≠ some j) x cs:=by
 obtain ⟨iv,h1,h2,h3⟩:=h.ex
 have hlen: ∀ c ∈ iv,c.length=z:=by
  intro c hc
  obtain ⟨j,hj,he⟩:=List.mem_iff_getElem.1 hc
  obtain ⟨y,hy⟩: ∃ y,l[j]? =some y:=⟨_,List.getElem?_eq_getElem (by omega)⟩
  obtain ⟨cs2,h4,h5⟩:=h3 j y hy
  rw [List.getElem?_eq_getElem hj] at h4
  obtain rfl:=Option.some.inj h4
  rw [←he]
  exact hz h5
 rcases h2.2 with ⟨hv,h0⟩|⟨g,cap,cur,hv,hb,hg,-⟩
 ·exact absurd (List.length_eq_zero_iff.1 h0) hl
 ·refine ⟨g,cap,hv,hb,(Array.getElem?_eq_some_iff.1 hg).1,fun k x hx=> ?_⟩
  obtain ⟨cs,h4,h5⟩:=h3 k x hx
  refine ⟨cs,fun j u hu=> ?_,h5⟩
  have:=h2.cells (g:=g) (by rw [hv];rfl) (k * z+j) u (flatten_at iv hlen k cs h4 j u hu)
  rw [add_off] at this
  rw [Nat.zero_add]
  exact this
theorem ROc.form (h:ROc t z D B w v l): ∃ a c,v= .slice a l.length c:=by
 obtain ⟨iv,h1,h2,h3⟩:=h.ex
 exact own_slice h2
theorem list_two {w:World} {g:Nat} {a b:Value} (h:w.cell? ⟨g,0,none⟩=some a∧w.cell? ⟨g,1,none⟩=some b): ∀ j u,[a,b][j]? =some u→w.cell? ((⟨g,0,none⟩:Addr).add j)=some u:=fun j u hu=>by
 rw [add_off]
 match j,hu with
 |0,hu=>cases hu;exact h.1
 |1,hu=>cases hu;exact h.2
end
def AX (w:World) (N:Nat→Prop) (x:List (Int × Int) × Int) (cs:List Value):Prop:= ∃ ae ce,cs=[.slice ae x.1.length ce,.int .i64 x.2]∧ERn w N (.slice ae x.1.length ce) x.1
theorem AX.up {w w':World} {N N':Nat→Prop} {x:List (Int × Int) × Int} {cs:List Value} (h:AX w N x cs) (hk:Kx N w w') (hN: ∀ j,N j→N' j):AX w' N' x cs:=by
 obtain ⟨ae,ce,h1,h2⟩:=h
 exact ⟨ae,ce,h1,h2.up hk hN⟩
theorem AX.len {w:World} {N:Nat→Prop} {x:List (Int × Int) × Int} {cs:List Value} (h:AX w N x cs):cs.length=2:=by
 obtain ⟨ae,ce,h1,-⟩:=h
 rw [h1]
 rfl
theorem ROc.agn {B:Nat} {w:World} {v:Value} {l:List (List (Int × Int) × Int)} (h:ROc 100 2 AX B w v l):AGn w (fun j=>B≤j∧j<w.heap.size) v l:=by
 obtain ⟨a,c,rfl⟩:=h.form
 by_cases hl:l=[]
 ·subst hl
  obtain ⟨iv,h1,h2,h3⟩:=h.ex
  exact ⟨a,c,rfl,fun j hj=>⟨(h2.lt j hj).1,(h2.lt j hj).2⟩,fun hn=>absurd rfl hn⟩
 ·obtain ⟨g,c',hv,hB,hg,h4⟩:=h.read AX.len hl
  obtain ⟨rfl,rfl⟩:a=some ⟨g,0,none⟩∧c=c':=by simpa using hv
  refine ⟨_,_,rfl,fun j hj=> ?_,fun _=>⟨g,0,rfl,fun k x hx=> ?_⟩⟩
  ·have:j=g:=by simpa [Value.ownBlock] using hj.symm
   subst this
   exact ⟨hB,hg⟩
  ·obtain ⟨cs,h5,ae,ce,rfl,h6⟩:=h4 k x hx
   exact ⟨⟨ae,ce,h5 0 _ rfl,⟨h6.1,fun j hj=>⟨(h6.2 j hj).1,(h6.2 j hj).2.1⟩⟩⟩,h5 1 _ rfl⟩
end Go.Proofs.YtcdcoiobpbdmpaaGreatDoor
namespace Go.Proofs.YtcdcoiobpbdmpaaGreatDoor
open Go.RowKit
structure PCy (w:World) (lo mid hi:Nat) (q:PV) (p:Cd.Pr):Prop where
 lm:lo≤mid
 hh:hi≤w.heap.size
 vars:VaR w (.slice q.av p.vars.length q.cv) p.vars
 nv: ∀ j,ob q.av=some j→lo≤j∧j<mid∧j<hi
 blocks:BlR w (.slice q.ab p.blocks.length q.cb) p.blocks
 nb: ∀ j,ob q.ab=some j→lo≤j∧j<mid∧j<hi
 ins: ∃ iv:List (List Value),iv.length=p.ins.length∧w.ownsRow mid 44 11 (.slice q.ai p.ins.length q.ci) p.ins.length iv.flatten∧ ∀ (k:Nat) x,p.ins[k]? =some x→ ∃ cs,iv[k]? =some cs∧IX w (fun j=>mid≤j∧j<hi∧ob q.ai ≠ some j) x cs
 ni: ∀ j,ob q.ai=some j→mid≤j∧j<hi
theorem PCy.up {w w':World} {lo mid hi:Nat} {q:PV} {p:Cd.Pr} (h:PCy w lo mid hi q p) (hk:Kx (fun j=>lo≤j∧j<hi) w w'):PCy w' lo mid hi q p:=by
 have lm:=h.lm
 obtain ⟨iv,h1,h2,h3⟩:=h.ins
 refine ⟨h.lm,Nat.le_trans h.hh hk.size,h.vars.keepX hk (fun g hg=> ?_),h.nv,h.blocks.keepX hk (fun g hg=> ?_),h.nb,⟨iv,h1,own_keepC h2 (fun g hg=> ?_),fun k x hx=> ?_⟩,h.ni⟩
 ·have:=h.nv g (by rw [←ob_own];exact hg)
  exact ⟨this.1,this.2.2⟩
 ·have:=h.nb g (by rw [←ob_own];exact hg)
  exact ⟨this.1,this.2.2⟩
 ·have:=h.ni g (by rw [←ob_own];exact hg)
  exact hk.block g (Nat.lt_of_lt_of_le this.2 h.hh) ⟨by omega,this.2⟩
 ·obtain ⟨cs,h4,h5⟩:=h3 k x hx
  exact ⟨cs,h4,h5.up (hk.mono (fun j _ hj=>⟨by have:=hj.1;omega,hj.2.1⟩)) (fun j hj=>hj)⟩
theorem iv_len {w:World} {N:Nat→Prop} {l:List Cd.In} {iv:List (List Value)} (h1:iv.length=l.length) (h3: ∀ (k:Nat) x,l[k]? =some x→ ∃ cs,iv[k]? =some cs∧IX w N x cs): ∀ c ∈ iv,c.length=11:=by
 intro c hc
 obtain ⟨k,hk⟩:=List.getElem?_of_mem hc
 have hl:=(List.getElem?_eq_some_iff.1 hk).1
 obtain ⟨x,hx⟩: ∃ x,l[k]? =some x:=⟨_,List.getElem?_eq_getElem (by omega)⟩
 obtain ⟨cs,h4,h5⟩:=h3 k x hx
 rw [hk] at h4
 cases h4
 exact h5.len
theorem PCy.read {w:World} {lo mid hi:Nat} {q:PV} {p:Cd.Pr} (h:PCy w lo mid hi q p) (hn:p.ins ≠ []): ∃ g,q.ai=some ⟨g,0,none⟩∧mid≤g∧g<hi∧(∀ k,w.frozen? ⟨g,k,none⟩=false)∧ ∀ (k:Nat) x,p.ins[k]? =some x→ ∃ ae ce aa ca,(∀ (j:Nat) u,(Cd.pcl x ae ce aa ca x.bk x.at')[j]? =some u→w.cell? ⟨g,k * 11+j,none⟩=some u)∧ERn w (fun j=>mid≤j∧j<hi∧j ≠ g) (.slice ae x.e.length ce) x.e∧AGn w (fun j=>mid≤j∧j<hi∧j ≠ g) (.slice aa x.args.length ca) x.args:=by
 obtain ⟨iv,h1,h2,h3⟩:=h.ins
 rcases h2.2 with ⟨hv,h0⟩|⟨g,cap,cur,hv,hb,hg,hnc,hcm,hcs,hct⟩
 ·exact absurd (List.length_eq_zero_iff.1 h0) hn
 obtain ⟨ha,hc⟩:q.ai=some ⟨g,0,none⟩∧q.ci=cap:=by simpa using hv
 have hgo:ob q.ai=some g:=by rw [ha];rfl
 have hng:=h.ni g hgo
 refine ⟨g,ha,hng.1,hng.2,fun k=>by simp [World.frozen?,hg],fun k x hx=> ?_⟩
 obtain ⟨cs,h4,ae,ce,aa,ca,rfl,h6,h7⟩:=h3 k x hx
 have hN: ∀ j,(mid≤j∧j<hi∧ob q.ai ≠ some j)→mid≤j∧j<hi∧j ≠ g:=fun j hj=>⟨hj.1,hj.2.1,fun e=>hj.2.2 (by rw [hgo,e])⟩
 refine ⟨ae,ce,aa,ca,fun j u hu=> ?_,h6.up (Kx.refl _ _) hN,h7.up (Kx.refl _ _) hN⟩
 have:=h2.cells (g:=g) (by rw [hv];rfl) _ u (flatten_at iv (iv_len h1 h3) k _ h4 j u hu)
 rwa [Addr.add_mid,Nat.zero_add] at this
theorem PCy.pc {w:World} {lo mid hi:Nat} {q:PV} {p:Cd.Pr} (h:PCy w lo mid hi q p):PC q p w:=by
 refine ⟨h.vars,h.blocks,⟨_,_,rfl,fun hn=> ?_⟩⟩
 obtain ⟨g,h1,-,-,-,h4⟩:=h.read hn
 refine ⟨g,0,h1,fun k x hx=> ?_⟩
 obtain ⟨ae,ce,aa,ca,h5,h6,h7⟩:=h4 k x hx
 rw [Nat.zero_add]
 exact ⟨ae,ce,aa,ca,⟨h5 0 _ rfl,h5 1 _ rfl,h5 2 _ rfl,h5 3 _ rfl,h5 4 _ rfl,h5 5 _ rfl,h5 6 _ rfl,h5 7 _ rfl,h5 8 _ rfl,h5 9 _ rfl,h5 10 _ rfl,h6.1,h7.agR⟩⟩
end Go.Proofs.YtcdcoiobpbdmpaaGreatDoor
namespace Go.Proofs.YtcdcoiobpbdmpaaGreatDoor
open Go.RowKit
theorem Tryz.ckV:(Tryz.prog.info? 98).map (fun i=>(i.zero,i.size,i.bytes))=some (some (.agg #[.string ⟨#[]⟩,.string ⟨#[]⟩]),2,32):=by kernel_rfl
theorem Tryz.ckB:(Tryz.prog.info? 92).map (fun i=>(i.zero,i.size,i.bytes))=some (some (.agg #[.int .i64 0,.int .i64 0,.int .i64 0,.int .i64 0]),4,32):=by kernel_rfl
theorem Tryz.ckP:(Tryz.prog.info? 161).map (fun i=>(i.zero,i.size,i.bytes))=some (some (.agg #[.int .i64 0,.int .i64 0]),2,16):=by kernel_rfl
theorem Tryz.ckA:(Tryz.prog.info? 100).map (fun i=>(i.zero,i.size,i.bytes))=some (some (.agg #[.slice none 0 0,.int .i64 0]),2,32):=by kernel_rfl
theorem Tryz.ckI:(Tryz.prog.info? 44).map (fun i=>(i.zero,i.size,i.bytes))=some (some (.agg #[.int .i64 0,.int .i64 0,.int .i64 0,.int .i64 0,.int .i64 0,.string ⟨#[]⟩,.slice none 0 0,.slice none 0 0,.int .i64 0,.int .i64 0,.int .i64 0]),11,128):=by kernel_rfl
theorem grown_below {w w':World} (h:w.grownBy w' none):Below w.heap.size w w':=⟨h.os,h.tape,h.output,h.size,fun k hk=>h.block k hk (by simp)⟩
theorem var_news {w:World} {g o:Nat} {l:List (ByteArray × ByteArray)} (h: ∀ (k:Nat) x,l[k]? =some x→w.cell? ⟨g,o+k * 2,none⟩=some (.string x.1)∧w.cell? ⟨g,o+k * 2+1,none⟩=some (.string x.2)): ∀ j u,(l.flatMap Cd.vcl)[j]? =some u→w.cell? ((⟨g,o,none⟩:Addr).add j)=some u:=
 flat_read (f:=Cd.vcl) (z:=2) (fun _=>rfl) (by decide) (fun k x hx j u hu=>by
  match j,hu with
  |0,hu=>cases hu;exact (h k x hx).1
  |1,hu=>cases hu;exact (h k x hx).2)
theorem blk_news {w:World} {g o:Nat} {l:List (Int × Int × Int × Int)} (h: ∀ (k:Nat) x,l[k]? =some x→w.cell? ⟨g,o+k * 4,none⟩=some (.int .i64 x.1)∧w.cell? ⟨g,o+k * 4+1,none⟩=some (.int .i64 x.2.1)∧w.cell? ⟨g,o+k * 4+2,none⟩=some (.int .i64 x.2.2.1)∧w.cell? ⟨g,o+k * 4+3,none⟩=some (.int .i64 x.2.2.2)): ∀ j u,(l.flatMap Cd.bcl)[j]? =some u→w.cell? ((⟨g,o,none⟩:Addr).add j)=some u:=
 flat_read (f:=Cd.bcl) (z:=4) (fun _=>rfl) (by decide) (fun k x hx j u hu=>by
  match j,hu with
  |0,hu=>cases hu;exact (h k x hx).1
  |1,hu=>cases hu;exact (h k x hx).2.1
  |2,hu=>cases hu;exact (h k x hx).2.2.1
  |3,hu=>cases hu;exact (h k x hx).2.2.2)
theorem er_newsC {w:World} {a:Option Addr} {c:Nat} {l:List (Int × Int)} (h:ER w (.slice a l.length c) l):0<l.length→ ∃ ad,a=some ad∧ ∀ j u,(l.flatMap Cd.ecl)[j]? =some u→w.cell? (ad.add j)=some u:=fun hl=>by
 obtain ⟨a',c',h1,h2⟩:=h
 obtain ⟨rfl,-⟩:a=a'∧c=c':=by simpa using h1
 obtain ⟨g,o,rfl,h3⟩:=h2 (List.ne_nil_of_length_pos hl)
 exact ⟨_,rfl,flat_read (f:=Cd.ecl) (z:=2) (fun _=>rfl) (by decide) (fun k x hx j u hu=>by
  match j,hu with
  |0,hu=>cases hu;exact (h3 k x hx).1
  |1,hu=>cases hu;exact (h3 k x hx).2)⟩
theorem own_erC {w:World} {B:Nat} {v:Value} {l:List (Int × Int)} (h:w.ownsRow B 161 2 v l.length (l.flatMap Cd.ecl)):ER w v l:=by
 rcases h.2 with ⟨hv,h0⟩|⟨g,cap,cur,hv,-⟩
 ·exact ⟨none,0,by rw [hv,h0],fun hn=>absurd (List.length_eq_zero_iff.1 h0) hn⟩
 ·refine ⟨_,_,hv,fun _=>⟨g,0,rfl,fun k x hx=> ?_⟩⟩
  have e: ∀ (j:Nat) u,(Cd.ecl x)[j]? =some u→w.cell? ⟨g,k * 2+j,none⟩=some u:=fun j u hu=>by
   have:=h.cells (g:=g) (by rw [hv];rfl) (k * 2+j) u (flat_cell (f:=Cd.ecl) (z:=2) (fun _=>rfl) l k x hx j u hu)
   rwa [add_off] at this
  rw [Nat.zero_add]
  exact ⟨e 0 _ rfl,e 1 _ rfl⟩
theorem own_varC {w:World} {B:Nat} {v:Value} {l:List (ByteArray × ByteArray)} (h:w.ownsRow B 98 2 v l.length (l.flatMap Cd.vcl)):VaR w v l:=by
 rcases h.2 with ⟨hv,h0⟩|⟨g,cap,cur,hv,-⟩
 ·exact ⟨none,0,by rw [hv,h0],fun hn=>absurd (List.length_eq_zero_iff.1 h0) hn⟩
 ·refine ⟨_,_,hv,fun _=>⟨g,0,rfl,fun k x hx=> ?_⟩⟩
  have e: ∀ (j:Nat) u,(Cd.vcl x)[j]? =some u→w.cell? ⟨g,k * 2+j,none⟩=some u:=fun j u hu=>by
   have:=h.cells (g:=g) (by rw [hv];rfl) (k * 2+j) u (flat_cell (f:=Cd.vcl) (z:=2) (fun _=>rfl) l k x hx j u hu)
   rwa [add_off] at this
  rw [Nat.zero_add]
  exact ⟨e 0 _ rfl,e 1 _ rfl⟩
theorem own_blkC {w:World} {B:Nat} {v:Value} {l:List (Int × Int × Int × Int)} (h:w.ownsRow B 92 4 v l.length (l.flatMap Cd.bcl)):BlR w v l:=by
 rcases h.2 with ⟨hv,h0⟩|⟨g,cap,cur,hv,-⟩
 ·exact ⟨none,0,by rw [hv,h0],fun hn=>absurd (List.length_eq_zero_iff.1 h0) hn⟩
 ·refine ⟨_,_,hv,fun _=>⟨g,0,rfl,fun k x hx=> ?_⟩⟩
  have e: ∀ (j:Nat) u,(Cd.bcl x)[j]? =some u→w.cell? ⟨g,k * 4+j,none⟩=some u:=fun j u hu=>by
   have:=h.cells (g:=g) (by rw [hv];rfl) (k * 4+j) u (flat_cell (f:=Cd.bcl) (z:=4) (fun _=>rfl) l k x hx j u hu)
   rwa [add_off] at this
  rw [Nat.zero_add]
  exact ⟨e 0 _ rfl,e 1 _ rfl,e 2 _ rfl,e 3 _ rfl⟩
theorem one_of {α:Type} {f:α→List Value} (hf: ∀ x,∀ u ∈ f x,u.oneCell'=true) (l:List α): ∀ u ∈ l.flatMap f,u.oneCell'=true:=fun u hu=>by
 obtain ⟨x,-,hx⟩:=List.mem_flatMap.1 hu
 exact hf x u hx
theorem vlenC (l:List (ByteArray × ByteArray)):(l.flatMap Cd.vcl).length=l.length * 2:=flat_len (f:=Cd.vcl) (z:=2) (fun _=>rfl) l
theorem blenC (l:List (Int × Int × Int × Int)):(l.flatMap Cd.bcl).length=l.length * 4:=flat_len (f:=Cd.bcl) (z:=4) (fun _=>rfl) l
theorem elenC (l:List (Int × Int)):(l.flatMap Cd.ecl).length=l.length * 2:=flat_len (f:=Cd.ecl) (z:=2) (fun _=>rfl) l
theorem voneC (l:List (ByteArray × ByteArray)): ∀ u ∈ l.flatMap Cd.vcl,u.oneCell'=true:=one_of (fun x u hu=>by simp [Cd.vcl] at hu;rcases hu with rfl|rfl<;> rfl) l
theorem boneC (l:List (Int × Int × Int × Int)): ∀ u ∈ l.flatMap Cd.bcl,u.oneCell'=true:=one_of (fun x u hu=>by simp [Cd.bcl] at hu;rcases hu with rfl|rfl|rfl|rfl<;> rfl) l
theorem eoneC (l:List (Int × Int)): ∀ u ∈ l.flatMap Cd.ecl,u.oneCell'=true:=one_of (fun x u hu=>by simp [Cd.ecl] at hu;rcases hu with rfl|rfl<;> rfl) l
set_option maxRecDepth 100000 in
set_option maxHeartbeats 8000000 in
theorem rCopyProc_any (q:PV) (p:Cd.Pr) (w:World) (h:PC q p w) (hp:PrOK p) (hI: ∀ x ∈ p.ins,InOK x):
  Calls Tryz.prog 18 #[.agg (q.cells p)] w fun e w'=> ∃ (q':PV) (mid:Nat),e= .returned (.agg (q'.cells p))∧PCy w' w.heap.size mid w'.heap.size q' p∧Below w.heap.size w w':=by
 obtain ⟨iV,hV,hV0,hV1,hV2⟩:=info_parts Tryz.ckV
 obtain ⟨iB,hB,hB0,hB1,hB2⟩:=info_parts Tryz.ckB
 obtain ⟨iP,hP,hP0,hP1,hP2⟩:=info_parts Tryz.ckP
 obtain ⟨iA,hAr,hA0,hA1,hA2⟩:=info_parts Tryz.ckA
 obtain ⟨iI,hIn,hI0,hI1,hI2⟩:=info_parts Tryz.ckI
 obtain ⟨hT,hn1,hn2,hn3⟩:=hp
 have hb2:=b_two w (.cells (q.cells p) 39) (.cells #[.string ⟨#[]⟩,.slice none 0 0,.int .i64 0,.slice none 0 0,.slice none 0 0] 39)
 have hbx:=(BXc.new w (q.cells p) 39).keep ((Below.refl _ _).alloc (Nat.le_refl _) (.cells #[.string ⟨#[]⟩,.slice none 0 0,.int .i64 0,.slice none 0 0,.slice none 0 0] 39))
 have hby:=BXc.new (w.alloc (.cells (q.cells p) 39)) #[.string ⟨#[]⟩,.slice none 0 0,.int .i64 0,.slice none 0 0,.slice none 0 0] 39
 rw [show (w.alloc (.cells (q.cells p) 39)).heap.size=w.heap.size+1 by simp] at hby
 have HPC:=hide (h.keep hb2)
 have HP0:=hide h
 have HB:=hide hb2
 have HX:=hide hbx
 have HY:=hide hby
 have x1:=hbx.c 1 _ rfl
 have z1:=hbx.z 1
 clear h hb2 hbx hby hT
 unfold PV.cells at *
 obtain ⟨qa,qc,qb,qd,qi,qe⟩:=q
 dsimp only at *
 go_enter Tryz.func18,Tryz.ntmps18
 go_wp2_with (at_builtin;refine wpList_app rfl _ _ 35 rfl (w.heap.size+2) 98 iV (.agg #[.string ⟨#[]⟩,.string ⟨#[]⟩]) 2 32 Tryz.underlying35 hV hV0 hV1 hV2 rfl (by decide) (.slice none 0 0) 0 [] rfl (World.ownsRow_nil _ _ _ _) _ _ _ (p.vars.flatMap Cd.vcl) rfl (vlenC _) ?c1 (voneC _) ?c2 ?c3 ?c4 ?_)
 case c1=>
  intro hl
  obtain ⟨a,c,e,h2⟩:=HPC.out.vars
  obtain ⟨rfl,rfl⟩:qa=a∧qc=c:=by simpa using e
  obtain ⟨g,o,rfl,h3⟩:=h2 (List.ne_nil_of_length_pos hl)
  exact ⟨_,rfl,var_news h3⟩
 case c2=>unfold maxLen;omega
 case c3=>omega
 case c4=>simp
 generalize World.alloc (World.alloc _ _) _=w2 at *
 intro va vc w3 hov hg3 _
 have hb3:Below w2.heap.size w2 w3:=grown_below hg3
 have h2s:w.heap.size+2≤w2.heap.size:=by
  have:=HY.out.l
  omega
 have HX3:=hide ((HX.out.keep hb3).set (j:=1) rfl (.slice va p.vars.length vc))
 have HY3:=hide ((HY.out.keep hb3).other (b':=w.heap.size) (j:=1) (by omega) (.slice va p.vars.length vc))
 have x1:=(HX.out.keep hb3).c 1 _ rfl
 have z1:=(HX.out.keep hb3).z 1
 have x3:=(HX.out.keep hb3).c 3 _ rfl
 have HOV:=hide (own_keepC (w':=w3.setCell ⟨w.heap.size,1,none⟩ (.slice va p.vars.length vc)) hov (fun g hg=>Below.heap_setCell _ _ _ _ (fun e=>by
  have h1:=(hov.lt g hg).1
  have h2:g=w.heap.size:=e
  omega)))
 have HB3:=hide (bset (o:=1) (btrans HB.out hb3) (Nat.le_refl _) (.slice va p.vars.length vc))
 have hs3:w.heap.size+2≤(w3.setCell ⟨w.heap.size,1,none⟩ (.slice va p.vars.length vc)).heap.size:=by
  have:=hb3.size
  simp [World.setCell]
  omega
 clear hov hg3 hb3 HX HY HB HPC
 go_wp2_with (at_builtin;refine wpList_app rfl _ _ 36 rfl (w.heap.size+2) 92 iB (.agg #[.int .i64 0,.int .i64 0,.int .i64 0,.int .i64 0]) 4 32 Tryz.underlying36 hB hB0 hB1 hB2 rfl (by decide) (.slice none 0 0) 0 [] rfl (World.ownsRow_nil _ _ _ _) _ _ _ (p.blocks.flatMap Cd.bcl) rfl (blenC _) ?d1 (boneC _) ?d2 ?d3 ?d4 ?_)
 case d1=>
  intro hl
  obtain ⟨a,c,e,h2⟩:=(HP0.out.keep HB3.out).blocks
  obtain ⟨rfl,rfl⟩:qb=a∧qd=c:=by simpa using e
  obtain ⟨g,o,rfl,h3⟩:=h2 (List.ne_nil_of_length_pos hl)
  exact ⟨_,rfl,blk_news h3⟩
 case d2=>unfold maxLen;omega
 case d3=>omega
 case d4=>exact hs3
 generalize w3.setCell ⟨w.heap.size,1,none⟩ (.slice va p.vars.length vc)=w4 at *
 intro ba bc w5 hob hg5 _
 have hb5:Below w4.heap.size w4 w5:=grown_below hg5
 have HX5:=hide ((HX3.out.keep hb5).set (j:=3) rfl (.slice ba p.blocks.length bc))
 have HY5:=hide ((HY3.out.keep hb5).other (b':=w.heap.size) (j:=3) (by omega) (.slice ba p.blocks.length bc))
 have x1:=(HX3.out.keep hb5).c 3 _ rfl
 have z1:=(HX3.out.keep hb5).z 3
 have ho4:=own_keepC (w':=w5) HOV.out (fun g hg=>hb5.block g (HOV.out.lt g hg).2)
 have HVR:=hide ((own_keepC (w':=w5.setCell ⟨w.heap.size,3,none⟩ (.slice ba p.blocks.length bc)) ho4 (fun g hg=>Below.heap_setCell _ _ _ _ (fun e=>by
  have h1:=(ho4.lt g hg).1
  have h2:g=w.heap.size:=e
  omega))))
 have HBR:=hide ((own_keepC (w':=w5.setCell ⟨w.heap.size,3,none⟩ (.slice ba p.blocks.length bc)) hob (fun g hg=>Below.heap_setCell _ _ _ _ (fun e=>by
  have h1:=(hob.lt g hg).1
  have h2:g=w.heap.size:=e
  omega))))
 have HB5:=hide (bset (o:=3) (btrans HB3.out hb5) (Nat.le_refl _) (.slice ba p.blocks.length bc))
 clear hob hg5 hb5 HX3 HY3 HB3 HOV ho4 hs3 h2s x3
 go_wp2
 generalize w5.setCell ⟨w.heap.size,3,none⟩ (.slice ba p.blocks.length bc)=w6 at *
 have X4:=hide (HX5.out.c 4 _ rfl)
 go_loopw [5,6] (fun v5 iv wr=> ∃ k:Nat,k≤p.ins.length∧iv= .int .i64 k∧ ∃ a5 c5,v5= .slice a5 k c5∧Hid (Below w6.heap.size w6 wr∧ROc 44 11 IX w6.heap.size wr (.slice a5 k c5) (p.ins.take k))) (fun _ iv _=>p.ins.length - (intOf iv).toNat)
 case atStart=>exact ⟨0,Nat.zero_le _,rfl,none,0,rfl,hide ⟨Below.refl _ _,ROc.nil _ _ _ _ _⟩⟩
 case round=>
  obtain ⟨k,hk,rfl,a5,c5,rfl,HI⟩:=hrel
  have x4:=bsome HI.out.1 X4.out
  by_cases hlt:k<p.ins.length
  ·obtain ⟨x,hx⟩: ∃ x,p.ins[k]? =some x:=⟨_,List.getElem?_eq_getElem hlt⟩
   have hel:x.e.length≤1000000:=(hI x (List.mem_of_getElem? hx)).2.1
   have hgl:x.args.length≤1000000:=(hI x (List.mem_of_getElem? hx)).2.2.1
   have HGG:=hide (hI x (List.mem_of_getElem? hx)).2.2.2
   obtain ⟨ia,ic,e4,hin⟩:=(HP0.out.keep (btrans HB5.out HI.out.1)).ins
   obtain ⟨rfl,rfl⟩:qi=ia∧qe=ic:=by simpa using e4
   obtain ⟨g,o,rfl,hin2⟩:=hin (List.ne_nil_of_mem (List.mem_of_getElem? hx))
   obtain ⟨ae,ce,aa,ca,hic⟩:=hin2 k x hx
   obtain ⟨y0,y1,y2,y3,y4,y5,y6,y7,y8,y9,y10,hee,haa⟩:=hic
   have hba:=(Below.refl wr.heap.size wr).alloc (Nat.le_refl _) (.cells (icl x ae ce aa ca) 44)
   have HA0:=hide haa
   have HBX:=hide (BXc.new wr (icl x ae ce aa ca) 44)
   have HEE:=hide (hee.keep hba)
   have HAA:=hide (haa.keep hba)
   have HB1:=hide hba
   have HBR6:=hide HI.out.1
   have HRO:=hide HI.out.2
   have HXX:=hide hx
   have u6:=HBX.out.c 6 _ rfl
   have f6:=HBX.out.z 6
   clear e4 hin hin2 hee haa hba HI hx
   obtain ⟨op,xa,xb,xn,xto,xt,xe,xg,xbk,xlp,xat⟩:=x
   dsimp only at *
   unfold icl at *
   go_wp2_with (at_builtin;refine wpList_app rfl _ _ 41 rfl _ 161 iP (.agg #[.int .i64 0,.int .i64 0]) 2 16 Tryz.underlying41 hP hP0 hP1 hP2 rfl (by decide) (.slice none 0 0) 0 [] rfl (World.ownsRow_nil _ _ _ _) _ _ _ (xe.flatMap Cd.ecl) rfl (elenC _) ?e1 (eoneC _) ?e2 ?e3 (Nat.le_refl _) ?_)
   case e1=>exact er_newsC HEE.out
   case e2=>unfold maxLen;omega
   case e3=>omega
   generalize wr.alloc _=wa at *
   intro ea ec w7 hoe hg7 _
   have hb7:Below wa.heap.size wa w7:=grown_below hg7
   have HBX7:=hide ((HBX.out.keep hb7).set (j:=6) rfl (.slice ea xe.length ec))
   have u6:=(HBX.out.keep hb7).c 6 _ rfl
   have f6:=(HBX.out.keep hb7).z 6
   have hbl:=HBX.out.l
   have hoe8:=own_keepC (w':=w7.setCell ⟨wr.heap.size,6,none⟩ (.slice ea xe.length ec)) hoe (fun g hg=>Below.heap_setCell _ _ _ _ (fun e=>by
    have h1:=(hoe.lt g hg).1
    have h2:g=wr.heap.size:=e
    omega))
   have HER:=hide (And.intro (own_erC hoe8) (fun j (hj:(Value.slice ea xe.length ec).ownBlock=some j)=>And.intro (show wr.heap.size<j by have:=(hoe8.lt j hj).1;omega) (hoe8.lt j hj).2))
   have HW8:=hide (bset (o:=6) (btrans HB1.out hb7) (Nat.le_refl _) (.slice ea xe.length ec))
   have HAA8:Hid (AgR (w7.setCell ⟨wr.heap.size,6,none⟩ (.slice ea xe.length ec)) (.slice aa xg.length ca) xg):=hide (HA0.out.keep HW8.out)
   clear hoe hg7 hb7 HBX hoe8 HEE HAA HB1 hbl
   go_wp2
   generalize w7.setCell ⟨wr.heap.size,6,none⟩ (.slice ea xe.length ec)=w8 at *
   have U7:=hide (HBX7.out.c 7 _ rfl)
   obtain ⟨ga',ca',e7,HAR⟩:=HAA8.out
   obtain ⟨rfl,rfl⟩:aa=ga'∧ca=ca':=by simpa using e7
   have HAR:=hide HAR
   clear e7
   generalize hwr:wr=wb at *
   clear hwr
   go_loopw [9,10] (fun v9 iv ws=> ∃ j:Nat,j≤xg.length∧iv= .int .i64 j∧ ∃ a9 c9,v9= .slice a9 j c9∧Hid (Below w8.heap.size w8 ws∧ROc 100 2 AX w8.heap.size ws (.slice a9 j c9) (xg.take j))) (fun _ iv _=>xg.length - (intOf iv).toNat)
   case atStart=>exact ⟨0,Nat.zero_le _,rfl,none,0,rfl,hide ⟨Below.refl _ _,ROc.nil _ _ _ _ _⟩⟩
   case round=>
    obtain ⟨j,hj,rfl,a9,c9,rfl,HI⟩:=hrel
    have u7:=bsome HI.out.1 U7.out
    by_cases hlj:j<xg.length
    ·obtain ⟨⟨ys,yv⟩,hy⟩: ∃ y,xg[j]? =some y:=⟨_,List.getElem?_eq_getElem hlj⟩
     obtain ⟨ga,oa,rfl,har⟩:=HAR.out (List.ne_nil_of_mem (List.mem_of_getElem? hy))
     obtain ⟨⟨ye,yc,Y0,hye⟩,Y1⟩:=har j _ hy
     dsimp only at *
     have hyl:ys.length≤1000000:=HGG.out _ (List.mem_of_getElem? hy)
     have y0:=bsome HI.out.1 Y0
     have y1:=bsome HI.out.1 Y1
     have Y0:=hide Y0
     have Y1:=hide Y1
     have HDR:Hid (Below wr.heap.size wr wr.drew):=hide (below_drewN (Below.refl _ _) 1)
     have HYD:Hid (ER wr.drew (.slice ye ys.length yc) ys):=hide ((hye.keep HI.out.1).keep HDR.out)
     have H63:Hid (0+ys.length≤maxLen):=hide (by unfold maxLen;omega)
     have HBY:Hid ((0+ys.length) * 16≤140737488355328):=hide (by omega)
     have HSZ:Hid (wr.heap.size≤wr.drew.heap.size):=hide HDR.out.size
     have H64:Hid (j+1≤maxLen):=hide (by unfold maxLen;omega)
     have HBZ:Hid ((j+1) * 32≤140737488355328):=hide (by omega)
     have hjl:(xg.take j).length=j:=by rw [List.length_take];omega
     have HJL:=hide hjl
     have htk:xg.take (j+1)=xg.take j++[(ys,yv)]:=by
      rw [←List.take_append_getElem hlj]
      rw [List.getElem?_eq_getElem hlj,Option.some.injEq] at hy
      rw [hy]
     have HTK:=hide htk
     have h8:=HI.out.1.size
     have HPRE:Hid (∀ (ze:Option Addr) (zc:Nat) (w10:World),w10.ownsRow wr.heap.size 161 2 (.slice ze (0+ys.length) zc) (0+ys.length) ([]++ys.flatMap Cd.ecl)→Below wr.heap.size wr w10→ROc 100 2 AX w8.heap.size (w10.alloc (.cells #[.slice ze ys.length zc,.int .i64 yv] 100)) (.slice a9 j c9) (xg.take j)∧(w8.heap.size≤(w10.alloc (.cells #[.slice ze ys.length zc,.int .i64 yv] 100)).heap.size∧AX (w10.alloc (.cells #[.slice ze ys.length zc,.int .i64 yv] 100)) (fun i=>w8.heap.size≤i∧i<(w10.alloc (.cells #[.slice ze ys.length zc,.int .i64 yv] 100)).heap.size∧(Value.slice a9 j c9).ownBlock ≠ some i) (ys,yv) [.slice ze ys.length zc,.int .i64 yv])∧((w10.alloc (.cells #[.slice ze ys.length zc,.int .i64 yv] 100)).cell? ⟨w10.heap.size,0,none⟩=some (.slice ze ys.length zc)∧(w10.alloc (.cells #[.slice ze ys.length zc,.int .i64 yv] 100)).cell? ⟨w10.heap.size,1,none⟩=some (.int .i64 yv))):=hide (fun ze zc w10 ho hb=>by
      rw [Nat.zero_add,List.nil_append] at ho
      have hba:=(Below.refl w10.heap.size w10).alloc (Nat.le_refl _) (.cells #[.slice ze ys.length zc,.int .i64 yv] 100)
      have hbs:=hb.size
      have hbz:=hba.size
      have ho2:=own_keepC (w':=w10.alloc (.cells #[.slice ze ys.length zc,.int .i64 yv] 100)) ho (fun g hg=>hba.block g (ho.lt g hg).2)
      refine ⟨ROc.keep (D:=AX) AX.up HI.out.2 (Kx.of_below (btrans hb hba)),⟨by omega,ze,zc,rfl,own_erC ho2,fun i hi=>⟨?_,(ho2.lt i hi).2,fun e=> ?_⟩⟩,agg_two _ _ _ _⟩
      ·have:=(ho2.lt i hi).1
       omega
      ·obtain ⟨iv,h1,h2,h3⟩:=HI.out.2.ex
       have a1:=(h2.lt i e).2
       have a2:=(ho2.lt i hi).1
       omega)
     have HFIN:Hid (∀ (w12:World) (ze:Option Addr) (zc:Nat) (w10:World),Below wr.heap.size wr w10→ ∀ iv:List (List Value),iv.length=(xg.take j).length→(∀ (k:Nat) x,(xg.take j)[k]? =some x→ ∃ cs,iv[k]? =some cs∧AX (w10.alloc (.cells #[.slice ze ys.length zc,.int .i64 yv] 100)) (fun i=>w8.heap.size≤i∧i<(w10.alloc (.cells #[.slice ze ys.length zc,.int .i64 yv] 100)).heap.size∧(Value.slice a9 j c9).ownBlock ≠ some i) x cs)→AX (w10.alloc (.cells #[.slice ze ys.length zc,.int .i64 yv] 100)) (fun i=>w8.heap.size≤i∧i<(w10.alloc (.cells #[.slice ze ys.length zc,.int .i64 yv] 100)).heap.size∧(Value.slice a9 j c9).ownBlock ≠ some i) (ys,yv) [.slice ze ys.length zc,.int .i64 yv]→ ∀ (a9':Option Addr) (c9':Nat),w12.ownsRow w8.heap.size 100 2 (.slice a9' (j+1) c9') (j+1) (iv.flatten++[.slice ze ys.length zc,.int .i64 yv])→(w10.alloc (.cells #[.slice ze ys.length zc,.int .i64 yv] 100)).grownBy w12 (Value.slice a9 j c9).ownBlock→((Value.slice a9' (j+1) c9').ownBlock=(Value.slice a9 j c9).ownBlock∨(Value.slice a9' (j+1) c9').ownBlock=some (w10.alloc (.cells #[.slice ze ys.length zc,.int .i64 yv] 100)).heap.size)→Below w8.heap.size w8 w12∧ROc 100 2 AX w8.heap.size w12 (.slice a9' (j+1) c9') (xg.take (j+1))):=hide (fun w12 ze zc w10 hb iv i1 i3 hx a9' c9' ho hg hv=>by
      have hba:=(Below.refl w10.heap.size w10).alloc (Nat.le_refl _) (.cells #[.slice ze ys.length zc,.int .i64 yv] 100)
      refine ⟨?_,?_⟩
      ·have hk:Kx (fun i=>i<w8.heap.size) w8 w12:=(Kx.of_below (btrans HI.out.1 (btrans hb hba))).trans ⟨hg.os,hg.tape,hg.output,hg.size,fun i hi hX=>hg.block i hi (fun e=>by
        obtain ⟨iv2,h1,h2,h3⟩:=HI.out.2.ex
        have:=(h2.lt i e.symm).1
        omega)⟩
       exact hk.below_of (fun i hi=>hi)
      ·rw [htk]
       refine ROc.push2 (D:=AX) AX.up i1 i3 hx ?_ hg hv
       rw [hjl]
       exact ho)
     clear hy har hye HI hjl htk h8
     go_wp2
     go_region_held_law (fun w'=>w'.cell? ⟨wb.heap.size,7,none⟩=some (.slice (some ⟨ga,oa,none⟩) xg.length ca)∧w'.cell? ⟨ga,oa+j * 2,none⟩=some (.slice ye ys.length yc)∧w'.cell? ⟨ga,oa+j * 2+1,none⟩=some (.int .i64 yv)) (first|exact ⟨by assumption,by assumption,by assumption⟩|go_keep) ((first|(refine step_app rfl (.tmp 47) (.tmp 53) 41 rfl wr.heap.size 161 iP (.agg #[.int .i64 0,.int .i64 0]) 2 16 Tryz.underlying41 hP hP0 hP1 hP2 rfl (by decide) (.slice none 0 0) 0 [] rfl (World.ownsRow_nil _ _ _ _) _ _ _ (ys.flatMap Cd.ecl) rfl (elenC _) (er_newsC HYD.out) (eoneC _) H63.out HBY.out HSZ.out ?_;intro ze zc w10 hoe hg10 hvv;have hb10:=grown_below hg10;have kc:=btrans HDR.out hb10;have r1:=bsome kc u7;have r2:=bsome kc y0;have r3:=bsome kc y1;have HPR:=hide (HPRE.out ze zc w10 hoe kc);have KC:=hide kc;clear hoe hg10 hvv hb10 kc;obtain ⟨iv,hi1,hi2,hi3⟩:=HPR.out.1.ex;have HI1:=hide hi1;have HI2:=hide hi2;have HI3:=hide hi3;clear hi1 hi2 hi3)|(refine step_app rfl (.tmp 46) (.tmp 62) 42 rfl w8.heap.size 100 iA (.agg #[.slice none 0 0,.int .i64 0]) 2 32 Tryz.underlying42 hAr hA0 hA1 hA2 rfl (by decide) (.slice a9 j c9) j iv.flatten rfl (by have h:=HI2.out;rw [HJL.out] at h;exact h) _ _ _ [.slice ze ys.length zc,.int .i64 yv] rfl rfl (fun _=>⟨_,rfl,list_two HPR.out.2.2⟩) (fun u hu=>by simp at hu;rcases hu with rfl|rfl<;> rfl) H64.out HBZ.out HPR.out.2.1.1 ?_;intro a9' c9' w12 hown hg12 hv12;have kd:=HFIN.out w12 ze zc w10 KC.out iv HI1.out HI3.out HPR.out.2.1.2 a9' c9' hown hg12 hv12;have hk12:=kd.1;have r4:=bsome hk12 U7.out;have r5:=bsome hk12 Y0.out;have r6:=bsome hk12 Y1.out;have HF12:=hide kd;clear hown hg12 hv12 kd hk12)))
     go_wp2
     go_roundw
     case rel=>exact ⟨j+1,by omega,by go_num,_,_,rfl,hide HF12.out⟩
     case measure=>simp [intOf];omega
    ·obtain rfl:j=xg.length:=by omega
     have hfa:AGn wr (fun i=>w8.heap.size≤i∧i<wr.heap.size) (.slice a9 xg.length c9) xg:=by
      have:=HI.out.2
      rw [List.take_length] at this
      exact this.agn
     have HFA:=hide hfa
     have HBX9:=hide ((HBX7.out.keep HI.out.1).set (j:=7) rfl (.slice a9 xg.length c9))
     have HIa:=hide HI.out.1
     have f7:=(HBX7.out.keep HI.out.1).z 7
     have HW9:=hide (bset (o:=7) (btrans HW8.out HI.out.1) (Nat.le_refl _) (.slice a9 xg.length c9))
     have hw8:wb.heap.size<w8.heap.size:=HBX7.out.l
     have hk9:Kx (fun i=>i ≠ wb.heap.size) wr (wr.setCell ⟨wb.heap.size,7,none⟩ (.slice a9 xg.length c9)):=(Kx.refl _ _).set (p:=⟨wb.heap.size,7,none⟩) (.inr (fun e=>e rfl)) _
     have hsz9:(wr.setCell ⟨wb.heap.size,7,none⟩ (.slice a9 xg.length c9)).heap.size=wr.heap.size:=by simp [World.setCell]
     have hix:IX (wr.setCell ⟨wb.heap.size,7,none⟩ (.slice a9 xg.length c9)) (fun i=>wb.heap.size≤i∧i<wr.heap.size) ⟨op,xa,xb,xn,xto,xt,xe,xg,xbk,xlp,xat⟩ [.int .i64 op,.int .i64 xa,.int .i64 xb,.int .i64 xn,.int .i64 xto,.string xt,.slice ea xe.length ec,.slice a9 xg.length c9,.int .i64 xbk,.int .i64 xlp,.int .i64 xat]:=by
      refine ⟨ea,ec,a9,c9,rfl,?_,?_⟩
      ·refine ⟨(HER.out.1.keep HI.out.1).keepX hk9 (fun i hi=> ?_),fun i hi=> ?_⟩
       ·have:=(HER.out.2 i hi).1
        omega
       ·have h1:=HER.out.2 i hi
        have h2:=HI.out.1.size
        exact ⟨by omega,by omega⟩
      ·exact hfa.up (hk9.mono (fun i _ hi=>by omega)) (fun i hi=>⟨by omega,hi.2⟩)
     have n0:=(HBX7.out.keep HI.out.1).c 0 _ rfl
     have n1:=(HBX7.out.keep HI.out.1).c 1 _ rfl
     have n2:=(HBX7.out.keep HI.out.1).c 2 _ rfl
     have n3:=(HBX7.out.keep HI.out.1).c 3 _ rfl
     have n4:=(HBX7.out.keep HI.out.1).c 4 _ rfl
     have n5:=(HBX7.out.keep HI.out.1).c 5 _ rfl
     have n6:=(HBX7.out.keep HI.out.1).c 6 _ rfl
     have n7:=(HBX7.out.keep HI.out.1).c 7 _ rfl
     have n8:=(HBX7.out.keep HI.out.1).c 8 _ rfl
     have n9:=(HBX7.out.keep HI.out.1).c 9 _ rfl
     have n10:=(HBX7.out.keep HI.out.1).c 10 _ rfl
     have hal:=(Below.refl (wr.setCell ⟨wb.heap.size,7,none⟩ (.slice a9 xg.length c9)).heap.size (wr.setCell ⟨wb.heap.size,7,none⟩ (.slice a9 xg.length c9))).alloc (Nat.le_refl _) (.cells #[.int .i64 op,.int .i64 xa,.int .i64 xb,.int .i64 xn,.int .i64 xto,.string xt,.slice ea xe.length ec,.slice a9 xg.length c9,.int .i64 xbk,.int .i64 xlp,.int .i64 xat] 44)
     have hWA:=btrans HW9.out hal
     have hszA:((wr.setCell ⟨wb.heap.size,7,none⟩ (.slice a9 xg.length c9)).alloc (.cells #[.int .i64 op,.int .i64 xa,.int .i64 xb,.int .i64 xn,.int .i64 xto,.string xt,.slice ea xe.length ec,.slice a9 xg.length c9,.int .i64 xbk,.int .i64 xlp,.int .i64 xat] 44)).heap.size=wr.heap.size+1:=by simp [World.setCell]
     have HNC:Hid (∀ j u,([.int .i64 op,.int .i64 xa,.int .i64 xb,.int .i64 xn,.int .i64 xto,.string xt,.slice ea xe.length ec,.slice a9 xg.length c9,.int .i64 xbk,.int .i64 xlp,.int .i64 xat]:List Value)[j]? =some u→((wr.setCell ⟨wb.heap.size,7,none⟩ (.slice a9 xg.length c9)).alloc (.cells #[.int .i64 op,.int .i64 xa,.int .i64 xb,.int .i64 xn,.int .i64 xto,.string xt,.slice ea xe.length ec,.slice a9 xg.length c9,.int .i64 xbk,.int .i64 xlp,.int .i64 xat] 44)).cell? ((⟨wr.heap.size,0,none⟩:Addr).add j)=some u):=hide (fun j u hu=>by
      rw [add_off,←hsz9]
      exact (BXc.new (wr.setCell ⟨wb.heap.size,7,none⟩ (.slice a9 xg.length c9)) #[.int .i64 op,.int .i64 xa,.int .i64 xb,.int .i64 xn,.int .i64 xto,.string xt,.slice ea xe.length ec,.slice a9 xg.length c9,.int .i64 xbk,.int .i64 xlp,.int .i64 xat] 44).c j u hu)
     obtain ⟨iv,j1,j2,j3⟩:=(ROc.keep (D:=IX) IX.up HRO.out (Kx.of_below hWA)).ex
     have hkl:(p.ins.take k).length=k:=by rw [List.length_take];omega
     rw [hkl] at j2
     have HJ2:=hide j2
     have htk:p.ins.take (k+1)=p.ins.take k++[⟨op,xa,xb,xn,xto,xt,xe,xg,xbk,xlp,xat⟩]:=by
      have hx:=HXX.out
      rw [←List.take_append_getElem hlt]
      rw [List.getElem?_eq_getElem hlt,Option.some.injEq] at hx
      rw [hx]
     have hbi6:w6.heap.size≤wb.heap.size:=HBR6.out.size
     have hrs: ∀ i,(Value.slice a5 k c5).ownBlock=some i→i<wb.heap.size∧w6.heap.size≤i:=fun i hi=>by
      obtain ⟨iv2,q1,q2,q3⟩:=HRO.out.ex
      exact ⟨(q2.lt i hi).2,(q2.lt i hi).1⟩
     have hixA:=hix.up (w':=((wr.setCell ⟨wb.heap.size,7,none⟩ (.slice a9 xg.length c9)).alloc (.cells #[.int .i64 op,.int .i64 xa,.int .i64 xb,.int .i64 xn,.int .i64 xto,.string xt,.slice ea xe.length ec,.slice a9 xg.length c9,.int .i64 xbk,.int .i64 xlp,.int .i64 xat] 44))) (N':=fun i=>w6.heap.size≤i∧i<((wr.setCell ⟨wb.heap.size,7,none⟩ (.slice a9 xg.length c9)).alloc (.cells #[.int .i64 op,.int .i64 xa,.int .i64 xb,.int .i64 xn,.int .i64 xto,.string xt,.slice ea xe.length ec,.slice a9 xg.length c9,.int .i64 xbk,.int .i64 xlp,.int .i64 xat] 44)).heap.size∧(Value.slice a5 k c5).ownBlock ≠ some i) (Kx.of_below hal) (fun i hi=>⟨by omega,by rw [hszA];omega,fun e=>by have:=(hrs i e).1;omega⟩)
     have HFN:Hid (∀ (a5':Option Addr) (c5':Nat) (w13:World),w13.ownsRow w6.heap.size 44 11 (.slice a5' (k+1) c5') (k+1) (iv.flatten++[.int .i64 op,.int .i64 xa,.int .i64 xb,.int .i64 xn,.int .i64 xto,.string xt,.slice ea xe.length ec,.slice a9 xg.length c9,.int .i64 xbk,.int .i64 xlp,.int .i64 xat])→((wr.setCell ⟨wb.heap.size,7,none⟩ (.slice a9 xg.length c9)).alloc (.cells #[.int .i64 op,.int .i64 xa,.int .i64 xb,.int .i64 xn,.int .i64 xto,.string xt,.slice ea xe.length ec,.slice a9 xg.length c9,.int .i64 xbk,.int .i64 xlp,.int .i64 xat] 44)).grownBy w13 (Value.slice a5 k c5).ownBlock→((Value.slice a5' (k+1) c5').ownBlock=(Value.slice a5 k c5).ownBlock∨(Value.slice a5' (k+1) c5').ownBlock=some ((wr.setCell ⟨wb.heap.size,7,none⟩ (.slice a9 xg.length c9)).alloc (.cells #[.int .i64 op,.int .i64 xa,.int .i64 xb,.int .i64 xn,.int .i64 xto,.string xt,.slice ea xe.length ec,.slice a9 xg.length c9,.int .i64 xbk,.int .i64 xlp,.int .i64 xat] 44)).heap.size)→Below w6.heap.size w6 w13∧ROc 44 11 IX w6.heap.size w13 (.slice a5' (k+1) c5') (p.ins.take (k+1))):=hide (fun a5' c5' w13 ho hg hv=>by
      refine ⟨?_,?_⟩
      ·have hk:Kx (fun i=>i<w6.heap.size) w6 w13:=((Kx.of_below (X:=fun i=>i<w6.heap.size) HBR6.out).trans (Kx.of_below (X:=fun i=>i<w6.heap.size) hWA)).trans ⟨hg.os,hg.tape,hg.output,hg.size,fun i hi hX=>hg.block i hi (fun e=>by
        have:=(hrs i e.symm).2
        omega)⟩
       exact hk.below_of (fun i hi=>hi)
      ·rw [htk]
       refine ROc.push2 (D:=IX) IX.up j1 j3 hixA ?_ hg hv
       rw [hkl]
       exact ho)
     have HSA:Hid (w6.heap.size≤((wr.setCell ⟨wb.heap.size,7,none⟩ (.slice a9 xg.length c9)).alloc (.cells #[.int .i64 op,.int .i64 xa,.int .i64 xb,.int .i64 xn,.int .i64 xto,.string xt,.slice ea xe.length ec,.slice a9 xg.length c9,.int .i64 xbk,.int .i64 xlp,.int .i64 xat] 44)).heap.size):=hide (by rw [hszA];have:=HIa.out.size;omega)
     clear hfa hix HI HFA hal hWA j1 j2 j3 hixA hk9
     go_wp2_with (at_builtin;refine wpList_app rfl _ _ 37 rfl w6.heap.size 44 iI (.agg #[.int .i64 0,.int .i64 0,.int .i64 0,.int .i64 0,.int .i64 0,.string ⟨#[]⟩,.slice none 0 0,.slice none 0 0,.int .i64 0,.int .i64 0,.int .i64 0]) 11 128 Tryz.underlying37 hIn hI0 hI1 hI2 rfl (by decide) (.slice a5 k c5) k iv.flatten rfl (by exact HJ2.out) _ _ _ [.int .i64 op,.int .i64 xa,.int .i64 xb,.int .i64 xn,.int .i64 xto,.string xt,.slice ea xe.length ec,.slice a9 xg.length c9,.int .i64 xbk,.int .i64 xlp,.int .i64 xat] rfl rfl (fun _=>⟨_,rfl,HNC.out⟩) (fun u hu=>by simp at hu;rcases hu with rfl|rfl|rfl|rfl|rfl|rfl|rfl|rfl|rfl|rfl|rfl<;> rfl) ?g1 ?g2 (by exact HSA.out) ?_)
     case g1=>unfold maxLen;omega
     case g2=>omega
     intro a5' c5' w13 hown hg13 hv13
     have HF13:=hide (HFN.out a5' c5' w13 hown hg13 (by rw [hszA];exact hv13))
     clear hown hg13 hv13
     go_wp2
     refine ⟨⟨k+1,by omega,by go_num,_,_,rfl,HF13⟩,?_⟩
     simp [intOf];omega
  ·obtain rfl:k=p.ins.length:=by omega
   have hro:=HI.out.2
   rw [List.take_length] at hro
   have hbx:=HX5.out.keep HI.out.1
   have hby:=HY5.out.keep HI.out.1
   have f4:=hbx.z 4
   have n0:=hbx.c 0 _ rfl
   have n1:=hbx.c 1 _ rfl
   have n2:=hbx.c 2 _ rfl
   have n3:=hbx.c 3 _ rfl
   have n4:=hbx.c 4 _ rfl
   have o0:=hby.c 0 _ rfl
   have o1:=hby.c 1 _ rfl
   have o2:=hby.c 2 _ rfl
   have o3:=hby.c 3 _ rfl
   have o4:=hby.c 4 _ rfl
   have g0:=hby.z 0
   have g1:=hby.z 1
   have g2:=hby.z 2
   have g3:=hby.z 3
   have g4:=hby.z 4
   have hl6:w.heap.size+1<w6.heap.size:=HY5.out.l
   have HPCF:Hid (∀ W:World,Kx (fun j=>j ≠ w.heap.size∧j ≠ w.heap.size+1) wr W→PCy W w.heap.size w6.heap.size W.heap.size ⟨va,vc,ba,bc,a5,c5⟩ p):=hide (fun W hk=>by
    have v1:=own_keepC (w':=wr) HVR.out (fun g hg=>HI.out.1.block g (HVR.out.lt g hg).2)
    have b1:=own_keepC (w':=wr) HBR.out (fun g hg=>HI.out.1.block g (HBR.out.lt g hg).2)
    have v2:=own_keepC (w':=W) v1 (fun g hg=>hk.block g (v1.lt g hg).2 (by
     have:=(v1.lt g hg).1
     omega))
    have b2:=own_keepC (w':=W) b1 (fun g hg=>hk.block g (b1.lt g hg).2 (by
     have:=(b1.lt g hg).1
     omega))
    obtain ⟨iv,r1,r2,r3⟩:=(ROc.keep (D:=IX) IX.up hro (hk.mono (fun i _ hi=>by omega))).ex
    have hwW:=Nat.le_trans HI.out.1.size hk.size
    refine ⟨by omega,Nat.le_refl _,own_varC v2,fun j hj=> ?_,own_blkC b2,fun j hj=> ?_,⟨iv,r1,r2,fun k x hx=> ?_⟩,fun j hj=> ?_⟩
    ·have h9:=v2.lt j (by rw [ob_own];exact hj)
     have h8:=HVR.out.lt j (by rw [ob_own];exact hj)
     exact ⟨by omega,h8.2,h9.2⟩
    ·have h9:=b2.lt j (by rw [ob_own];exact hj)
     have h8:=HBR.out.lt j (by rw [ob_own];exact hj)
     exact ⟨by omega,h8.2,h9.2⟩
    ·obtain ⟨cs,q1,q2⟩:=r3 k x hx
     exact ⟨cs,q1,q2.up (Kx.refl _ _) (fun j hj=>⟨hj.1,hj.2.1,fun e=>hj.2.2 (by rw [ob_own];exact e)⟩)⟩
    ·exact r2.lt j (by rw [ob_own];exact hj))
   have HBF:=hide (btrans HB5.out HI.out.1)
   clear hbx hby HI
   have HKF:Hid (∀ (u4 r0 r1 r2 r3 r4:Value),Kx (fun j=>j ≠ w.heap.size∧j ≠ w.heap.size+1) wr ((((((wr.setCell ⟨w.heap.size,4,none⟩ u4).setCell ⟨w.heap.size+1,0,none⟩ r0).setCell ⟨w.heap.size+1,1,none⟩ r1).setCell ⟨w.heap.size+1,2,none⟩ r2).setCell ⟨w.heap.size+1,3,none⟩ r3).setCell ⟨w.heap.size+1,4,none⟩ r4)):=hide (fun u4 r0 r1 r2 r3 r4=>((((((Kx.refl _ _).set (p:=⟨w.heap.size,4,none⟩) (.inr (fun e=>e.1 rfl)) u4).set (p:=⟨w.heap.size+1,0,none⟩) (.inr (fun e=>e.2 rfl)) r0).set (p:=⟨w.heap.size+1,1,none⟩) (.inr (fun e=>e.2 rfl)) r1).set (p:=⟨w.heap.size+1,2,none⟩) (.inr (fun e=>e.2 rfl)) r2).set (p:=⟨w.heap.size+1,3,none⟩) (.inr (fun e=>e.2 rfl)) r3).set (p:=⟨w.heap.size+1,4,none⟩) (.inr (fun e=>e.2 rfl)) r4)
   clear hro
   go_wp2
   refine bodyPost_ret (v:= .agg #[.string p.name,.slice va p.vars.length vc,.int .i64 p.params,.slice ba p.blocks.length bc,.slice a5 p.ins.length c5]) (by simp [results,Tryz.results18,go_sem,o0,o1,o2,o3,o4]) rfl ⟨⟨va,vc,ba,bc,a5,c5⟩,w6.heap.size,rfl,HPCF.out _ (HKF.out _ _ _ _ _ _),bset (bset (bset (bset (bset (bset HBF.out (Nat.le_refl _) _) (Nat.le_succ _) _) (Nat.le_succ _) _) (Nat.le_succ _) _) (Nat.le_succ _) _) (Nat.le_succ _) _⟩
end Go.Proofs.YtcdcoiobpbdmpaaGreatDoor
namespace Go.Proofs.YtcdcoiobpbdmpaaGreatDoor.Lr
open Go.Proofs.YtcdcoiobpbdmpaaGreatDoor Go.Proofs.YtcdcoiobpbdmpaaGreatDoor.Sx
def cutI (x:Cd.In):Cd.In:=⟨18,x.a,x.b,x.n,x.to,x.t,x.e,x.args,x.bk,x.lp,x.at'⟩
def cutP (p:Cd.Pr) (i:Nat) (x:Cd.In):Cd.Pr:=⟨p.name,p.vars,p.params,p.blocks,p.ins.set i (cutI x)⟩
theorem bad_at {ab:List Cd.Pr} {q:Cd.Pr}: ∀ (l:List Cd.In) (j i:Nat) (y:Cd.In),(∀ x ∈ l,Ck.ins ab q x=true)→i<l.length→Ck.ins ab q y=false→Ck.bad ab q j (l.set i y)=some (j+i)
 |[],_,_,_,_,hi,_=>by simp at hi
 |x::r,j,0,y,_,_,hy=>by
  show Ck.bad ab q j (y::r)=_
  unfold Ck.bad
  rw [hy]
  rfl
 |x::r,j,i+1,y,h,hi,hy=>by
  show Ck.bad ab q j (x::r.set i y)=_
  unfold Ck.bad
  rw [if_pos (h x (List.mem_cons_self ..)),bad_at r (j+1) i y (fun z hz=>h z (List.mem_cons_of_mem _ hz)) (by simpa using hi) hy]
  congr 1
  omega
theorem blks_same {p q:Cd.Pr} (h:p.vars=q.vars): ∀ (l:List Lw.Bk) (i:Nat),Ck.blks p i l=Ck.blks q i l
 |[],_=>rfl
 |b::r,i=>by
  unfold Ck.blks
  rw [blk_same h,blks_same h r]
theorem fault_cut {ab:List Cd.Pr} {p:Cd.Pr} {i:Nat} {x:Cd.In} (h:(Ck.fault ab p).1=0) (hx:p.ins[i]? =some x):Ck.fault ab (cutP p i x)=(16,(i:Int)):=by
 have hf:Ck.frame p=0:=by
  unfold Ck.fault at h
  split at h
  ·contradiction
  ·rename_i hf;exact Decidable.not_not.1 hf
 have hall:=(fault_ok h).2.2.2.2
 have hi:=(List.getElem?_eq_some_iff.1 hx).1
 have hins: ∀ y,Ck.ins ab (cutP p i x) y=Ck.ins ab p y:=fun y=>ins_same (p:=cutP p i x) (q:=p) rfl (by unfold cutP;simp) rfl y
 have hfr:Ck.frame (cutP p i x)=0:=by
  rw [←hf]
  unfold Ck.frame
  have e1:((cutP p i x).ins=[])=(p.ins=[]):=by
   unfold cutP
   simp
  have e2:(cutP p i x).ins.length=p.ins.length:=by unfold cutP;simp
  rw [e2,blks_same (p:=cutP p i x) (q:=p) rfl]
  simp only [e1]
  rfl
 have hbad:Ck.bad ab (cutP p i x) 0 (cutP p i x).ins=some i:=by
  have:=bad_at (ab:=ab) (q:=cutP p i x) p.ins 0 i (cutI x) (fun y hy=>by rw [hins];exact hall y hy) hi (by
   unfold Ck.ins
   have:Ck.fits ab (cutP p i x) (cutI x)=false:=by
    unfold Ck.fits
    rw [show (cutI x).op=18 from rfl]
    simp only [Int.reduceEq,or_self,if_false]
    rfl
   rw [this,Bool.and_false])
  rw [Nat.zero_add] at this
  exact this
 unfold Ck.fault
 rw [hfr,hbad,if_neg (by simp)]
theorem first_cut: ∀ (l ab:List Cd.Pr) (k i:Nat) (p:Cd.Pr) (x:Cd.In),Ck.first ab l=none→l[k]? =some p→p.ins[i]? =some x→Ck.first ab (l.set k (cutP p i x))=some (16,(i:Int)+((ab.length+k:Nat):Int) * 10000)
 |[],_,_,_,_,_,_,h,_=>by simp at h
 |q::r,ab,0,i,p,x,h,hp,hx=>by
  obtain rfl:q=p:=by simpa using hp
  unfold Ck.first at h
  split at h
  ·cases h
  ·rename_i h1
   show Ck.first ab (cutP q i x::r)=_
   unfold Ck.first
   rw [fault_cut (Decidable.not_not.1 h1) hx,if_pos (by simp)]
   rfl
 |q::r,ab,k+1,i,p,x,h,hp,hx=>by
  unfold Ck.first at h
  split at h
  ·cases h
  ·rename_i h1
   show Ck.first ab (q::r.set k (cutP p i x))=_
   unfold Ck.first
   rw [if_neg h1,first_cut r (ab++[q]) k i p x h (by simpa using hp) hx]
   simp only [List.length_append,List.length_cons,List.length_nil]
   rw [show ab.length+0+1+k=ab.length+(k+1) by omega]
theorem check_cut {PR:List Cd.Pr} {m:Int} {k i:Nat} {p:Cd.Pr} {x:Cd.In} (hc:Ck.check PR m=(0,0)) (hp:PR[k]? =some p) (hx:p.ins[i]? =some x):Ck.check (PR.set k (cutP p i x)) m=(16,10000 * (k:Int)+(i:Int)):=by
 have hk:=(List.getElem?_eq_some_iff.1 hp).1
 unfold Ck.check at hc ⊢
 split at hc
 ·cases hc
 split at hc
 ·cases hc
 rename_i h1 h2
 cases hf:Ck.first [] PR with
 |some f=>
  rw [hf] at hc
  dsimp only at hc
  subst hc
  exact absurd rfl (code_ok.first_ne hf)
 |none=>
  rw [if_neg (by simpa using h1),if_neg (by simpa using h2),first_cut PR [] k i p x hf hp hx]
  simp only [List.length_nil,Nat.zero_add]
  congr 1
  omega
theorem ok_cut {PR:List Cd.Pr} {k i:Nat} {p:Cd.Pr} {x:Cd.In} (h:CoOK PR) (hp:PR[k]? =some p) (hx:p.ins[i]? =some x):CoOK (PR.set k (cutP p i x)):=by
 intro q hq
 rcases List.mem_or_eq_of_mem_set hq with hq|rfl
 ·exact h q hq
 ·obtain ⟨⟨h1,h2,h3,h4⟩,h5⟩:=h p (List.mem_of_getElem? hp)
  refine ⟨⟨h1,h2,h3,by show (p.ins.set i (cutI x)).length≤_;rw [List.length_set];exact h4⟩,fun y hy=> ?_⟩
  rcases List.mem_or_eq_of_mem_set hy with hy|rfl
  ·exact h5 y hy
  ·exact h5 x (List.mem_of_getElem? hx)
end Go.Proofs.YtcdcoiobpbdmpaaGreatDoor.Lr
namespace Go.Proofs.YtcdcoiobpbdmpaaGreatDoor
open Go.RowKit
theorem PCy.cut {w:World} {lo mid hi:Nat} {q:PV} {p:Cd.Pr} (h:PCy w lo mid hi q p) {i:Nat} {x:Cd.In} (hx:p.ins[i]? =some x) {g:Nat} (hg:q.ai=some ⟨g,0,none⟩):PC q (Lr.cutP p i x) (w.setCell ⟨g,i * 11,none⟩ (.int .i64 18)):=by
 obtain ⟨g',e,hm,hh,-,hr⟩:=h.read (List.ne_nil_of_mem (List.mem_of_getElem? hx))
 obtain rfl:g=g':=by rw [hg] at e;simpa using e
 have hk:Kx (fun j=>j ≠ g) w (w.setCell ⟨g,i * 11,none⟩ (.int .i64 18)):=(Kx.refl _ _).set (.inr (fun e=>e rfl)) _
 have hil:=(List.getElem?_eq_some_iff.1 hx).1
 refine ⟨h.vars.keepX hk (fun j hj=> ?_),h.blocks.keepX hk (fun j hj=> ?_),⟨q.ai,q.ci,by show Value.slice q.ai (p.ins.set i (Lr.cutI x)).length q.ci=_;rfl,fun _=>⟨g,0,hg,fun k y hy=> ?_⟩⟩⟩
 ·have:=h.nv j (by rw [←ob_own];exact hj)
  omega
 ·have:=h.nb j (by rw [←ob_own];exact hj)
  omega
 ·change (p.ins.set i (Lr.cutI x))[k]? =some y at hy
  have keep: ∀ (o:Nat) v,w.cell? ⟨g,o,none⟩=some v→o ≠ i * 11→(w.setCell ⟨g,i * 11,none⟩ (.int .i64 18)).cell? ⟨g,o,none⟩=some v:=fun o v hv ho=>by
   rw [World.cell?_setCell_other _ _ _ _ (fun e=>by injection e with e1 e2;omega)]
   exact hv
  rw [Nat.zero_add]
  by_cases hki:k=i
  ·subst hki
   rw [List.getElem?_set_self hil] at hy
   obtain rfl:=Option.some.inj hy
   obtain ⟨ae,ce,aa,ca,h5,h6,h7⟩:=hr k x hx
   have c0:=h5 0 _ rfl
   rw [Nat.add_zero] at c0
   have h6':=h6.up (N':=fun _=>True) (hk.mono (fun j _ hj=>hj.2.2)) (fun _ _=>trivial)
   have h7':=h7.up (N':=fun _=>True) (hk.mono (fun j _ hj=>hj.2.2)) (fun _ _=>trivial)
   exact ⟨ae,ce,aa,ca,⟨World.cell?_setCell_same _ _ _ c0,keep _ _ (h5 1 _ rfl) (by omega),keep _ _ (h5 2 _ rfl) (by omega),keep _ _ (h5 3 _ rfl) (by omega),keep _ _ (h5 4 _ rfl) (by omega),keep _ _ (h5 5 _ rfl) (by omega),keep _ _ (h5 6 _ rfl) (by omega),keep _ _ (h5 7 _ rfl) (by omega),keep _ _ (h5 8 _ rfl) (by omega),keep _ _ (h5 9 _ rfl) (by omega),keep _ _ (h5 10 _ rfl) (by omega),h6'.1,h7'.agR⟩⟩
  ·rw [List.getElem?_set_ne (fun e=>hki e.symm)] at hy
   obtain ⟨ae,ce,aa,ca,h5,h6,h7⟩:=hr k y hy
   have c0:=h5 0 _ rfl
   rw [Nat.add_zero] at c0
   have h6':=h6.up (N':=fun _=>True) (hk.mono (fun j _ hj=>hj.2.2)) (fun _ _=>trivial)
   have h7':=h7.up (N':=fun _=>True) (hk.mono (fun j _ hj=>hj.2.2)) (fun _ _=>trivial)
   exact ⟨ae,ce,aa,ca,⟨keep _ _ c0 (by omega),keep _ _ (h5 1 _ rfl) (by omega),keep _ _ (h5 2 _ rfl) (by omega),keep _ _ (h5 3 _ rfl) (by omega),keep _ _ (h5 4 _ rfl) (by omega),keep _ _ (h5 5 _ rfl) (by omega),keep _ _ (h5 6 _ rfl) (by omega),keep _ _ (h5 7 _ rfl) (by omega),keep _ _ (h5 8 _ rfl) (by omega),keep _ _ (h5 9 _ rfl) (by omega),keep _ _ (h5 10 _ rfl) (by omega),h6'.1,h7'.agR⟩⟩
abbrev Qd:=Cd.Pr × Nat × Nat × Nat
def PY (w:World) (N:Nat→Prop) (x:Qd) (cs:List Value):Prop:= ∃ q:PV,cs=q.cl x.1∧PCy w x.2.1 x.2.2.1 x.2.2.2 q x.1∧ ∀ j,x.2.1≤j→j<x.2.2.2→N j
theorem PY.up {w w':World} {N N':Nat→Prop} {x:Qd} {cs:List Value} (h:PY w N x cs) (hk:Kx N w w') (hN: ∀ j,N j→N' j):PY w' N' x cs:=by
 obtain ⟨q,h1,h2,h3⟩:=h
 exact ⟨q,h1,h2.up (hk.mono (fun j _ hj=>h3 j hj.1 hj.2)),fun j a b=>hN j (h3 j a b)⟩
theorem PY.len {w:World} {N:Nat→Prop} {x:Qd} {cs:List Value} (h:PY w N x cs):cs.length=5:=by
 obtain ⟨q,h1,-⟩:=h
 rw [h1]
 rfl
structure CoW (B0:Nat) (w:World) (v:Value) (l:List Cd.Pr):Prop where
 ex: ∃ (B:Nat) (L:List Qd),B0≤B∧L.map (·.1)=l∧L.Pairwise (fun a b=>a.2.2.2≤b.2.1)∧ROc 39 5 PY B w v L
theorem map_at {L:List Qd} {l:List Cd.Pr} (h:L.map (·.1)=l) {k:Nat} {p:Cd.Pr} (hp:l[k]? =some p): ∃ y:Qd,L[k]? =some y∧y.1=p:=by
 rw [←h,List.getElem?_map] at hp
 cases hy:L[k]? with
 |none=>rw [hy] at hp;cases hp
 |some y=>rw [hy] at hp;exact ⟨y,rfl,by simpa using hp⟩
theorem CoW.read {B0:Nat} {w:World} {a:Option Addr} {c:Nat} {l:List Cd.Pr} (h:CoW B0 w (.slice a l.length c) l) (hl:l ≠ []): ∃ g,a=some ⟨g,0,none⟩∧g<w.heap.size∧ ∀ (k:Nat) p,l[k]? =some p→ ∃ q:PV,(∀ (j:Nat) u,(q.cl p)[j]? =some u→w.cell? ⟨g,k * 5+j,none⟩=some u)∧PC q p w∧ ∀ (i:Nat) x,p.ins[i]? =some x→ ∃ gi,q.ai=some ⟨gi,0,none⟩∧gi<w.heap.size∧B0≤gi∧gi ≠ g∧ ∀ W,Below w.heap.size w W→(∀ n,W.frozen? ⟨gi,n,none⟩=false)∧W.cell? ⟨gi,i * 11,none⟩=some (.int .i64 x.op)∧CoR (W.setCell ⟨gi,i * 11,none⟩ (.int .i64 18)) (.slice a (l.set k (Lr.cutP p i x)).length c) (l.set k (Lr.cutP p i x)):=by
 obtain ⟨B,L,h0,h1,h2,h3⟩:=h.ex
 have hLn:L ≠ []:=fun e=>hl (by rw [←h1,e];rfl)
 have hll:L.length=l.length:=by rw [←h1];simp
 obtain ⟨g,c',hv,hB,hg,h4⟩:=h3.read PY.len hLn
 obtain ⟨rfl,-,rfl⟩:a=some ⟨g,0,none⟩∧l.length=L.length∧c=c':=by simpa using hv
 have hat: ∀ (k:Nat) p,l[k]? =some p→ ∃ (y:Qd) (q:PV),L[k]? =some y∧y.1=p∧(∀ (j:Nat) u,(q.cl p)[j]? =some u→w.cell? ⟨g,k * 5+j,none⟩=some u)∧PCy w y.2.1 y.2.2.1 y.2.2.2 q p∧ ∀ j,y.2.1≤j→j<y.2.2.2→B≤j∧j ≠ g:=fun k p hp=>by
  obtain ⟨y,hy,rfl⟩:=map_at h1 hp
  obtain ⟨cs,h5,q,rfl,h6,h7⟩:=h4 k y hy
  exact ⟨y,q,hy,rfl,fun j u hu=>by have:=h5 j u hu;rwa [Nat.zero_add] at this,h6,fun j a b=>⟨(h7 j a b).1,fun e=>(h7 j a b).2.2 (by rw [e];rfl)⟩⟩
 refine ⟨g,rfl,hg,fun k p hp=> ?_⟩
 obtain ⟨y,q,hy,hyp,hc,hpc,hne⟩:=hat k p hp
 refine ⟨q,hc,hpc.pc,fun i x hx=> ?_⟩
 obtain ⟨gi,hgi,hm,hh,-,-⟩:=hpc.read (List.ne_nil_of_mem (List.mem_of_getElem? hx))
 have hlm:=hpc.lm
 have hgn:=hne gi (by omega) hh
 refine ⟨gi,hgi,Nat.lt_of_lt_of_le hh hpc.hh,Nat.le_trans h0 hgn.1,hgn.2,fun W hb=> ?_⟩
 have hpW:=hpc.up (Kx.of_below hb)
 obtain ⟨gi',hgi',-,-,hfz,hr⟩:=hpW.read (List.ne_nil_of_mem (List.mem_of_getElem? hx))
 obtain rfl:gi=gi':=by rw [hgi] at hgi';simpa using hgi'
 obtain ⟨ae,ce,aa,ca,h5,-,-⟩:=hr i x hx
 refine ⟨hfz,h5 0 _ rfl,_,_,rfl,fun _=>⟨g,0,rfl,fun k' p' hp'=> ?_⟩⟩
 have keep: ∀ (o:Nat) v,w.cell? ⟨g,o,none⟩=some v→(W.setCell ⟨gi,i * 11,none⟩ (.int .i64 18)).cell? ⟨g,o,none⟩=some v:=fun o v hv=>by
  rw [World.cell?_setCell_other _ _ _ _ (fun e=>by injection e with e1 e2;exact hgn.2 (by omega))]
  exact bsome hb hv
 have hkl:=(List.getElem?_eq_some_iff.1 hp).1
 by_cases hkk:k'=k
 ·subst hkk
  rw [List.getElem?_set_self hkl] at hp'
  obtain rfl:=Option.some.inj hp'
  refine ⟨q,fun j u hu=> ?_,hpW.cut hx hgi⟩
  rw [Nat.zero_add]
  refine keep _ _ (hc j u ?_)
  have:q.cl (Lr.cutP p i x)=q.cl p:=by
   unfold PV.cl Lr.cutP
   simp
  rw [←this]
  exact hu
 ·rw [List.getElem?_set_ne (fun e=>hkk e.symm)] at hp'
  obtain ⟨y',q',hy',hyp',hc',hpc',hne'⟩:=hat k' p' hp'
  refine ⟨q',fun j u hu=>by rw [Nat.zero_add];exact keep _ _ (hc' j u hu),((hpc'.up (Kx.of_below hb)).up ((Kx.refl _ _).set (.inr (fun e=> ?_)) _)).pc⟩
  have hpw:=List.pairwise_iff_getElem.1 h2
  obtain ⟨l1,e1⟩:=List.getElem?_eq_some_iff.1 hy
  obtain ⟨l2,e2⟩:=List.getElem?_eq_some_iff.1 hy'
  have e':y'.2.1≤gi∧gi<y'.2.2.2:=e
  rcases Nat.lt_or_gt_of_ne hkk with hlt|hlt
  ·have:=hpw k' k l2 l1 hlt
   rw [e1,e2] at this
   omega
  ·have:=hpw k k' l1 l2 hlt
   rw [e1,e2] at this
   omega
end Go.Proofs.YtcdcoiobpbdmpaaGreatDoor
namespace Go.Proofs.YtcdcoiobpbdmpaaGreatDoor
open Go.RowKit
theorem Tryz.ckPr:(Tryz.prog.info? 39).map (fun i=>(i.zero,i.size,i.bytes))=some (some (.agg #[.string ⟨#[]⟩,.slice none 0 0,.int .i64 0,.slice none 0 0,.slice none 0 0]),5,96):=by kernel_rfl
theorem ROc.cap {α:Type} {t z:Nat} {D:World→(Nat→Prop)→α→List Value→Prop} {B:Nat} {w:World} {a:Option Addr} {n c:Nat} {l:List α} (h:ROc t z D B w (.slice a n c) l):l.length≤c:=by
 obtain ⟨iv,h1,h2,h3⟩:=h.ex
 rcases h2.2 with ⟨hv,h0⟩|⟨g,cap,cur,hv,-,-,hc,-⟩
 ·omega
 ·obtain ⟨-,-,rfl⟩:a=_∧n=_∧c=cap:=by simpa using hv
  exact hc
theorem b_three (w:World) (o1 o2 o3:Obj):Below w.heap.size w (((w.alloc o1).alloc o2).alloc o3):=(((Below.refl _ _).alloc (Nat.le_refl _) _).alloc (by simp) _).alloc (by simp;omega) _
structure CW (w1:World) (b:Nat) (m:Int) (l:List Cd.Pr) (k:Nat) (ap:Option Addr) (cp:Nat) (w:World):Prop where
 bx:BXc b w [.slice ap k cp,.int .i64 m]
 kx:Kx (fun j=>j<w1.heap.size∧j ≠ b) w1 w
 ro: ∃ Lq:List Qd,Lq.map (·.1)=l.take k∧Lq.Pairwise (fun a b=>a.2.2.2≤b.2.1)∧(∀ y ∈ Lq,y.2.2.2≤w.heap.size)∧ROc 39 5 PY w1.heap.size w (.slice ap k cp) Lq
set_option maxRecDepth 100000 in
set_option maxHeartbeats 8000000 in
theorem rCopyCode_any (l:List Cd.Pr) (m:Int) (ua:Option Addr) (uc:Nat) (w:World) (hu:CoR w (.slice ua l.length uc) l) (hO:CoOK l) (hl:l.length≤1000000):
  Calls Tryz.prog 10 #[.agg #[.slice ua l.length uc,.int .i64 m]] w fun e w'=> ∃ ap cp,e= .returned (.agg #[.slice ap l.length cp,.int .i64 m])∧CoW w.heap.size w' (.slice ap l.length cp) l∧l.length≤cp∧Below w.heap.size w w':=by
 obtain ⟨iR,hR,hR0,hR1,hR2⟩:=info_parts Tryz.ckPr
 have hb3:=b_three w (.cells #[.slice ua l.length uc,.int .i64 m] 29) (.cells #[.slice none 0 0,.int .i64 0] 29) (.cells #[.slice none 0 0,.int .i64 m] 29)
 have hx1:=((BXc.new w #[.slice ua l.length uc,.int .i64 m] 29).keep ((Below.refl _ _).alloc (Nat.le_refl _) (.cells #[.slice none 0 0,.int .i64 0] 29))).keep ((Below.refl _ _).alloc (Nat.le_refl _) (.cells #[.slice none 0 0,.int .i64 m] 29))
 have hx2:=(BXc.new (w.alloc (.cells #[.slice ua l.length uc,.int .i64 m] 29)) #[.slice none 0 0,.int .i64 0] 29).keep ((Below.refl _ _).alloc (Nat.le_refl _) (.cells #[.slice none 0 0,.int .i64 m] 29))
 have hx3:=BXc.new ((w.alloc (.cells #[.slice ua l.length uc,.int .i64 m] 29)).alloc (.cells #[.slice none 0 0,.int .i64 0] 29)) #[.slice none 0 0,.int .i64 m] 29
 rw [show (w.alloc (.cells #[.slice ua l.length uc,.int .i64 m] 29)).heap.size=w.heap.size+1 by simp] at hx2
 rw [show ((w.alloc (.cells #[.slice ua l.length uc,.int .i64 m] 29)).alloc (.cells #[.slice none 0 0,.int .i64 0] 29)).heap.size=w.heap.size+1+1 by simp] at hx3
 have HB:=hide hb3
 have HX1:=hide hx1
 have HX2:=hide hx2
 have HX3:=hide hx3
 have HU:=hide hu
 have HO:=hide hO
 clear hb3 hx1 hx2 hx3 hu hO
 go_enter Tryz.func10,Tryz.ntmps10
 go_wp2
 generalize World.alloc (World.alloc (World.alloc _ _) _) _=w1 at *
 have X10:=hide (HX1.out.c 0 _ rfl)
 go_loopw [4] (fun iv wr=> ∃ k:Nat,k≤l.length∧iv= .int .i64 k∧ ∃ ap cp,Hid (CW w1 (w.heap.size+1+1) m l k ap cp wr)) (fun iv _=>l.length - (intOf iv).toNat)
 case atStart=>exact ⟨0,Nat.zero_le _,rfl,none,0,hide ⟨HX3.out,Kx.refl _ _,[],rfl,.nil,fun y hy=>(by cases hy),ROc.nil _ _ _ _ _⟩⟩
 case round=>
  obtain ⟨k,hk,rfl,ap,cp,HI⟩:=hrel
  obtain ⟨Lq,hL1,hL2,hL3,hL4⟩:=HI.out.ro
  have HL1:=hide hL1
  have HL2:=hide hL2
  have HL3:=hide hL3
  have HL4:=hide hL4
  clear hL1 hL2 hL3 hL4
  have hl1:w.heap.size<w1.heap.size:=HX1.out.l
  have hl2:w.heap.size+1<w1.heap.size:=HX2.out.l
  have hl3:w.heap.size+1+1<w1.heap.size:=HX3.out.l
  have hbw:Below w.heap.size w wr:=((Kx.of_below (X:=fun j=>j<w.heap.size) HB.out).trans (HI.out.kx.mono (fun j _ hj=>⟨by omega,by omega⟩))).below_of (fun j hj=>hj)
  have hx1:=HX1.out.keepK HI.out.kx ⟨hl1,by omega⟩
  have c0:=hx1.c 0 _ rfl
  have d0:=HI.out.bx.c 0 _ rfl
  by_cases hlt:k<l.length
  ·obtain ⟨p,hx⟩: ∃ p,l[k]? =some p:=⟨_,List.getElem?_eq_getElem hlt⟩
   obtain ⟨ua',uc',e1,hr⟩:=HU.out.keep hbw
   obtain ⟨rfl,rfl⟩:ua=ua'∧uc=uc':=by simpa using e1
   obtain ⟨g,o,rfl,hc⟩:=hr (List.ne_nil_of_mem (List.mem_of_getElem? hx))
   obtain ⟨q,hq,hpc⟩:=hc k p hx
   have y0:wr.cell? ⟨g,o+k * 5,none⟩=some (.string p.name):=hq 0 _ rfl
   have y1:=hq 1 _ rfl
   have y2:=hq 2 _ rfl
   have y3:=hq 3 _ rfl
   have y4:=hq 4 _ rfl
   have HDR:Hid (Below wr.heap.size wr wr.drew):=hide (below_drewN (Below.refl _ _) 1)
   have HOp:=HO.out p (List.mem_of_getElem? hx)
   have CC:=hide (rCopyProc_any q p wr.drew (hpc.keep HDR.out) HOp.1 HOp.2)
   have HJL:Hid (Lq.length=k):=hide (by have:=congrArg List.length HL1.out;rw [List.length_map,List.length_take] at this;omega)
   have HTK:Hid (l.take (k+1)=l.take k++[p]):=hide (by
    rw [←List.take_append_getElem hlt]
    rw [List.getElem?_eq_getElem hlt,Option.some.injEq] at hx
    rw [hx])
   have H64:Hid (k+1≤maxLen):=hide (by unfold maxLen;omega)
   have HBZ:Hid ((k+1) * 96≤140737488355328):=hide (by omega)
   have hs1:w1.heap.size≤wr.heap.size:=HI.out.kx.size
   have hrs: ∀ i,(Value.slice ap k cp).ownBlock=some i→i<wr.heap.size∧w1.heap.size≤i:=fun i hi=>by
    obtain ⟨iv2,q1,q2,q3⟩:=HL4.out.ex
    exact ⟨(q2.lt i hi).2,(q2.lt i hi).1⟩
   have HPRE:Hid (∀ (q':PV) (mid:Nat) (w10:World),PCy w10 wr.drew.heap.size mid w10.heap.size q' p→Below wr.heap.size wr w10→ROc 39 5 PY w1.heap.size (w10.alloc (.cells #[.string p.name,.slice q'.av p.vars.length q'.cv,.int .i64 p.params,.slice q'.ab p.blocks.length q'.cb,.slice q'.ai p.ins.length q'.ci] 39)) (.slice ap k cp) Lq∧(w1.heap.size≤(w10.alloc (.cells #[.string p.name,.slice q'.av p.vars.length q'.cv,.int .i64 p.params,.slice q'.ab p.blocks.length q'.cb,.slice q'.ai p.ins.length q'.ci] 39)).heap.size∧PY (w10.alloc (.cells #[.string p.name,.slice q'.av p.vars.length q'.cv,.int .i64 p.params,.slice q'.ab p.blocks.length q'.cb,.slice q'.ai p.ins.length q'.ci] 39)) (fun i=>w1.heap.size≤i∧i<(w10.alloc (.cells #[.string p.name,.slice q'.av p.vars.length q'.cv,.int .i64 p.params,.slice q'.ab p.blocks.length q'.cb,.slice q'.ai p.ins.length q'.ci] 39)).heap.size∧(Value.slice ap k cp).ownBlock ≠ some i) (p,wr.heap.size,mid,w10.heap.size) [.string p.name,.slice q'.av p.vars.length q'.cv,.int .i64 p.params,.slice q'.ab p.blocks.length q'.cb,.slice q'.ai p.ins.length q'.ci])∧ ∀ j u,([.string p.name,.slice q'.av p.vars.length q'.cv,.int .i64 p.params,.slice q'.ab p.blocks.length q'.cb,.slice q'.ai p.ins.length q'.ci]:List Value)[j]? =some u→(w10.alloc (.cells #[.string p.name,.slice q'.av p.vars.length q'.cv,.int .i64 p.params,.slice q'.ab p.blocks.length q'.cb,.slice q'.ai p.ins.length q'.ci] 39)).cell? ((⟨w10.heap.size,0,none⟩:Addr).add j)=some u):=hide (fun q' mid w10 hpx hb=>by
    have hba:=(Below.refl w10.heap.size w10).alloc (Nat.le_refl _) (.cells #[.string p.name,.slice q'.av p.vars.length q'.cv,.int .i64 p.params,.slice q'.ab p.blocks.length q'.cb,.slice q'.ai p.ins.length q'.ci] 39)
    have hbs:=hb.size
    have hbz:=hba.size
    have hdw:wr.drew.heap.size=wr.heap.size:=rfl
    rw [hdw] at hpx
    refine ⟨ROc.keep (D:=PY) PY.up HL4.out (Kx.of_below (btrans hb hba)),⟨by omega,q',rfl,hpx.up (Kx.of_below (X:=fun j=>wr.heap.size≤j∧j<w10.heap.size) hba),fun i h1 h2=>⟨by dsimp only at h1;omega,by dsimp only at h2;omega,fun e=> ?_⟩⟩,fun j u hu=> ?_⟩
    ·have:=(hrs i e).1
     dsimp only at h1
     omega
    ·rw [add_off]
     exact (BXc.new w10 #[.string p.name,.slice q'.av p.vars.length q'.cv,.int .i64 p.params,.slice q'.ab p.blocks.length q'.cb,.slice q'.ai p.ins.length q'.ci] 39).c j u hu)
   have HFIN:Hid (∀ (w12:World) (q':PV) (mid:Nat) (w10:World),Below wr.heap.size wr w10→ ∀ iv:List (List Value),iv.length=Lq.length→(∀ (j:Nat) x,Lq[j]? =some x→ ∃ cs,iv[j]? =some cs∧PY (w10.alloc (.cells #[.string p.name,.slice q'.av p.vars.length q'.cv,.int .i64 p.params,.slice q'.ab p.blocks.length q'.cb,.slice q'.ai p.ins.length q'.ci] 39)) (fun i=>w1.heap.size≤i∧i<(w10.alloc (.cells #[.string p.name,.slice q'.av p.vars.length q'.cv,.int .i64 p.params,.slice q'.ab p.blocks.length q'.cb,.slice q'.ai p.ins.length q'.ci] 39)).heap.size∧(Value.slice ap k cp).ownBlock ≠ some i) x cs)→PY (w10.alloc (.cells #[.string p.name,.slice q'.av p.vars.length q'.cv,.int .i64 p.params,.slice q'.ab p.blocks.length q'.cb,.slice q'.ai p.ins.length q'.ci] 39)) (fun i=>w1.heap.size≤i∧i<(w10.alloc (.cells #[.string p.name,.slice q'.av p.vars.length q'.cv,.int .i64 p.params,.slice q'.ab p.blocks.length q'.cb,.slice q'.ai p.ins.length q'.ci] 39)).heap.size∧(Value.slice ap k cp).ownBlock ≠ some i) (p,wr.heap.size,mid,w10.heap.size) [.string p.name,.slice q'.av p.vars.length q'.cv,.int .i64 p.params,.slice q'.ab p.blocks.length q'.cb,.slice q'.ai p.ins.length q'.ci]→ ∀ (ap':Option Addr) (cp':Nat),w12.ownsRow w1.heap.size 39 5 (.slice ap' (k+1) cp') (k+1) (iv.flatten++[.string p.name,.slice q'.av p.vars.length q'.cv,.int .i64 p.params,.slice q'.ab p.blocks.length q'.cb,.slice q'.ai p.ins.length q'.ci])→(w10.alloc (.cells #[.string p.name,.slice q'.av p.vars.length q'.cv,.int .i64 p.params,.slice q'.ab p.blocks.length q'.cb,.slice q'.ai p.ins.length q'.ci] 39)).grownBy w12 (Value.slice ap k cp).ownBlock→((Value.slice ap' (k+1) cp').ownBlock=(Value.slice ap k cp).ownBlock∨(Value.slice ap' (k+1) cp').ownBlock=some (w10.alloc (.cells #[.string p.name,.slice q'.av p.vars.length q'.cv,.int .i64 p.params,.slice q'.ab p.blocks.length q'.cb,.slice q'.ai p.ins.length q'.ci] 39)).heap.size)→BXc (w.heap.size+1+1) w12 [.slice ap k cp,.int .i64 m]∧CW w1 (w.heap.size+1+1) m l (k+1) ap' cp' (w12.setCell ⟨w.heap.size+1+1,0,none⟩ (.slice ap' (k+1) cp'))):=hide (fun w12 q' mid w10 hb iv i1 i3 hpx ap' cp' ho hg hv=>by
    have hba:=(Below.refl w10.heap.size w10).alloc (Nat.le_refl _) (.cells #[.string p.name,.slice q'.av p.vars.length q'.cv,.int .i64 p.params,.slice q'.ab p.blocks.length q'.cb,.slice q'.ai p.ins.length q'.ci] 39)
    have hgk:Kx (fun i=>i<w1.heap.size) (w10.alloc (.cells #[.string p.name,.slice q'.av p.vars.length q'.cv,.int .i64 p.params,.slice q'.ab p.blocks.length q'.cb,.slice q'.ai p.ins.length q'.ci] 39)) w12:=⟨hg.os,hg.tape,hg.output,hg.size,fun i hi hX=>hg.block i hi (fun e=>by
     have:=(hrs i e.symm).2
     omega)⟩
    have hk12:Kx (fun i=>i<w1.heap.size) wr w12:=(Kx.of_below (btrans hb hba)).trans hgk
    have hbx:=HI.out.bx.keepK hk12 hl3
    have hro:=ROc.push2 (D:=PY) PY.up i1 i3 hpx (by rw [HJL.out];exact ho) hg hv
    have hsz:w10.heap.size≤w12.heap.size:=Nat.le_trans hba.size hg.size
    have hsw:=hb.size
    refine ⟨hbx,hbx.set (j:=0) rfl _,(HI.out.kx.trans (hk12.mono (fun i _ hi=>hi.1))).set (p:=⟨w.heap.size+1+1,0,none⟩) (.inr (fun e=>e.2 rfl)) _,Lq++[(p,wr.heap.size,mid,w10.heap.size)],by rw [List.map_append,HL1.out,HTK.out];rfl,List.pairwise_append.2 ⟨HL2.out,List.pairwise_singleton _ _,fun y hy z hz=> ?_⟩,fun y hy=> ?_,ROc.keep (D:=PY) PY.up hro ((Kx.refl _ _).set (p:=⟨w.heap.size+1+1,0,none⟩) (.inr (fun e=>by dsimp only at e;omega)) _)⟩
    ·rw [List.mem_singleton] at hz
     subst hz
     exact HL3.out y hy
    ·have e:(w12.setCell ⟨w.heap.size+1+1,0,none⟩ (.slice ap' (k+1) cp')).heap.size=w12.heap.size:=by simp [World.setCell]
     rw [e]
     rcases List.mem_append.1 hy with hy|hy
     ·have:=HL3.out y hy
      omega
     ·rw [List.mem_singleton] at hy
      subst hy
      exact hsz)
   have e9:=HI.out.bx.z 0
   have CE:=hide (CC.out.mono (R':=fun e w'=> ∃ v,e= .returned v∧ ∃ (q':PV) (mid:Nat),v= .agg (q'.cells p)∧PCy w' wr.drew.heap.size mid w'.heap.size q' p∧Below wr.drew.heap.size wr.drew w') (fun e w' h=>by
    obtain ⟨q',mid,rfl,h1,h2⟩:=h
    exact ⟨_,rfl,q',mid,rfl,h1,h2⟩))
   clear hx hr hc hq hpc HOp e1
   unfold PV.cells at *
   go_wp2
   go_region_law (first|(refine step_call_ex rfl 18 #[.agg #[.string p.name,.slice q.av p.vars.length q.cv,.int .i64 p.params,.slice q.ab p.blocks.length q.cb,.slice q.ai p.ins.length q.ci]] ?_ CE.out ?_;(focus (go_simp;done));rintro v w10 ⟨q',mid,rfl,hpx,hb10⟩;have kc:=btrans HDR.out hb10;have r0:=bsome kc c0;have r1:=bsome kc y0;have r2:=bsome kc y1;have r3:=bsome kc y2;have r4:=bsome kc y3;have r5:=bsome kc y4;have r6:=bsome kc d0;have r8:=bsome ((Below.refl w10.heap.size w10).alloc (Nat.le_refl _) (.cells #[.string p.name,.slice q'.av p.vars.length q'.cv,.int .i64 p.params,.slice q'.ab p.blocks.length q'.cb,.slice q'.ai p.ins.length q'.ci] 39)) r6;have r7:=(HI.out.bx.keep kc).z 0;have HPR:=hide (HPRE.out q' mid w10 hpx kc);have KC:=hide kc;clear hpx hb10 kc;obtain ⟨iv,hi1,hi2,hi3⟩:=HPR.out.1.ex;have HI1:=hide hi1;have HI2:=hide hi2;have HI3:=hide hi3;clear hi1 hi2 hi3)|(refine step_app rfl (.tmp 16) (.tmp 23) 27 rfl w1.heap.size 39 iR (.agg #[.string ⟨#[]⟩,.slice none 0 0,.int .i64 0,.slice none 0 0,.slice none 0 0]) 5 96 Tryz.underlying27 hR hR0 hR1 hR2 rfl (by decide) (.slice ap k cp) k iv.flatten rfl (by have h:=HI2.out;rw [HJL.out] at h;exact h) _ _ _ [.string p.name,.slice q'.av p.vars.length q'.cv,.int .i64 p.params,.slice q'.ab p.blocks.length q'.cb,.slice q'.ai p.ins.length q'.ci] rfl rfl (fun _=>⟨_,rfl,HPR.out.2.2⟩) (fun u hu=>by simp at hu;rcases hu with rfl|rfl|rfl|rfl|rfl<;> rfl) H64.out HBZ.out HPR.out.2.1.1 ?_;intro ap' cp' w12 hown hg12 hv12;have kd:=HFIN.out w12 q' mid w10 KC.out iv HI1.out HI3.out HPR.out.2.1.2 ap' cp' hown hg12 hv12;have e0:=kd.1.c 0 _ rfl;have e1:=kd.1.z 0;have HF12:=hide kd;clear hown hg12 hv12 kd))
   all_goals
    go_wp2
    refine ⟨⟨k+1,by omega,by go_num,_,_,hide HF12.out.2⟩,?_⟩
    simp [intOf];omega
  ·obtain rfl:k=l.length:=by omega
   have d1:=HI.out.bx.c 1 _ rfl
   have hx2:=HX2.out.keepK HI.out.kx ⟨hl2,by omega⟩
   have f0:=hx2.c 0 _ rfl
   have f1:=hx2.c 1 _ rfl
   have g0:=hx2.z 0
   have g1:=hx2.z 1
   have hro:=HL4.out
   have hl1:=HL1.out
   rw [List.take_length] at hl1
   have hcap:l.length≤cp:=by have h1:=hro.cap;have h2:=congrArg List.length hl1;rw [List.length_map] at h2;omega
   have HRF:Hid (∀ u v:Value,CoW w.heap.size ((wr.setCell ⟨w.heap.size+1,0,none⟩ u).setCell ⟨w.heap.size+1,1,none⟩ v) (.slice ap l.length cp) l):=hide (fun u v=>⟨_,Lq,by omega,hl1,HL2.out,ROc.keep (D:=PY) PY.up hro (((Kx.refl _ _).set (p:=⟨w.heap.size+1,0,none⟩) (.inr (fun e=>by dsimp only at e;omega)) u).set (p:=⟨w.heap.size+1,1,none⟩) (.inr (fun e=>by dsimp only at e;omega)) v)⟩)
   have HBF:=hide hbw
   clear hx1 hx2 hro hbw HI
   go_wp2
   refine bodyPost_ret (v:= .agg #[.slice ap l.length cp,.int .i64 m]) (by simp [results,Tryz.results10,go_sem,f0,f1]) rfl ⟨ap,cp,rfl,HRF.out _ _,hcap,bset (bset HBF.out (Nat.le_succ _) _) (Nat.le_succ _) _⟩
end Go.Proofs.YtcdcoiobpbdmpaaGreatDoor
namespace Go.Proofs.YtcdcoiobpbdmpaaGreatDoor
open Go.RowKit
theorem uFlt:Tryz.prog.underlying 31=some (.struct (Tryz.prog.fieldsOf 31)):=by kernel_rfl
theorem heldFlt:Tryz.prog.stoodInHeld 31=false:=by kernel_rfl
theorem eqlF (x y:Int) (w:World):Sem.run Tryz.prog (binOp .eql 31 (.agg #[.int .i64 x,.int .i64 y]) (.agg #[.int .i64 x,.int .i64 y])) w= .ok (.bool true) w:=by
 have u3:=Tryz.underlying3
 have a3:=Tryz.isAgg3
 have z3:=Tryz.sizeOf3
 rw [run_eql_struct,show (10000:Nat)=9999+1 from rfl,run_equalIn_agg w 9999 31 _ _ uFlt heldFlt]
 simp only [Program.fieldsOf,Tryz.underlying31]
 go_simp
theorem u64_id (n:Nat) (h:n≤1000000):IntKind.u64.wrap (n:Int)=(n:Int):=by
 simp only [IntKind.wrap,IntKind.signed,IntKind.bits]
 first
  |omega
  |(simp;omega)
theorem rem_of (st:Int) (n:Nat) (h:0<n) (h2:n≤1000000): ∃ k:Nat,k<n∧wrap64 ((IntKind.u64.wrap st).tmod (n:Int))=(k:Int):=by
 have h0:0≤IntKind.u64.wrap st:=by
  simp only [IntKind.wrap,IntKind.signed,IntKind.bits]
  first
   |exact Int.emod_nonneg _ (by decide)
   |(simp;omega)
 have h1:=Int.tmod_eq_emod_of_nonneg (b:=(n:Int)) h0
 have h3:=Int.emod_nonneg (IntKind.u64.wrap st) (b:=(n:Int)) (by omega)
 have h4:=Int.emod_lt_of_pos (IntKind.u64.wrap st) (b:=(n:Int)) (by omega)
 rw [←h1] at h3 h4
 generalize (IntKind.u64.wrap st).tmod (n:Int)=r at *
 refine ⟨r.toNat,by omega,?_⟩
 unfold wrap64
 omega
set_option maxRecDepth 100000 in
set_option maxHeartbeats 2000000 in
theorem lcuts_any (N:Nat) (hN:20000≤N) (w:World) (hT:Tb w) (P:Nat→Prop) (l:List Sx.Tr) (a:Option Addr) (cap:Nat) (h:Sl (RG w P N) w P l (.slice a l.length cap)) (hb:LbG N l) (hPw: ∀ b,P b→b<w.heap.size) (st at':Int):
  Calls Tryz.prog 4 #[.agg #[.slice a l.length cap],.int .i64 st,.int .i64 at'] w fun e w'=>e= .returned (.bool true)∧Kp [] w w':=by
 have HT:=hide hT
 have H1:=hide h
 have HB:=hide hb
 have HPW:=hide hPw
 clear hT h hb hPw
 go_enter Tryz.func4,Tryz.ntmps4
 go_wp2_with fail
 refine (lbegun_any _ (HT.out.kp ((Kp.refl _ _).alloc _))).mono ?_
 rintro e w1 ⟨rfl,hb1⟩
 have hk1:Kp [] _ w1:=Kp.of_below hb1
 have K1:Hid (Kp [] w w1):=hide (((Kp.refl [] _).alloc _).trans hk1)
 have x0:w1.cell? ⟨w.heap.size,0,none⟩=some (.slice a l.length cap):=hk1.some (by simp [go_sem]) (by simp)
 clear hk1 hb1
 go_wp2_with fail
 refine (greatK_any N _ P l a cap (GL.keep H1.out K1.out) HB.out).mono ?_
 rintro e w2 ⟨g,rfl,hg,hk2⟩
 have K2:=hide (K1.out.trans hk2)
 have y0:=hk2.some x0 (by simp)
 clear hk2 x0
 cases g with
 |true=>
  go_wp2
  go_ret
  exact ⟨rfl,K2.out⟩
 |false=>
  obtain ⟨⟨hs,hgn⟩,hw8,hl100⟩:=hg rfl
  obtain ⟨n,hn9⟩: ∃ n,n=9999:=⟨_,rfl⟩
  have HNm:=hide (lower_K (K:=n+1) hs hgn hw8 (by omega) (by omega) (by omega)).1
  have HLow:=hide (lower_K (K:=n+1) hs hgn hw8 (by omega) (by omega) (by omega)).2
  clear hn9
  have hlB:Hid (∀ g ∈ l,(Sx.gB g).length≤1000000):=hide fun g hg=>by
   obtain ⟨i,hi⟩:=List.getElem?_of_mem hg
   have h1:=HNm.out.ws i g hi
   have h2:(Sx.gB g).length≤Sx.wS (n+1) (Sx.gB g):=Nat.le_add_right _ _
   exact Nat.le_trans h2 h1
  have HS2:Hid (∀ w',Kp [] w w'→Sl (RG w' P (n+1)) w' P l (.slice a l.length cap)):=hide (fun w' k=>HLow.out _ _ _ (GL.keep H1.out k))
  have HPX:Hid (∀ w',Kp [] w w'→ ∀ b,P b→b<w'.heap.size):=hide (fun w' k b hb=>Nat.lt_of_lt_of_le (HPW.out b hb) k.size)
  clear hg hs hgn hw8
  cases hRV:Kn.vars (n+1) l with
  |inr f=>
   have CL:=hide (fun w' (k:Kp [] w w')=>lower_bad (n+1) (HT.out.kp k) P (HPX.out w' k) l a cap (HS2.out w' k) HNm.out hlB.out f hRV)
   clear hRV
   go_wp2_with fail
   refine (CL.out _ K2.out).mono ?_
   rintro e w3 ⟨rfl,hf0,hk3⟩
   have K3:=hide (K2.out.trans hk3)
   have qf:(f.1 !=0)=true:=by simpa using hf0
   clear hk3
   go_wp2
   go_ret
   exact ⟨rfl,(K3.out.alloc _).alloc _⟩
  |inl o=>
   have hsg:=sg_of (n:=n) (HS2.out w2 K2.out) hRV
   obtain ⟨PR,hgo,hpl,hol,hne,hl10,hck,hpk,jm,gm,hmi,hjm,hgm⟩:=Lr.lower_ok (n:=n) hRV hsg
   have HOK:=hide (Lr.code_ok hgo hck)
   have CL:=hide (fun w' (k:Kp [] w w')=>lower_gen n (HT.out.kp k) P (HPX.out w' k) l a cap (HS2.out w' k) HNm.out hlB.out o hRV hol hne (by omega) PR hgo)
   rw [mainI_eq,hmi] at CL
   rw [hmi] at hck
   have HCK:=hide hck
   have HPK:=hide hpk
   have hPn:PR ≠ []:=fun e=>by rw [e] at hpl;exact hne (List.length_eq_zero_iff.1 hpl.symm)
   have HLA:Hid (∀ (j:Nat) p,PR[j]? =some p→p.ins ≠ []):=hide (fun j p hp=>by
    obtain ⟨d,hd⟩: ∃ d,l[j]? =some d:=⟨_,List.getElem?_eq_getElem (by rw [←hpl];exact (List.getElem?_eq_some_iff.1 hp).1)⟩
    obtain ⟨li,x,e,-⟩:=(hpk j p d hp hd).la
    rw [e]
    simp)
   have HPL:=hide hpl
   have hc1:PR.length≤10:=by omega
   clear hsg hgo hpk hmi hjm hgm hRV hol hne hpl hck
   go_wp2_with fail
   refine (CL.out _ K2.out).mono ?_
   rintro e w3 ⟨ap,cp,rfl,hco,hb3,hcp⟩
   obtain ⟨g,of',rfl⟩:=cor_some hco hPn
   have K3:Hid (Kp [] w w3):=hide (K2.out.trans (Kp.of_below hb3))
   have HCO:=hide hco
   have y1:=bsome hb3 y0
   have CC:=hide (fun w' (b:Below w3.heap.size w3 w')=>ckCheck_any PR (jm:Int) (some ⟨g,of',none⟩) cp w' (HCO.out.keep b) HOK.out (by omega))
   rw [HCK.out] at CC
   clear hco hb3 y0 CL
   have CW:=hide (fun w' (b:Below w3.heap.size w3 w')=>rCopyCode_any PR (jm:Int) (some ⟨g,of',none⟩) cp w' (HCO.out.keep b) HOK.out (by omega))
   have hbA:Below w3.heap.size w3 ((w3.alloc (.cells #[.slice (some ⟨g,of',none⟩) PR.length cp,.int .i64 jm] 29)).alloc (.cells #[.int .i64 0,.int .i64 0] 31)):=((Below.refl _ _).alloc (Nat.le_refl _) _).alloc (by simp) _
   have HBA:=hide hbA
   have y2:=bsome hbA y1
   clear hbA
   go_wp2_with fail
   refine (CW.out _ HBA.out).mono ?_
   rintro e w4 ⟨a4,cp4,rfl,hcw,hc4,hb4⟩
   have B4:Hid (Below w3.heap.size w3 w4):=hide (btrans HBA.out hb4)
   have z0:w4.cell? ⟨w3.heap.size,0,none⟩=some (.slice (some ⟨g,of',none⟩) PR.length cp):=bsome hb4 (by simp [go_sem])
   have z1:w4.cell? ⟨w3.heap.size,1,none⟩=some (.int .i64 jm):=bsome hb4 (by simp [go_sem])
   obtain ⟨g4,rfl,hg4,hrd⟩:=hcw.read hPn
   obtain ⟨k,hkl,hkw⟩:=rem_of st PR.length (List.length_pos_iff.2 hPn) (by omega)
   obtain ⟨p,hp⟩: ∃ p,PR[k]? =some p:=⟨_,List.getElem?_eq_getElem hkl⟩
   obtain ⟨q,hc,-,hri⟩:=hrd k p hp
   have hpn:=HLA.out k p hp
   have hpi:=(HOK.out p (List.mem_of_getElem? hp)).1.2.2.2
   obtain ⟨i,hil,hiw⟩:=rem_of at' p.ins.length (List.length_pos_iff.2 hpn) hpi
   obtain ⟨x,hx⟩: ∃ x,p.ins[i]? =some x:=⟨_,List.getElem?_eq_getElem hil⟩
   obtain ⟨gi,hgi,hgl,hgB,hgn,hW⟩:=hri i x hx
   have HW:=hide hW
   have hb5:Below w4.heap.size w4 (w4.alloc (.cells #[.slice (some ⟨g4,0,none⟩) PR.length cp4,.int .i64 jm] 29)):=(Below.refl _ _).alloc (Nat.le_refl _) _
   have HB5:=hide hb5
   have c4:w4.cell? ⟨g4,k * 5+4,none⟩=some (.slice q.ai p.ins.length q.ci):=hc 4 _ rfl
   rw [hgi] at c4
   have c5:=bsome hb5 c4
   have k0:(0:Int)≤(k:Int):=by omega
   have k1:(k:Int)<(PR.length:Int):=by omega
   have i0:(0:Int)≤(i:Int):=by omega
   have i1:(i:Int)<(p.ins.length:Int):=by omega
   obtain ⟨hfz,hci,hCR⟩:=HW.out _ HB5.out
   have hfz0:=hfz (i * 11)
   have hgl5:=World.block_lt_of_cell? _ _ hci
   have HCR:=hide hCR
   have n1:gi ≠ w4.heap.size:=by omega
   have n2:w3.heap.size≤gi:=by have:=HBA.out.size;omega
   have n3:w3.heap.size+1<gi:=by have:=hgB;simp at this;omega
   have HCK2:=hide (Lr.check_cut HCK.out hp hx)
   have HOK2:=hide (Lr.ok_cut HOK.out hp hx)
   have HBW:Hid (Below w4.heap.size (w4.setCell ⟨gi,i * 11,none⟩ (.int .i64 18)) ((w4.setCell ⟨gi,i * 11,none⟩ (.int .i64 18)).alloc (.cells #[.slice (some ⟨g4,0,none⟩) PR.length cp4,.int .i64 jm] 29))):=hide ((Below.refl _ _).alloc (by simp [World.setCell]) _)
   have HC2:Hid (Calls Tryz.prog 8 #[.agg #[.slice (some ⟨g4,0,none⟩) PR.length cp4,.int .i64 jm]] ((w4.setCell ⟨gi,i * 11,none⟩ (.int .i64 18)).alloc (.cells #[.slice (some ⟨g4,0,none⟩) PR.length cp4,.int .i64 jm] 29)) fun e w'=>e= .returned (.agg #[.int .i64 16,.int .i64 (10000 * (k:Int)+(i:Int))])∧Below ((w4.setCell ⟨gi,i * 11,none⟩ (.int .i64 18)).alloc (.cells #[.slice (some ⟨g4,0,none⟩) PR.length cp4,.int .i64 jm] 29)).heap.size ((w4.setCell ⟨gi,i * 11,none⟩ (.int .i64 18)).alloc (.cells #[.slice (some ⟨g4,0,none⟩) PR.length cp4,.int .i64 jm] 29)) w'):=hide (by
    have h1:=((HW.out w4 (Below.refl _ _)).2.2).keep ((Below.refl _ _).alloc (Nat.le_refl _) (.cells #[.slice (some ⟨g4,0,none⟩) PR.length cp4,.int .i64 jm] 29))
    have h2:=ckCheck_any (PR.set k (Lr.cutP p i x)) jm (some ⟨g4,0,none⟩) cp4 _ h1 HOK2.out (by rw [List.length_set];omega)
    rw [HCK2.out,List.length_set] at h2
    exact h2)
   have B5:Hid (Below w3.heap.size w3 ((w4.setCell ⟨gi,i * 11,none⟩ (.int .i64 18)).alloc (.cells #[.slice (some ⟨g4,0,none⟩) PR.length cp4,.int .i64 jm] 29))):=hide ((B4.out.setCell n2 _).alloc (by have:=B4.out.size;simp [World.setCell];omega) _)
   have z0w:((w4.setCell ⟨gi,i * 11,none⟩ (.int .i64 18)).alloc (.cells #[.slice (some ⟨g4,0,none⟩) PR.length cp4,.int .i64 jm] 29)).cell? ⟨w3.heap.size,0,none⟩=some (.slice (some ⟨g,of',none⟩) PR.length cp):=bsome ((Below.refl _ _).alloc (Nat.le_refl _) _) ((World.cell?_setCell_other _ _ _ _ (fun e=>by injection e with e1 e2;omega)).trans z0)
   have z1w:((w4.setCell ⟨gi,i * 11,none⟩ (.int .i64 18)).alloc (.cells #[.slice (some ⟨g4,0,none⟩) PR.length cp4,.int .i64 jm] 29)).cell? ⟨w3.heap.size,1,none⟩=some (.int .i64 jm):=bsome ((Below.refl _ _).alloc (Nat.le_refl _) _) ((World.cell?_setCell_other _ _ _ _ (fun e=>by injection e with e1 e2;omega)).trans z1)
   have hlw:True→IntKind.u64.wrap (p.ins.length:Int)=(p.ins.length:Int):=fun _=>u64_id _ hpi
   replace hkw:True→_:=fun _=>hkw
   replace hiw:True→_:=fun _=>hiw
   clear hb4 hcw hb5 hrd y1 y2 CW hri hW hc hfz hCR hp hx c4
   go_wp2_with fail
   refine HC2.out.mono ?_
   rintro e w5 ⟨rfl,hb6⟩
   have B6:Hid (Below w3.heap.size w3 w5):=hide (btrans B5.out hb6)
   have z0x:=bsome hb6 z0w
   have z1x:=bsome hb6 z1w
   have hfe:=eqlF 16 (10000 * (k:Int)+(i:Int))
   have hfd:=lb_field
   have CK1:=hide (CC.out w5 B6.out)
   have hw1:True→wrap64 (10000 * (k:Int))=10000 * (k:Int):=fun _=>by simp only [wrap64];omega
   have hw2:True→wrap64 (10000 * (k:Int)+(i:Int))=10000 * (k:Int)+(i:Int):=fun _=>by simp only [wrap64];omega
   clear hb6 z0w z1w z0 z1 hci hfz0 c5
   go_wp2_with fail
   refine CK1.out.mono ?_
   rintro e w6 ⟨rfl,hb7⟩
   have B7:Hid (Below w3.heap.size w3 w6):=hide (btrans B6.out hb7)
   clear hb7
   go_wp2_with fail
   go_ret
   exact ⟨rfl,K3.out.trans (Kp.of_below B7.out)⟩
end Go.Proofs.YtcdcoiobpbdmpaaGreatDoor
