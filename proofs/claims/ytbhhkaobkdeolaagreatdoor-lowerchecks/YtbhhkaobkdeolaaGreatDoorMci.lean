import Derived.Test.YtbhhkaobkdeolaaGreatDoorMca
import Derived.Deep.AppendLies
import Derived.Deep.Upon
import Derived.Test.YtbhhkaobkdeolaaGreatDoorMcd
import Derived.Deep.RegionHeldLaw
import Derived.Deep.LoopGhost
import Derived.Test.YtbhhkaobkdeolaaGreatDoorMch
import Derived.Deep.RegionLaw
namespace Go.Proofs.YtbhhkaobkdeolaaGreatDoor
open Go.RowKit
structure BXc (b:Nat) (w:World) (cs:List Value):Prop where
 c: ∀ (j:Nat) u,cs[j]? =some u→w.cell? ⟨b,j,none⟩=some u
 z: ∀ j,w.frozen? ⟨b,j,none⟩=false
 l:b<w.heap.size
theorem BXc.new (w:World) (cs:Array Value) (t:TypeId):BXc w.heap.size (w.alloc (.cells cs t)) cs.toList:=
 ⟨fun j u hu=>by
  have:cs[j]? =some u:=by rw [←Array.getElem?_toList];exact hu
  simp [go_sem,this],fun j=>by simp [go_sem],by simp⟩
theorem BXc.keep {b:Nat} {w w':World} {cs:List Value} (h:BXc b w cs) (hb:Below w.heap.size w w'):BXc b w' cs:=
 ⟨fun j u hu=>bsome hb (h.c j u hu),fun j=>(hb.frozen (p:=⟨b,j,none⟩) h.l).trans (h.z j),Nat.lt_of_lt_of_le h.l hb.size⟩
theorem BXc.keepK {b:Nat} {w w':World} {cs:List Value} {X:Nat→Prop} (h:BXc b w cs) (hb:Kx X w w') (hX:X b):BXc b w' cs:=
 ⟨fun j u hu=>hb.cell (h.c j u hu) hX,fun j=>(hb.frozen (p:=⟨b,j,none⟩) h.l hX).trans (h.z j),Nat.lt_of_lt_of_le h.l hb.size⟩
theorem BXc.set {b:Nat} {w:World} {cs:List Value} (h:BXc b w cs) {j:Nat} {u:Value} (hj:cs[j]? =some u) (v:Value):BXc b (w.setCell ⟨b,j,none⟩ v) (cs.set j v):=by
 have hc:=h.c j u hj
 refine ⟨fun k x hx=> ?_,fun k=>(World.frozen?_setCell _ _ _ _).trans (h.z k),by simpa [World.setCell] using h.l⟩
 by_cases e:k=j
 ·subst e
  rw [List.getElem?_set_self (List.getElem?_eq_some_iff.1 hj).1] at hx
  cases hx
  exact World.cell?_setCell_same _ _ _ hc
 ·rw [List.getElem?_set_ne (by omega)] at hx
  rw [World.cell?_setCell_other _ _ _ _ (fun e'=>by injection e' with _ e2;omega)]
  exact h.c k x hx
theorem BXc.other {b b' j:Nat} {w:World} {cs:List Value} (h:BXc b w cs) (hb:b' ≠ b) (v:Value):BXc b (w.setCell ⟨b',j,none⟩ v) cs:=
 ⟨fun k x hx=>by rw [World.cell?_setCell_other _ _ _ _ (fun e'=>by injection e' with e1;exact hb e1)];exact h.c k x hx,fun k=>(World.frozen?_setCell _ _ _ _).trans (h.z k),by simpa [World.setCell] using h.l⟩
theorem own_keepC {t z B:Nat} {w w':World} {v:Value} {n:Nat} {xs:List Value} (h:w.ownsRow B t z v n xs) (hk: ∀ g,v.ownBlock=some g→w'.heap[g]? =w.heap[g]?):w'.ownsRow B t z v n xs:=by
 refine ⟨h.1,?_⟩
 rcases h.2 with h|⟨g,cap,cur,hv,hb,hg,rest⟩
 ·exact .inl h
 ·exact .inr ⟨g,cap,cur,hv,hb,by rw [hk g (by rw [hv];rfl)];exact hg,rest⟩
theorem own_slice {t z B:Nat} {w:World} {v:Value} {n:Nat} {xs:List Value} (h:w.ownsRow B t z v n xs): ∃ a c,v= .slice a n c:=by
 rcases h.2 with ⟨hv,h0⟩|⟨g,cap,cur,hv,-⟩
 ·exact ⟨none,0,by rw [hv,h0]⟩
 ·exact ⟨_,_,hv⟩
theorem flat_cell {α:Type} {f:α→List Value} {z:Nat} (hz: ∀ x,(f x).length=z) (l:List α) (k:Nat) (x:α) (hx:l[k]? =some x) (j:Nat) (u:Value) (hu:(f x)[j]? =some u):(l.flatMap f)[k * z+j]? =some u:=by
 induction l generalizing k with
 |nil=>simp at hx
 |cons y r ih=>
  have hj:j<z:=by rw [←hz x];exact (List.getElem?_eq_some_iff.1 hu).1
  rw [List.flatMap_cons]
  cases k with
  |zero=>
   simp at hx
   subst hx
   rw [Nat.zero_mul,Nat.zero_add,List.getElem?_append_left (by rw [hz];exact hj)]
   exact hu
  |succ k=>
   rw [List.getElem?_append_right (by rw [hz,Nat.succ_mul];omega),hz,show (k+1) * z+j - z=k * z+j by rw [Nat.succ_mul];omega]
   exact ih k (by simpa using hx)
theorem flat_len {α:Type} {f:α→List Value} {z:Nat} (hz: ∀ x,(f x).length=z) (l:List α):(l.flatMap f).length=l.length * z:=by
 induction l with
 |nil=>simp
 |cons y r ih=>rw [List.flatMap_cons,List.length_append,ih,hz,List.length_cons,Nat.succ_mul];omega
theorem flat_read {α:Type} {f:α→List Value} {z:Nat} (hz: ∀ x,(f x).length=z) (h0:0<z) {l:List α} {w:World} {g o:Nat} (h: ∀ (k:Nat) x,l[k]? =some x→ ∀ (j:Nat) u,(f x)[j]? =some u→w.cell? ⟨g,o+k * z+j,none⟩=some u):
  ∀ j u,(l.flatMap f)[j]? =some u→w.cell? ((⟨g,o,none⟩:Addr).add j)=some u:=by
 intro j u hu
 rw [add_at]
 have hj:=(List.getElem?_eq_some_iff.1 hu).1
 rw [flat_len hz] at hj
 have hk:j / z<l.length:=Nat.div_lt_of_lt_mul (by rw [Nat.mul_comm];exact hj)
 have hm:j % z<z:=Nat.mod_lt _ h0
 obtain ⟨x,hx⟩: ∃ x,l[j / z]? =some x:=⟨_,List.getElem?_eq_getElem hk⟩
 obtain ⟨v,hv⟩: ∃ v,(f x)[j % z]? =some v:=⟨_,List.getElem?_eq_getElem (by rw [hz];exact hm)⟩
 have e:j / z * z+j % z=j:=by rw [Nat.mul_comm];exact Nat.div_add_mod j z
 have h1:=flat_cell hz l _ _ hx _ _ hv
 rw [e,hu] at h1
 cases h1
 have:=h _ _ hx _ _ hv
 rwa [show o+j / z * z+j % z=o+j by omega] at this
theorem run_app {P:Program} (w:World) (t ty:TypeId) (base:Nat) (e:TypeId) (i:TypeInfo) (z:Value) (size bytes:Nat) (ht:P.underlying t=some (.slice e)) (hi:P.info? e=some i) (hz:i.zero=some z)
  (hsize:i.size=size) (hby:i.bytes=bytes) (hzs:z.cells.size=size) (hsz:0<size)
  (v:Value) (n:Nat) (xs:List Value) (hown:w.ownsRow base e size v n xs)
  (a0:Option Addr) (m c:Nat) (news:List Value) (hl:news.length=m * size) (hnews:0<m→ ∃ ad,a0=some ad∧ ∀ j u,news[j]? =some u→w.cell? (ad.add j)=some u) (h1: ∀ u ∈ news,u.oneCell'=true)
  (h63:n+m≤maxLen) (hbytes:(n+m) * bytes≤140737488355328) (hbase:base≤w.heap.size):
  ∃ a' c' w',(Builtin.append_ #[t,t] ty #[v,.slice a0 m c]).run P w= .ok (.slice a' (n+m) c') w'∧w'.ownsRow base e size (.slice a' (n+m) c') (n+m) (xs++news)∧w.grownBy w' v.ownBlock∧((Value.slice a' (n+m) c').ownBlock=v.ownBlock∨(Value.slice a' (n+m) c').ownBlock=some w.heap.size):=by
 by_cases hm:m=0
 ·subst hm
  obtain rfl:news=[]:=List.eq_nil_of_length_eq_zero (by omega)
  have hr:(Builtin.append_ #[t,t] ty #[v,.slice a0 0 c]).run P w= .ok v w:=by
   have hsrc:Src P i.size t (.slice a0 0 c) 0 [] w:=by
    cases a0 with
    |none=>exact Src.ofNil w ht c
    |some ad=>exact Src.ofSlice w ht ad 0 c [] (by simp) (fun j u hu=>by simp at hu) (fun u hu=>by simp at hu)
   rcases hown.2 with ⟨rfl,rfl⟩|⟨g,cap,cur,rfl,_,_,hnc,_⟩
   ·exact run_append_nothing w t t ty e i ht hi _ _ _ (Nat.le_refl _) _ hsrc
   ·exact run_append_nothing w t t ty e i ht hi _ _ _ hnc _ hsrc
  obtain ⟨a,c',rfl⟩:=own_slice hown
  exact ⟨a,c',w,hr,by simpa using hown,⟨rfl,rfl,rfl,Nat.le_refl _,fun _ _ _=>rfl⟩,.inl rfl⟩
 ·obtain ⟨ad,rfl,hc⟩:=hnews (by omega)
  obtain ⟨g,cap,w',hr,ho,hg,hat,-⟩:=run_append_lies (P:=P) w t ty base e i z size bytes ht hi hz hsize hby hzs hsz v n xs hown ad m c news hl hc h1 (by omega) h63 hbytes hbase _ rfl
  exact ⟨_,_,w',hr,ho,hg,hat.imp (fun e=>e.symm) (fun e=>by rw [e];rfl)⟩
theorem wpList_app {P:Program} {w:World} {ops:Array Oper} {rest:List Oper} {o:Oper} {a:Act} {Q:Exit→Act→World→Prop} (hgd:o.guard=none) (s x:Operand) (t:TypeId)
  (ho:o.op= .call { callee:= .builtin .append,args:= #[s,x],argTypes:= #[t,t] }) (base:Nat) (e:TypeId) (i:TypeInfo) (z:Value) (size bytes:Nat) (ht:P.underlying t=some (.slice e)) (hi:P.info? e=some i) (hz:i.zero=some z)
  (hsize:i.size=size) (hby:i.bytes=bytes) (hzs:z.cells.size=size) (hsz:0<size)
  (v:Value) (n:Nat) (xs:List Value) (hs:a.eval s=v) (hown:w.ownsRow base e size v n xs)
  (a0:Option Addr) (m c:Nat) (news:List Value) (hx:a.eval x= .slice a0 m c) (hl:news.length=m * size) (hnews:0<m→ ∃ ad,a0=some ad∧ ∀ j u,news[j]? =some u→w.cell? (ad.add j)=some u) (h1: ∀ u ∈ news,u.oneCell'=true)
  (h63:n+m≤maxLen) (hbytes:(n+m) * bytes≤140737488355328) (hbase:base≤w.heap.size)
  (h: ∀ a' c' w',w'.ownsRow base e size (.slice a' (n+m) c') (n+m) (xs++news)→w.grownBy w' v.ownBlock→((Value.slice a' (n+m) c').ownBlock=v.ownBlock∨(Value.slice a' (n+m) c').ownBlock=some w.heap.size)→wpList P ops Q rest (a.put o.dst (.slice a' (n+m) c')) w'):wpList P ops Q (o::rest) a w:=
 wpList_plain hgd fun _ hK=>by
  obtain ⟨a',c',w',hr,h2,h3,h4⟩:=run_app w t o.type base e i z size bytes ht hi hz hsize hby hzs hsz v n xs hown a0 m c news hl hnews h1 h63 hbytes hbase
  unfold Oper.wp execOp
  simp only [ho,resolve,invoke,builtin,Sem.run_bind,Sem.run_pure,Result.andThen_ok,List.map_toArray,List.map_cons,List.map_nil,hs,hx,hr]
  exact hK _ _ (h a' c' w' h2 h3 h4)
theorem step_app {P:Program} {w:World} {ops:Array Oper} {o:Oper} {a:Act} {K:Act→World→Prop} {Q:Exit→Act→World→Prop} {E:Prop} (hgd:o.guard=none) (s x:Operand) (t:TypeId)
  (ho:o.op= .call { callee:= .builtin .append,args:= #[s,x],argTypes:= #[t,t] }) (base:Nat) (e:TypeId) (i:TypeInfo) (z:Value) (size bytes:Nat) (ht:P.underlying t=some (.slice e)) (hi:P.info? e=some i) (hz:i.zero=some z)
  (hsize:i.size=size) (hby:i.bytes=bytes) (hzs:z.cells.size=size) (hsz:0<size)
  (v:Value) (n:Nat) (xs:List Value) (hs:a.eval s=v) (hown:w.ownsRow base e size v n xs)
  (a0:Option Addr) (m c:Nat) (news:List Value) (hx:a.eval x= .slice a0 m c) (hl:news.length=m * size) (hnews:0<m→ ∃ ad,a0=some ad∧ ∀ j u,news[j]? =some u→w.cell? (ad.add j)=some u) (h1: ∀ u ∈ news,u.oneCell'=true)
  (h63:n+m≤maxLen) (hbytes:(n+m) * bytes≤140737488355328) (hbase:base≤w.heap.size)
  (h: ∀ a' c' w',w'.ownsRow base e size (.slice a' (n+m) c') (n+m) (xs++news)→w.grownBy w' v.ownBlock→((Value.slice a' (n+m) c').ownBlock=v.ownBlock∨(Value.slice a' (n+m) c').ownBlock=some w.heap.size)→K (a.put o.dst (.slice a' (n+m) c')) w'):
  if Region.wanted o (yielded ops a.tmps)=true then Oper.wp P o a w K Q else E:=by
 have hw:Region.wanted o (yielded ops a.tmps)=true:=by simp [Region.wanted,hgd]
 rw [if_pos hw]
 obtain ⟨a',c',w',hr,h2,h3,h4⟩:=run_app w t o.type base e i z size bytes ht hi hz hsize hby hzs hsz v n xs hown a0 m c news hl hnews h1 h63 hbytes hbase
 unfold Oper.wp execOp
 simp only [ho,resolve,invoke,builtin,Sem.run_bind,Sem.run_pure,Result.andThen_ok,List.map_toArray,List.map_cons,List.map_nil,hs,hx,hr]
 exact h a' c' w' h2 h3 h4
theorem flatten_at {z:Nat} (l:List (List Value)) (hz: ∀ c ∈ l,c.length=z) (k:Nat) (c:List Value) (hk:l[k]? =some c) (j:Nat) (u:Value) (hu:c[j]? =some u):l.flatten[k * z+j]? =some u:=by
 induction l generalizing k with
 |nil=>simp at hk
 |cons a r ih=>
  have ha:a.length=z:=hz a List.mem_cons_self
  rw [List.flatten_cons]
  cases k with
  |zero=>
   simp at hk
   subst hk
   rw [Nat.zero_mul,Nat.zero_add,List.getElem?_append_left (List.getElem?_eq_some_iff.1 hu).1]
   exact hu
  |succ k=>
   rw [List.getElem?_append_right (by rw [ha,Nat.succ_mul];omega),ha,show (k+1) * z+j - z=k * z+j by rw [Nat.succ_mul];omega]
   exact ih (fun c hc=>hz c (List.mem_cons_of_mem _ hc)) k (by simpa using hk)
structure ROc {α:Type} (t z:Nat) (D:World→(Nat→Prop)→α→List Value→Prop) (B:Nat) (w:World) (v:Value) (l:List α):Prop where
 ex: ∃ iv:List (List Value),iv.length=l.length∧w.ownsRow B t z v l.length iv.flatten∧ ∀ (k:Nat) x,l[k]? =some x→ ∃ cs,iv[k]? =some cs∧D w (fun j=>B≤j∧j<w.heap.size∧v.ownBlock ≠ some j) x cs
section
variable {α:Type} {t z:Nat} {D:World→(Nat→Prop)→α→List Value→Prop} {B:Nat} {w w':World} {v v':Value} {l:List α}
theorem ROc.nil (t z:Nat) (D:World→(Nat→Prop)→α→List Value→Prop) (B:Nat) (w:World):ROc t z D B w (.slice none 0 0) []:=
 ⟨[],rfl,World.ownsRow_nil _ _ _ _,fun k x h=>by simp at h⟩
theorem ROc.keep (hD: ∀ {w w':World} {N N':Nat→Prop} {x:α} {cs:List Value},D w N x cs→Kx N w w'→(∀ j,N j→N' j)→D w' N' x cs) (h:ROc t z D B w v l) (hb:Kx (fun j=>B≤j) w w'):ROc t z D B w' v l:=by
 obtain ⟨iv,h1,h2,h3⟩:=h.ex
 refine ⟨iv,h1,own_keepC h2 (fun g hg=>hb.block g (h2.lt g hg).2 (h2.lt g hg).1),fun k x hx=> ?_⟩
 obtain ⟨cs,h4,h5⟩:=h3 k x hx
 exact ⟨cs,h4,hD h5 (hb.mono (fun j _ hj=>hj.1)) (fun j hj=>⟨hj.1,Nat.lt_of_lt_of_le hj.2.1 hb.size,hj.2.2⟩)⟩
theorem ROc.push2 (hD: ∀ {w w':World} {N N':Nat→Prop} {x:α} {cs:List Value},D w N x cs→Kx N w w'→(∀ j,N j→N' j)→D w' N' x cs) {iv:List (List Value)} (h1:iv.length=l.length) (h3: ∀ (k:Nat) x,l[k]? =some x→ ∃ cs,iv[k]? =some cs∧D w (fun j=>B≤j∧j<w.heap.size∧v.ownBlock ≠ some j) x cs) {x:α} {cs:List Value} (hx:D w (fun j=>B≤j∧j<w.heap.size∧v.ownBlock ≠ some j) x cs)
  (happ:w'.ownsRow B t z v' (l.length+1) (iv.flatten++cs)) (hg:w.grownBy w' v.ownBlock) (hv:v'.ownBlock=v.ownBlock∨v'.ownBlock=some w.heap.size):ROc t z D B w' v' (l++[x]):=by
 have hk:Kx (fun j=>B≤j∧j<w.heap.size∧v.ownBlock ≠ some j) w w':=⟨hg.os,hg.tape,hg.output,hg.size,fun j hj hN=>hg.block j hj (fun e=>hN.2.2 e.symm)⟩
 have hN: ∀ j,(B≤j∧j<w.heap.size∧v.ownBlock ≠ some j)→(B≤j∧j<w'.heap.size∧v'.ownBlock ≠ some j):=fun j hj=>⟨hj.1,Nat.lt_of_lt_of_le hj.2.1 hg.size,fun e=>by
  rcases hv with hv|hv
  ·exact hj.2.2 (by rw [←hv];exact e)
  ·rw [hv] at e
   cases e
   omega⟩
 refine ⟨iv++[cs],by simp [h1],?_,fun k y hy=> ?_⟩
 ·rw [List.length_append,List.length_cons,List.length_nil,List.flatten_append]
  simpa using happ
 ·by_cases e:k<l.length
  ·rw [List.getElem?_append_left e] at hy
   obtain ⟨c,h4,h5⟩:=h3 k y hy
   exact ⟨c,by rw [List.getElem?_append_left (by omega)];exact h4,hD h5 hk hN⟩
  ·rw [List.getElem?_append_right (by omega)] at hy
   have hk0:k - l.length=0:=by
    have:=(List.getElem?_eq_some_iff.1 hy).1
    simp at this;omega
   rw [hk0] at hy
   simp at hy
   subst hy
   exact ⟨cs,by rw [List.getElem?_append_right (by omega),h1,hk0];rfl,hD hx hk hN⟩
theorem ROc.read (hz: ∀ {w:World} {N:Nat→Prop} {x:α} {cs:List Value},D w N x cs→cs.length=z) (h:ROc t z D B w v l) (hl:l ≠ []): ∃ g c,v= .slice (some ⟨g,0,none⟩) l.length c∧B≤g∧g<w.heap.size∧ ∀ (k:Nat) x,l[k]? =some x→ ∃ cs,(∀ (j:Nat) u,cs[j]? =some u→w.cell? ⟨g,0+k * z+j,none⟩=some u)∧D w (fun j=>B≤j∧j<w.heap.size∧v.ownBlock ≠ some j) x cs:=by
 obtain ⟨iv,h1,h2,h3⟩:=h.ex
 have hlen: ∀ c ∈ iv,c.length=z:=by
  intro c hc
  obtain ⟨j,hj,he⟩:=List.mem_iff_getElem.1 hc
  obtain ⟨y,hy⟩: ∃ y,l[j]? =some y:=⟨_,List.getElem?_eq_getElem (by omega)⟩
  obtain ⟨cs2,h4,h5⟩:=h3 j y hy
  rw [List.getElem?_eq_getElem hj] at h4
  obtain rfl:=Option.some.inj h4
  rw [←he]
  exact hz h5
 rcases h2.2 with ⟨hv,h0⟩|⟨g,cap,cur,hv,hb,hg,-⟩
 ·exact absurd (List.length_eq_zero_iff.1 h0) hl
 ·refine ⟨g,cap,hv,hb,(Array.getElem?_eq_some_iff.1 hg).1,fun k x hx=> ?_⟩
  obtain ⟨cs,h4,h5⟩:=h3 k x hx
  refine ⟨cs,fun j u hu=> ?_,h5⟩
  have:=h2.cells (g:=g) (by rw [hv];rfl) (k * z+j) u (flatten_at iv hlen k cs h4 j u hu)
  rw [add_off] at this
  rw [Nat.zero_add]
  exact this
theorem ROc.form (h:ROc t z D B w v l): ∃ a c,v= .slice a l.length c:=by
 obtain ⟨iv,h1,h2,h3⟩:=h.ex
 exact own_slice h2
theorem list_two {w:World} {g:Nat} {a b:Value} (h:w.cell? ⟨g,0,none⟩=some a∧w.cell? ⟨g,1,none⟩=some b): ∀ j u,[a,b][j]? =some u→w.cell? ((⟨g,0,none⟩:Addr).add j)=some u:=fun j u hu=>by
 rw [add_off]
 match j,hu with
 |0,hu=>cases hu;exact h.1
 |1,hu=>cases hu;exact h.2
end
def AX (w:World) (N:Nat→Prop) (x:List (Int × Int) × Int) (cs:List Value):Prop:= ∃ ae ce,cs=[.slice ae x.1.length ce,.int .i64 x.2]∧ERn w N (.slice ae x.1.length ce) x.1
theorem AX.up {w w':World} {N N':Nat→Prop} {x:List (Int × Int) × Int} {cs:List Value} (h:AX w N x cs) (hk:Kx N w w') (hN: ∀ j,N j→N' j):AX w' N' x cs:=by
 obtain ⟨ae,ce,h1,h2⟩:=h
 exact ⟨ae,ce,h1,h2.up hk hN⟩
theorem AX.len {w:World} {N:Nat→Prop} {x:List (Int × Int) × Int} {cs:List Value} (h:AX w N x cs):cs.length=2:=by
 obtain ⟨ae,ce,h1,-⟩:=h
 rw [h1]
 rfl
theorem ROc.agn {B:Nat} {w:World} {v:Value} {l:List (List (Int × Int) × Int)} (h:ROc 73 2 AX B w v l):AGn w (fun j=>B≤j∧j<w.heap.size) v l:=by
 obtain ⟨a,c,rfl⟩:=h.form
 by_cases hl:l=[]
 ·subst hl
  obtain ⟨iv,h1,h2,h3⟩:=h.ex
  exact ⟨a,c,rfl,fun j hj=>⟨(h2.lt j hj).1,(h2.lt j hj).2⟩,fun hn=>absurd rfl hn⟩
 ·obtain ⟨g,c',hv,hB,hg,h4⟩:=h.read AX.len hl
  obtain ⟨rfl,rfl⟩:a=some ⟨g,0,none⟩∧c=c':=by simpa using hv
  refine ⟨_,_,rfl,fun j hj=> ?_,fun _=>⟨g,0,rfl,fun k x hx=> ?_⟩⟩
  ·have:j=g:=by simpa [Value.ownBlock] using hj.symm
   subst this
   exact ⟨hB,hg⟩
  ·obtain ⟨cs,h5,ae,ce,rfl,h6⟩:=h4 k x hx
   exact ⟨⟨ae,ce,h5 0 _ rfl,⟨h6.1,fun j hj=>⟨(h6.2 j hj).1,(h6.2 j hj).2.1⟩⟩⟩,h5 1 _ rfl⟩
theorem ROc.insx {B:Nat} {w:World} {a:Option Addr} {c:Nat} {l:List Cd.In} {N:Nat→Prop} (h:ROc 47 11 IX B w (.slice a l.length c) l) (hN: ∀ j,B≤j→j<w.heap.size→N j):(l ≠ []→ ∃ g o,a=some ⟨g,o,none⟩∧ ∀ (k:Nat) x,l[k]? =some x→ ∃ ae ce aa ca,(∀ (j:Nat) u,(Cd.pcl x ae ce aa ca x.bk x.at')[j]? =some u→w.cell? ⟨g,o+k * 11+j,none⟩=some u)∧ERn w N (.slice ae x.e.length ce) x.e∧AGn w N (.slice aa x.args.length ca) x.args)∧ ∀ j,ob a=some j→N j:=by
 refine ⟨fun hl=> ?_,fun j hj=> ?_⟩
 ·obtain ⟨g,c',hv,hB,hg,h4⟩:=h.read IX.len hl
  obtain ⟨rfl,rfl⟩:a=some ⟨g,0,none⟩∧c=c':=by simpa using hv
  refine ⟨g,0,rfl,fun k x hx=> ?_⟩
  obtain ⟨cs,h5,ae,ce,aa,ca,rfl,h6,h7⟩:=h4 k x hx
  exact ⟨ae,ce,aa,ca,h5,h6.up (Kx.refl _ _) (fun j hj=>hN j hj.1 hj.2.1),h7.up (Kx.refl _ _) (fun j hj=>hN j hj.1 hj.2.1)⟩
 ·obtain ⟨iv,h1,h2,h3⟩:=h.ex
  have:=h2.lt j (by rw [ob_own];exact hj)
  exact hN j this.1 this.2
theorem Tryz.ckV:(Tryz.prog.info? 57).map (fun i=>(i.zero,i.size,i.bytes))=some (some (.agg #[.string ⟨#[]⟩,.string ⟨#[]⟩]),2,32):=by kernel_rfl
theorem Tryz.ckB:(Tryz.prog.info? 104).map (fun i=>(i.zero,i.size,i.bytes))=some (some (.agg #[.int .i64 0,.int .i64 0,.int .i64 0,.int .i64 0]),4,32):=by kernel_rfl
theorem Tryz.ckP:(Tryz.prog.info? 139).map (fun i=>(i.zero,i.size,i.bytes))=some (some (.agg #[.int .i64 0,.int .i64 0]),2,16):=by kernel_rfl
theorem Tryz.ckA:(Tryz.prog.info? 73).map (fun i=>(i.zero,i.size,i.bytes))=some (some (.agg #[.slice none 0 0,.int .i64 0]),2,32):=by kernel_rfl
theorem Tryz.ckI:(Tryz.prog.info? 47).map (fun i=>(i.zero,i.size,i.bytes))=some (some (.agg #[.int .i64 0,.int .i64 0,.int .i64 0,.int .i64 0,.int .i64 0,.string ⟨#[]⟩,.slice none 0 0,.slice none 0 0,.int .i64 0,.int .i64 0,.int .i64 0]),11,128):=by kernel_rfl
theorem grown_below {w w':World} (h:w.grownBy w' none):Below w.heap.size w w':=⟨h.os,h.tape,h.output,h.size,fun k hk=>h.block k hk (by simp)⟩
theorem var_news {w:World} {g o:Nat} {l:List (ByteArray × ByteArray)} (h: ∀ (k:Nat) x,l[k]? =some x→w.cell? ⟨g,o+k * 2,none⟩=some (.string x.1)∧w.cell? ⟨g,o+k * 2+1,none⟩=some (.string x.2)): ∀ j u,(l.flatMap Cd.vcl)[j]? =some u→w.cell? ((⟨g,o,none⟩:Addr).add j)=some u:=
 flat_read (f:=Cd.vcl) (z:=2) (fun _=>rfl) (by decide) (fun k x hx j u hu=>by
  match j,hu with
  |0,hu=>cases hu;exact (h k x hx).1
  |1,hu=>cases hu;exact (h k x hx).2)
theorem blk_news {w:World} {g o:Nat} {l:List (Int × Int × Int × Int)} (h: ∀ (k:Nat) x,l[k]? =some x→w.cell? ⟨g,o+k * 4,none⟩=some (.int .i64 x.1)∧w.cell? ⟨g,o+k * 4+1,none⟩=some (.int .i64 x.2.1)∧w.cell? ⟨g,o+k * 4+2,none⟩=some (.int .i64 x.2.2.1)∧w.cell? ⟨g,o+k * 4+3,none⟩=some (.int .i64 x.2.2.2)): ∀ j u,(l.flatMap Cd.bcl)[j]? =some u→w.cell? ((⟨g,o,none⟩:Addr).add j)=some u:=
 flat_read (f:=Cd.bcl) (z:=4) (fun _=>rfl) (by decide) (fun k x hx j u hu=>by
  match j,hu with
  |0,hu=>cases hu;exact (h k x hx).1
  |1,hu=>cases hu;exact (h k x hx).2.1
  |2,hu=>cases hu;exact (h k x hx).2.2.1
  |3,hu=>cases hu;exact (h k x hx).2.2.2)
theorem er_newsC {w:World} {a:Option Addr} {c:Nat} {l:List (Int × Int)} (h:ER w (.slice a l.length c) l):0<l.length→ ∃ ad,a=some ad∧ ∀ j u,(l.flatMap Cd.ecl)[j]? =some u→w.cell? (ad.add j)=some u:=fun hl=>by
 obtain ⟨a',c',h1,h2⟩:=h
 obtain ⟨rfl,-⟩:a=a'∧c=c':=by simpa using h1
 obtain ⟨g,o,rfl,h3⟩:=h2 (List.ne_nil_of_length_pos hl)
 exact ⟨_,rfl,flat_read (f:=Cd.ecl) (z:=2) (fun _=>rfl) (by decide) (fun k x hx j u hu=>by
  match j,hu with
  |0,hu=>cases hu;exact (h3 k x hx).1
  |1,hu=>cases hu;exact (h3 k x hx).2)⟩
theorem own_erC {w:World} {B:Nat} {v:Value} {l:List (Int × Int)} (h:w.ownsRow B 139 2 v l.length (l.flatMap Cd.ecl)):ER w v l:=by
 rcases h.2 with ⟨hv,h0⟩|⟨g,cap,cur,hv,-⟩
 ·exact ⟨none,0,by rw [hv,h0],fun hn=>absurd (List.length_eq_zero_iff.1 h0) hn⟩
 ·refine ⟨_,_,hv,fun _=>⟨g,0,rfl,fun k x hx=> ?_⟩⟩
  have e: ∀ (j:Nat) u,(Cd.ecl x)[j]? =some u→w.cell? ⟨g,k * 2+j,none⟩=some u:=fun j u hu=>by
   have:=h.cells (g:=g) (by rw [hv];rfl) (k * 2+j) u (flat_cell (f:=Cd.ecl) (z:=2) (fun _=>rfl) l k x hx j u hu)
   rwa [add_off] at this
  rw [Nat.zero_add]
  exact ⟨e 0 _ rfl,e 1 _ rfl⟩
theorem own_varC {w:World} {B:Nat} {v:Value} {l:List (ByteArray × ByteArray)} (h:w.ownsRow B 57 2 v l.length (l.flatMap Cd.vcl)):VaR w v l:=by
 rcases h.2 with ⟨hv,h0⟩|⟨g,cap,cur,hv,-⟩
 ·exact ⟨none,0,by rw [hv,h0],fun hn=>absurd (List.length_eq_zero_iff.1 h0) hn⟩
 ·refine ⟨_,_,hv,fun _=>⟨g,0,rfl,fun k x hx=> ?_⟩⟩
  have e: ∀ (j:Nat) u,(Cd.vcl x)[j]? =some u→w.cell? ⟨g,k * 2+j,none⟩=some u:=fun j u hu=>by
   have:=h.cells (g:=g) (by rw [hv];rfl) (k * 2+j) u (flat_cell (f:=Cd.vcl) (z:=2) (fun _=>rfl) l k x hx j u hu)
   rwa [add_off] at this
  rw [Nat.zero_add]
  exact ⟨e 0 _ rfl,e 1 _ rfl⟩
theorem own_blkC {w:World} {B:Nat} {v:Value} {l:List (Int × Int × Int × Int)} (h:w.ownsRow B 104 4 v l.length (l.flatMap Cd.bcl)):BlR w v l:=by
 rcases h.2 with ⟨hv,h0⟩|⟨g,cap,cur,hv,-⟩
 ·exact ⟨none,0,by rw [hv,h0],fun hn=>absurd (List.length_eq_zero_iff.1 h0) hn⟩
 ·refine ⟨_,_,hv,fun _=>⟨g,0,rfl,fun k x hx=> ?_⟩⟩
  have e: ∀ (j:Nat) u,(Cd.bcl x)[j]? =some u→w.cell? ⟨g,k * 4+j,none⟩=some u:=fun j u hu=>by
   have:=h.cells (g:=g) (by rw [hv];rfl) (k * 4+j) u (flat_cell (f:=Cd.bcl) (z:=4) (fun _=>rfl) l k x hx j u hu)
   rwa [add_off] at this
  rw [Nat.zero_add]
  exact ⟨e 0 _ rfl,e 1 _ rfl,e 2 _ rfl,e 3 _ rfl⟩
theorem one_of {α:Type} {f:α→List Value} (hf: ∀ x,∀ u ∈ f x,u.oneCell'=true) (l:List α): ∀ u ∈ l.flatMap f,u.oneCell'=true:=fun u hu=>by
 obtain ⟨x,-,hx⟩:=List.mem_flatMap.1 hu
 exact hf x u hx
theorem vlenC (l:List (ByteArray × ByteArray)):(l.flatMap Cd.vcl).length=l.length * 2:=flat_len (f:=Cd.vcl) (z:=2) (fun _=>rfl) l
theorem blenC (l:List (Int × Int × Int × Int)):(l.flatMap Cd.bcl).length=l.length * 4:=flat_len (f:=Cd.bcl) (z:=4) (fun _=>rfl) l
theorem elenC (l:List (Int × Int)):(l.flatMap Cd.ecl).length=l.length * 2:=flat_len (f:=Cd.ecl) (z:=2) (fun _=>rfl) l
theorem voneC (l:List (ByteArray × ByteArray)): ∀ u ∈ l.flatMap Cd.vcl,u.oneCell'=true:=one_of (fun x u hu=>by simp [Cd.vcl] at hu;rcases hu with rfl|rfl<;> rfl) l
theorem boneC (l:List (Int × Int × Int × Int)): ∀ u ∈ l.flatMap Cd.bcl,u.oneCell'=true:=one_of (fun x u hu=>by simp [Cd.bcl] at hu;rcases hu with rfl|rfl|rfl|rfl<;> rfl) l
theorem eoneC (l:List (Int × Int)): ∀ u ∈ l.flatMap Cd.ecl,u.oneCell'=true:=one_of (fun x u hu=>by simp [Cd.ecl] at hu;rcases hu with rfl|rfl<;> rfl) l
set_option maxRecDepth 100000 in
set_option maxHeartbeats 8000000 in
theorem rCopyProc_any (q:PV) (p:Cd.Pr) (w:World) (h:PC q p w) (hp:PrOK p) (hI: ∀ x ∈ p.ins,InOK x):
  Calls Tryz.prog 14 #[.agg (q.cells p)] w fun e w'=> ∃ q':PV,e= .returned (.agg (q'.cells p))∧PCx w' (fun j=>w.heap.size≤j∧j<w'.heap.size) q' p∧Below w.heap.size w w':=by
 obtain ⟨iV,hV,hV0,hV1,hV2⟩:=info_parts Tryz.ckV
 obtain ⟨iB,hB,hB0,hB1,hB2⟩:=info_parts Tryz.ckB
 obtain ⟨iP,hP,hP0,hP1,hP2⟩:=info_parts Tryz.ckP
 obtain ⟨iA,hAr,hA0,hA1,hA2⟩:=info_parts Tryz.ckA
 obtain ⟨iI,hIn,hI0,hI1,hI2⟩:=info_parts Tryz.ckI
 obtain ⟨hT,hn1,hn2,hn3⟩:=hp
 have hb2:=b_two w (.cells (q.cells p) 43) (.cells #[.string ⟨#[]⟩,.slice none 0 0,.int .i64 0,.slice none 0 0,.slice none 0 0] 43)
 have hbx:=(BXc.new w (q.cells p) 43).keep ((Below.refl _ _).alloc (Nat.le_refl _) (.cells #[.string ⟨#[]⟩,.slice none 0 0,.int .i64 0,.slice none 0 0,.slice none 0 0] 43))
 have hby:=BXc.new (w.alloc (.cells (q.cells p) 43)) #[.string ⟨#[]⟩,.slice none 0 0,.int .i64 0,.slice none 0 0,.slice none 0 0] 43
 rw [show (w.alloc (.cells (q.cells p) 43)).heap.size=w.heap.size+1 by simp] at hby
 have HPC:=hide (h.keep hb2)
 have HP0:=hide h
 have HB:=hide hb2
 have HX:=hide hbx
 have HY:=hide hby
 have x1:=hbx.c 1 _ rfl
 have z1:=hbx.z 1
 clear h hb2 hbx hby hT
 unfold PV.cells at *
 obtain ⟨qa,qc,qb,qd,qi,qe⟩:=q
 dsimp only at *
 go_enter Tryz.func14,Tryz.ntmps14
 go_wp2_with (at_builtin;refine wpList_app rfl _ _ 39 rfl (w.heap.size+2) 57 iV (.agg #[.string ⟨#[]⟩,.string ⟨#[]⟩]) 2 32 Tryz.underlying39 hV hV0 hV1 hV2 rfl (by decide) (.slice none 0 0) 0 [] rfl (World.ownsRow_nil _ _ _ _) _ _ _ (p.vars.flatMap Cd.vcl) rfl (vlenC _) ?c1 (voneC _) ?c2 ?c3 ?c4 ?_)
 case c1=>
  intro hl
  obtain ⟨a,c,e,h2⟩:=HPC.out.vars
  obtain ⟨rfl,rfl⟩:qa=a∧qc=c:=by simpa using e
  obtain ⟨g,o,rfl,h3⟩:=h2 (List.ne_nil_of_length_pos hl)
  exact ⟨_,rfl,var_news h3⟩
 case c2=>unfold maxLen;omega
 case c3=>omega
 case c4=>simp
 generalize World.alloc (World.alloc _ _) _=w2 at *
 intro va vc w3 hov hg3 _
 have hb3:Below w2.heap.size w2 w3:=grown_below hg3
 have h2s:w.heap.size+2≤w2.heap.size:=by
  have:=HY.out.l
  omega
 have HX3:=hide ((HX.out.keep hb3).set (j:=1) rfl (.slice va p.vars.length vc))
 have HY3:=hide ((HY.out.keep hb3).other (b':=w.heap.size) (j:=1) (by omega) (.slice va p.vars.length vc))
 have x1:=(HX.out.keep hb3).c 1 _ rfl
 have z1:=(HX.out.keep hb3).z 1
 have x3:=(HX.out.keep hb3).c 3 _ rfl
 have HOV:=hide (own_keepC (w':=w3.setCell ⟨w.heap.size,1,none⟩ (.slice va p.vars.length vc)) hov (fun g hg=>Below.heap_setCell _ _ _ _ (fun e=>by
  have h1:=(hov.lt g hg).1
  have h2:g=w.heap.size:=e
  omega)))
 have HB3:=hide (bset (o:=1) (btrans HB.out hb3) (Nat.le_refl _) (.slice va p.vars.length vc))
 have hs3:w.heap.size+2≤(w3.setCell ⟨w.heap.size,1,none⟩ (.slice va p.vars.length vc)).heap.size:=by
  have:=hb3.size
  simp [World.setCell]
  omega
 clear hov hg3 hb3 HX HY HB HPC
 go_wp2_with (at_builtin;refine wpList_app rfl _ _ 40 rfl (w.heap.size+2) 104 iB (.agg #[.int .i64 0,.int .i64 0,.int .i64 0,.int .i64 0]) 4 32 Tryz.underlying40 hB hB0 hB1 hB2 rfl (by decide) (.slice none 0 0) 0 [] rfl (World.ownsRow_nil _ _ _ _) _ _ _ (p.blocks.flatMap Cd.bcl) rfl (blenC _) ?d1 (boneC _) ?d2 ?d3 ?d4 ?_)
 case d1=>
  intro hl
  obtain ⟨a,c,e,h2⟩:=(HP0.out.keep HB3.out).blocks
  obtain ⟨rfl,rfl⟩:qb=a∧qd=c:=by simpa using e
  obtain ⟨g,o,rfl,h3⟩:=h2 (List.ne_nil_of_length_pos hl)
  exact ⟨_,rfl,blk_news h3⟩
 case d2=>unfold maxLen;omega
 case d3=>omega
 case d4=>exact hs3
 generalize w3.setCell ⟨w.heap.size,1,none⟩ (.slice va p.vars.length vc)=w4 at *
 intro ba bc w5 hob hg5 _
 have hb5:Below w4.heap.size w4 w5:=grown_below hg5
 have HX5:=hide ((HX3.out.keep hb5).set (j:=3) rfl (.slice ba p.blocks.length bc))
 have HY5:=hide ((HY3.out.keep hb5).other (b':=w.heap.size) (j:=3) (by omega) (.slice ba p.blocks.length bc))
 have x1:=(HX3.out.keep hb5).c 3 _ rfl
 have z1:=(HX3.out.keep hb5).z 3
 have ho4:=own_keepC (w':=w5) HOV.out (fun g hg=>hb5.block g (HOV.out.lt g hg).2)
 have HVR:=hide ((own_keepC (w':=w5.setCell ⟨w.heap.size,3,none⟩ (.slice ba p.blocks.length bc)) ho4 (fun g hg=>Below.heap_setCell _ _ _ _ (fun e=>by
  have h1:=(ho4.lt g hg).1
  have h2:g=w.heap.size:=e
  omega))))
 have HBR:=hide ((own_keepC (w':=w5.setCell ⟨w.heap.size,3,none⟩ (.slice ba p.blocks.length bc)) hob (fun g hg=>Below.heap_setCell _ _ _ _ (fun e=>by
  have h1:=(hob.lt g hg).1
  have h2:g=w.heap.size:=e
  omega))))
 have HB5:=hide (bset (o:=3) (btrans HB3.out hb5) (Nat.le_refl _) (.slice ba p.blocks.length bc))
 clear hob hg5 hb5 HX3 HY3 HB3 HOV ho4 hs3 h2s x3
 go_wp2
 generalize w5.setCell ⟨w.heap.size,3,none⟩ (.slice ba p.blocks.length bc)=w6 at *
 have X4:=hide (HX5.out.c 4 _ rfl)
 go_loopw [5,6] (fun v5 iv wr=> ∃ k:Nat,k≤p.ins.length∧iv= .int .i64 k∧ ∃ a5 c5,v5= .slice a5 k c5∧Hid (Below w6.heap.size w6 wr∧ROc 47 11 IX w6.heap.size wr (.slice a5 k c5) (p.ins.take k))) (fun _ iv _=>p.ins.length - (intOf iv).toNat)
 case atStart=>exact ⟨0,Nat.zero_le _,rfl,none,0,rfl,hide ⟨Below.refl _ _,ROc.nil _ _ _ _ _⟩⟩
 case round=>
  obtain ⟨k,hk,rfl,a5,c5,rfl,HI⟩:=hrel
  have x4:=bsome HI.out.1 X4.out
  by_cases hlt:k<p.ins.length
  ·obtain ⟨x,hx⟩: ∃ x,p.ins[k]? =some x:=⟨_,List.getElem?_eq_getElem hlt⟩
   have hel:x.e.length≤1000000:=(hI x (List.mem_of_getElem? hx)).2.1
   have hgl:x.args.length≤1000000:=(hI x (List.mem_of_getElem? hx)).2.2.1
   have HGG:=hide (hI x (List.mem_of_getElem? hx)).2.2.2
   obtain ⟨ia,ic,e4,hin⟩:=(HP0.out.keep (btrans HB5.out HI.out.1)).ins
   obtain ⟨rfl,rfl⟩:qi=ia∧qe=ic:=by simpa using e4
   obtain ⟨g,o,rfl,hin2⟩:=hin (List.ne_nil_of_mem (List.mem_of_getElem? hx))
   obtain ⟨ae,ce,aa,ca,hic⟩:=hin2 k x hx
   obtain ⟨y0,y1,y2,y3,y4,y5,y6,y7,y8,y9,y10,hee,haa⟩:=hic
   have hba:=(Below.refl wr.heap.size wr).alloc (Nat.le_refl _) (.cells (icl x ae ce aa ca) 47)
   have HA0:=hide haa
   have HBX:=hide (BXc.new wr (icl x ae ce aa ca) 47)
   have HEE:=hide (hee.keep hba)
   have HAA:=hide (haa.keep hba)
   have HB1:=hide hba
   have HBR6:=hide HI.out.1
   have HRO:=hide HI.out.2
   have HXX:=hide hx
   have u6:=HBX.out.c 6 _ rfl
   have f6:=HBX.out.z 6
   clear e4 hin hin2 hee haa hba HI hx
   obtain ⟨op,xa,xb,xn,xto,xt,xe,xg,xbk,xlp,xat⟩:=x
   dsimp only at *
   unfold icl at *
   go_wp2_with (at_builtin;refine wpList_app rfl _ _ 44 rfl _ 139 iP (.agg #[.int .i64 0,.int .i64 0]) 2 16 Tryz.underlying44 hP hP0 hP1 hP2 rfl (by decide) (.slice none 0 0) 0 [] rfl (World.ownsRow_nil _ _ _ _) _ _ _ (xe.flatMap Cd.ecl) rfl (elenC _) ?e1 (eoneC _) ?e2 ?e3 (Nat.le_refl _) ?_)
   case e1=>exact er_newsC HEE.out
   case e2=>unfold maxLen;omega
   case e3=>omega
   generalize wr.alloc _=wa at *
   intro ea ec w7 hoe hg7 _
   have hb7:Below wa.heap.size wa w7:=grown_below hg7
   have HBX7:=hide ((HBX.out.keep hb7).set (j:=6) rfl (.slice ea xe.length ec))
   have u6:=(HBX.out.keep hb7).c 6 _ rfl
   have f6:=(HBX.out.keep hb7).z 6
   have hbl:=HBX.out.l
   have hoe8:=own_keepC (w':=w7.setCell ⟨wr.heap.size,6,none⟩ (.slice ea xe.length ec)) hoe (fun g hg=>Below.heap_setCell _ _ _ _ (fun e=>by
    have h1:=(hoe.lt g hg).1
    have h2:g=wr.heap.size:=e
    omega))
   have HER:=hide (And.intro (own_erC hoe8) (fun j (hj:(Value.slice ea xe.length ec).ownBlock=some j)=>And.intro (show wr.heap.size<j by have:=(hoe8.lt j hj).1;omega) (hoe8.lt j hj).2))
   have HW8:=hide (bset (o:=6) (btrans HB1.out hb7) (Nat.le_refl _) (.slice ea xe.length ec))
   have HAA8:Hid (AgR (w7.setCell ⟨wr.heap.size,6,none⟩ (.slice ea xe.length ec)) (.slice aa xg.length ca) xg):=hide (HA0.out.keep HW8.out)
   clear hoe hg7 hb7 HBX hoe8 HEE HAA HB1 hbl
   go_wp2
   generalize w7.setCell ⟨wr.heap.size,6,none⟩ (.slice ea xe.length ec)=w8 at *
   have U7:=hide (HBX7.out.c 7 _ rfl)
   obtain ⟨ga',ca',e7,HAR⟩:=HAA8.out
   obtain ⟨rfl,rfl⟩:aa=ga'∧ca=ca':=by simpa using e7
   have HAR:=hide HAR
   clear e7
   generalize hwr:wr=wb at *
   clear hwr
   go_loopw [9,10] (fun v9 iv ws=> ∃ j:Nat,j≤xg.length∧iv= .int .i64 j∧ ∃ a9 c9,v9= .slice a9 j c9∧Hid (Below w8.heap.size w8 ws∧ROc 73 2 AX w8.heap.size ws (.slice a9 j c9) (xg.take j))) (fun _ iv _=>xg.length - (intOf iv).toNat)
   case atStart=>exact ⟨0,Nat.zero_le _,rfl,none,0,rfl,hide ⟨Below.refl _ _,ROc.nil _ _ _ _ _⟩⟩
   case round=>
    obtain ⟨j,hj,rfl,a9,c9,rfl,HI⟩:=hrel
    have u7:=bsome HI.out.1 U7.out
    by_cases hlj:j<xg.length
    ·obtain ⟨⟨ys,yv⟩,hy⟩: ∃ y,xg[j]? =some y:=⟨_,List.getElem?_eq_getElem hlj⟩
     obtain ⟨ga,oa,rfl,har⟩:=HAR.out (List.ne_nil_of_mem (List.mem_of_getElem? hy))
     obtain ⟨⟨ye,yc,Y0,hye⟩,Y1⟩:=har j _ hy
     dsimp only at *
     have hyl:ys.length≤1000000:=HGG.out _ (List.mem_of_getElem? hy)
     have y0:=bsome HI.out.1 Y0
     have y1:=bsome HI.out.1 Y1
     have Y0:=hide Y0
     have Y1:=hide Y1
     have HDR:Hid (Below wr.heap.size wr wr.drew):=hide (below_drewN (Below.refl _ _) 1)
     have HYD:Hid (ER wr.drew (.slice ye ys.length yc) ys):=hide ((hye.keep HI.out.1).keep HDR.out)
     have H63:Hid (0+ys.length≤maxLen):=hide (by unfold maxLen;omega)
     have HBY:Hid ((0+ys.length) * 16≤140737488355328):=hide (by omega)
     have HSZ:Hid (wr.heap.size≤wr.drew.heap.size):=hide HDR.out.size
     have H64:Hid (j+1≤maxLen):=hide (by unfold maxLen;omega)
     have HBZ:Hid ((j+1) * 32≤140737488355328):=hide (by omega)
     have hjl:(xg.take j).length=j:=by rw [List.length_take];omega
     have HJL:=hide hjl
     have htk:xg.take (j+1)=xg.take j++[(ys,yv)]:=by
      rw [←List.take_append_getElem hlj]
      rw [List.getElem?_eq_getElem hlj,Option.some.injEq] at hy
      rw [hy]
     have HTK:=hide htk
     have h8:=HI.out.1.size
     have HPRE:Hid (∀ (ze:Option Addr) (zc:Nat) (w10:World),w10.ownsRow wr.heap.size 139 2 (.slice ze (0+ys.length) zc) (0+ys.length) ([]++ys.flatMap Cd.ecl)→Below wr.heap.size wr w10→ROc 73 2 AX w8.heap.size (w10.alloc (.cells #[.slice ze ys.length zc,.int .i64 yv] 73)) (.slice a9 j c9) (xg.take j)∧(w8.heap.size≤(w10.alloc (.cells #[.slice ze ys.length zc,.int .i64 yv] 73)).heap.size∧AX (w10.alloc (.cells #[.slice ze ys.length zc,.int .i64 yv] 73)) (fun i=>w8.heap.size≤i∧i<(w10.alloc (.cells #[.slice ze ys.length zc,.int .i64 yv] 73)).heap.size∧(Value.slice a9 j c9).ownBlock ≠ some i) (ys,yv) [.slice ze ys.length zc,.int .i64 yv])∧((w10.alloc (.cells #[.slice ze ys.length zc,.int .i64 yv] 73)).cell? ⟨w10.heap.size,0,none⟩=some (.slice ze ys.length zc)∧(w10.alloc (.cells #[.slice ze ys.length zc,.int .i64 yv] 73)).cell? ⟨w10.heap.size,1,none⟩=some (.int .i64 yv))):=hide (fun ze zc w10 ho hb=>by
      rw [Nat.zero_add,List.nil_append] at ho
      have hba:=(Below.refl w10.heap.size w10).alloc (Nat.le_refl _) (.cells #[.slice ze ys.length zc,.int .i64 yv] 73)
      have hbs:=hb.size
      have hbz:=hba.size
      have ho2:=own_keepC (w':=w10.alloc (.cells #[.slice ze ys.length zc,.int .i64 yv] 73)) ho (fun g hg=>hba.block g (ho.lt g hg).2)
      refine ⟨ROc.keep (D:=AX) AX.up HI.out.2 (Kx.of_below (btrans hb hba)),⟨by omega,ze,zc,rfl,own_erC ho2,fun i hi=>⟨?_,(ho2.lt i hi).2,fun e=> ?_⟩⟩,agg_two _ _ _ _⟩
      ·have:=(ho2.lt i hi).1
       omega
      ·obtain ⟨iv,h1,h2,h3⟩:=HI.out.2.ex
       have a1:=(h2.lt i e).2
       have a2:=(ho2.lt i hi).1
       omega)
     have HFIN:Hid (∀ (w12:World) (ze:Option Addr) (zc:Nat) (w10:World),Below wr.heap.size wr w10→ ∀ iv:List (List Value),iv.length=(xg.take j).length→(∀ (k:Nat) x,(xg.take j)[k]? =some x→ ∃ cs,iv[k]? =some cs∧AX (w10.alloc (.cells #[.slice ze ys.length zc,.int .i64 yv] 73)) (fun i=>w8.heap.size≤i∧i<(w10.alloc (.cells #[.slice ze ys.length zc,.int .i64 yv] 73)).heap.size∧(Value.slice a9 j c9).ownBlock ≠ some i) x cs)→AX (w10.alloc (.cells #[.slice ze ys.length zc,.int .i64 yv] 73)) (fun i=>w8.heap.size≤i∧i<(w10.alloc (.cells #[.slice ze ys.length zc,.int .i64 yv] 73)).heap.size∧(Value.slice a9 j c9).ownBlock ≠ some i) (ys,yv) [.slice ze ys.length zc,.int .i64 yv]→ ∀ (a9':Option Addr) (c9':Nat),w12.ownsRow w8.heap.size 73 2 (.slice a9' (j+1) c9') (j+1) (iv.flatten++[.slice ze ys.length zc,.int .i64 yv])→(w10.alloc (.cells #[.slice ze ys.length zc,.int .i64 yv] 73)).grownBy w12 (Value.slice a9 j c9).ownBlock→((Value.slice a9' (j+1) c9').ownBlock=(Value.slice a9 j c9).ownBlock∨(Value.slice a9' (j+1) c9').ownBlock=some (w10.alloc (.cells #[.slice ze ys.length zc,.int .i64 yv] 73)).heap.size)→Below w8.heap.size w8 w12∧ROc 73 2 AX w8.heap.size w12 (.slice a9' (j+1) c9') (xg.take (j+1))):=hide (fun w12 ze zc w10 hb iv i1 i3 hx a9' c9' ho hg hv=>by
      have hba:=(Below.refl w10.heap.size w10).alloc (Nat.le_refl _) (.cells #[.slice ze ys.length zc,.int .i64 yv] 73)
      refine ⟨?_,?_⟩
      ·have hk:Kx (fun i=>i<w8.heap.size) w8 w12:=(Kx.of_below (btrans HI.out.1 (btrans hb hba))).trans ⟨hg.os,hg.tape,hg.output,hg.size,fun i hi hX=>hg.block i hi (fun e=>by
        obtain ⟨iv2,h1,h2,h3⟩:=HI.out.2.ex
        have:=(h2.lt i e.symm).1
        omega)⟩
       exact hk.below_of (fun i hi=>hi)
      ·rw [htk]
       refine ROc.push2 (D:=AX) AX.up i1 i3 hx ?_ hg hv
       rw [hjl]
       exact ho)
     clear hy har hye HI hjl htk h8
     go_wp2
     go_region_held_law (fun w'=>w'.cell? ⟨wb.heap.size,7,none⟩=some (.slice (some ⟨ga,oa,none⟩) xg.length ca)∧w'.cell? ⟨ga,oa+j * 2,none⟩=some (.slice ye ys.length yc)∧w'.cell? ⟨ga,oa+j * 2+1,none⟩=some (.int .i64 yv)) (first|exact ⟨by assumption,by assumption,by assumption⟩|go_keep) ((first|(refine step_app rfl (.tmp 47) (.tmp 53) 44 rfl wr.heap.size 139 iP (.agg #[.int .i64 0,.int .i64 0]) 2 16 Tryz.underlying44 hP hP0 hP1 hP2 rfl (by decide) (.slice none 0 0) 0 [] rfl (World.ownsRow_nil _ _ _ _) _ _ _ (ys.flatMap Cd.ecl) rfl (elenC _) (er_newsC HYD.out) (eoneC _) H63.out HBY.out HSZ.out ?_;intro ze zc w10 hoe hg10 hvv;have hb10:=grown_below hg10;have kc:=btrans HDR.out hb10;have r1:=bsome kc u7;have r2:=bsome kc y0;have r3:=bsome kc y1;have HPR:=hide (HPRE.out ze zc w10 hoe kc);have KC:=hide kc;clear hoe hg10 hvv hb10 kc;obtain ⟨iv,hi1,hi2,hi3⟩:=HPR.out.1.ex;have HI1:=hide hi1;have HI2:=hide hi2;have HI3:=hide hi3;clear hi1 hi2 hi3)|(refine step_app rfl (.tmp 46) (.tmp 62) 45 rfl w8.heap.size 73 iA (.agg #[.slice none 0 0,.int .i64 0]) 2 32 Tryz.underlying45 hAr hA0 hA1 hA2 rfl (by decide) (.slice a9 j c9) j iv.flatten rfl (by have h:=HI2.out;rw [HJL.out] at h;exact h) _ _ _ [.slice ze ys.length zc,.int .i64 yv] rfl rfl (fun _=>⟨_,rfl,list_two HPR.out.2.2⟩) (fun u hu=>by simp at hu;rcases hu with rfl|rfl<;> rfl) H64.out HBZ.out HPR.out.2.1.1 ?_;intro a9' c9' w12 hown hg12 hv12;have kd:=HFIN.out w12 ze zc w10 KC.out iv HI1.out HI3.out HPR.out.2.1.2 a9' c9' hown hg12 hv12;have hk12:=kd.1;have r4:=bsome hk12 U7.out;have r5:=bsome hk12 Y0.out;have r6:=bsome hk12 Y1.out;have HF12:=hide kd;clear hown hg12 hv12 kd hk12)))
     go_wp2
     go_roundw
     case rel=>exact ⟨j+1,by omega,by go_num,_,_,rfl,hide HF12.out⟩
     case measure=>simp [intOf];omega
    ·obtain rfl:j=xg.length:=by omega
     have hfa:AGn wr (fun i=>w8.heap.size≤i∧i<wr.heap.size) (.slice a9 xg.length c9) xg:=by
      have:=HI.out.2
      rw [List.take_length] at this
      exact this.agn
     have HFA:=hide hfa
     have HBX9:=hide ((HBX7.out.keep HI.out.1).set (j:=7) rfl (.slice a9 xg.length c9))
     have HIa:=hide HI.out.1
     have f7:=(HBX7.out.keep HI.out.1).z 7
     have HW9:=hide (bset (o:=7) (btrans HW8.out HI.out.1) (Nat.le_refl _) (.slice a9 xg.length c9))
     have hw8:wb.heap.size<w8.heap.size:=HBX7.out.l
     have hk9:Kx (fun i=>i ≠ wb.heap.size) wr (wr.setCell ⟨wb.heap.size,7,none⟩ (.slice a9 xg.length c9)):=(Kx.refl _ _).set (p:=⟨wb.heap.size,7,none⟩) (.inr (fun e=>e rfl)) _
     have hsz9:(wr.setCell ⟨wb.heap.size,7,none⟩ (.slice a9 xg.length c9)).heap.size=wr.heap.size:=by simp [World.setCell]
     have hix:IX (wr.setCell ⟨wb.heap.size,7,none⟩ (.slice a9 xg.length c9)) (fun i=>wb.heap.size≤i∧i<wr.heap.size) ⟨op,xa,xb,xn,xto,xt,xe,xg,xbk,xlp,xat⟩ [.int .i64 op,.int .i64 xa,.int .i64 xb,.int .i64 xn,.int .i64 xto,.string xt,.slice ea xe.length ec,.slice a9 xg.length c9,.int .i64 xbk,.int .i64 xlp,.int .i64 xat]:=by
      refine ⟨ea,ec,a9,c9,rfl,?_,?_⟩
      ·refine ⟨(HER.out.1.keep HI.out.1).keepX hk9 (fun i hi=> ?_),fun i hi=> ?_⟩
       ·have:=(HER.out.2 i hi).1
        omega
       ·have h1:=HER.out.2 i hi
        have h2:=HI.out.1.size
        exact ⟨by omega,by omega⟩
      ·exact hfa.up (hk9.mono (fun i _ hi=>by omega)) (fun i hi=>⟨by omega,hi.2⟩)
     have n0:=(HBX7.out.keep HI.out.1).c 0 _ rfl
     have n1:=(HBX7.out.keep HI.out.1).c 1 _ rfl
     have n2:=(HBX7.out.keep HI.out.1).c 2 _ rfl
     have n3:=(HBX7.out.keep HI.out.1).c 3 _ rfl
     have n4:=(HBX7.out.keep HI.out.1).c 4 _ rfl
     have n5:=(HBX7.out.keep HI.out.1).c 5 _ rfl
     have n6:=(HBX7.out.keep HI.out.1).c 6 _ rfl
     have n7:=(HBX7.out.keep HI.out.1).c 7 _ rfl
     have n8:=(HBX7.out.keep HI.out.1).c 8 _ rfl
     have n9:=(HBX7.out.keep HI.out.1).c 9 _ rfl
     have n10:=(HBX7.out.keep HI.out.1).c 10 _ rfl
     have hal:=(Below.refl (wr.setCell ⟨wb.heap.size,7,none⟩ (.slice a9 xg.length c9)).heap.size (wr.setCell ⟨wb.heap.size,7,none⟩ (.slice a9 xg.length c9))).alloc (Nat.le_refl _) (.cells #[.int .i64 op,.int .i64 xa,.int .i64 xb,.int .i64 xn,.int .i64 xto,.string xt,.slice ea xe.length ec,.slice a9 xg.length c9,.int .i64 xbk,.int .i64 xlp,.int .i64 xat] 47)
     have hWA:=btrans HW9.out hal
     have hszA:((wr.setCell ⟨wb.heap.size,7,none⟩ (.slice a9 xg.length c9)).alloc (.cells #[.int .i64 op,.int .i64 xa,.int .i64 xb,.int .i64 xn,.int .i64 xto,.string xt,.slice ea xe.length ec,.slice a9 xg.length c9,.int .i64 xbk,.int .i64 xlp,.int .i64 xat] 47)).heap.size=wr.heap.size+1:=by simp [World.setCell]
     have HNC:Hid (∀ j u,([.int .i64 op,.int .i64 xa,.int .i64 xb,.int .i64 xn,.int .i64 xto,.string xt,.slice ea xe.length ec,.slice a9 xg.length c9,.int .i64 xbk,.int .i64 xlp,.int .i64 xat]:List Value)[j]? =some u→((wr.setCell ⟨wb.heap.size,7,none⟩ (.slice a9 xg.length c9)).alloc (.cells #[.int .i64 op,.int .i64 xa,.int .i64 xb,.int .i64 xn,.int .i64 xto,.string xt,.slice ea xe.length ec,.slice a9 xg.length c9,.int .i64 xbk,.int .i64 xlp,.int .i64 xat] 47)).cell? ((⟨wr.heap.size,0,none⟩:Addr).add j)=some u):=hide (fun j u hu=>by
      rw [add_off,←hsz9]
      exact (BXc.new (wr.setCell ⟨wb.heap.size,7,none⟩ (.slice a9 xg.length c9)) #[.int .i64 op,.int .i64 xa,.int .i64 xb,.int .i64 xn,.int .i64 xto,.string xt,.slice ea xe.length ec,.slice a9 xg.length c9,.int .i64 xbk,.int .i64 xlp,.int .i64 xat] 47).c j u hu)
     obtain ⟨iv,j1,j2,j3⟩:=(ROc.keep (D:=IX) IX.up HRO.out (Kx.of_below hWA)).ex
     have hkl:(p.ins.take k).length=k:=by rw [List.length_take];omega
     rw [hkl] at j2
     have HJ2:=hide j2
     have htk:p.ins.take (k+1)=p.ins.take k++[⟨op,xa,xb,xn,xto,xt,xe,xg,xbk,xlp,xat⟩]:=by
      have hx:=HXX.out
      rw [←List.take_append_getElem hlt]
      rw [List.getElem?_eq_getElem hlt,Option.some.injEq] at hx
      rw [hx]
     have hbi6:w6.heap.size≤wb.heap.size:=HBR6.out.size
     have hrs: ∀ i,(Value.slice a5 k c5).ownBlock=some i→i<wb.heap.size∧w6.heap.size≤i:=fun i hi=>by
      obtain ⟨iv2,q1,q2,q3⟩:=HRO.out.ex
      exact ⟨(q2.lt i hi).2,(q2.lt i hi).1⟩
     have hixA:=hix.up (w':=((wr.setCell ⟨wb.heap.size,7,none⟩ (.slice a9 xg.length c9)).alloc (.cells #[.int .i64 op,.int .i64 xa,.int .i64 xb,.int .i64 xn,.int .i64 xto,.string xt,.slice ea xe.length ec,.slice a9 xg.length c9,.int .i64 xbk,.int .i64 xlp,.int .i64 xat] 47))) (N':=fun i=>w6.heap.size≤i∧i<((wr.setCell ⟨wb.heap.size,7,none⟩ (.slice a9 xg.length c9)).alloc (.cells #[.int .i64 op,.int .i64 xa,.int .i64 xb,.int .i64 xn,.int .i64 xto,.string xt,.slice ea xe.length ec,.slice a9 xg.length c9,.int .i64 xbk,.int .i64 xlp,.int .i64 xat] 47)).heap.size∧(Value.slice a5 k c5).ownBlock ≠ some i) (Kx.of_below hal) (fun i hi=>⟨by omega,by rw [hszA];omega,fun e=>by have:=(hrs i e).1;omega⟩)
     have HFN:Hid (∀ (a5':Option Addr) (c5':Nat) (w13:World),w13.ownsRow w6.heap.size 47 11 (.slice a5' (k+1) c5') (k+1) (iv.flatten++[.int .i64 op,.int .i64 xa,.int .i64 xb,.int .i64 xn,.int .i64 xto,.string xt,.slice ea xe.length ec,.slice a9 xg.length c9,.int .i64 xbk,.int .i64 xlp,.int .i64 xat])→((wr.setCell ⟨wb.heap.size,7,none⟩ (.slice a9 xg.length c9)).alloc (.cells #[.int .i64 op,.int .i64 xa,.int .i64 xb,.int .i64 xn,.int .i64 xto,.string xt,.slice ea xe.length ec,.slice a9 xg.length c9,.int .i64 xbk,.int .i64 xlp,.int .i64 xat] 47)).grownBy w13 (Value.slice a5 k c5).ownBlock→((Value.slice a5' (k+1) c5').ownBlock=(Value.slice a5 k c5).ownBlock∨(Value.slice a5' (k+1) c5').ownBlock=some ((wr.setCell ⟨wb.heap.size,7,none⟩ (.slice a9 xg.length c9)).alloc (.cells #[.int .i64 op,.int .i64 xa,.int .i64 xb,.int .i64 xn,.int .i64 xto,.string xt,.slice ea xe.length ec,.slice a9 xg.length c9,.int .i64 xbk,.int .i64 xlp,.int .i64 xat] 47)).heap.size)→Below w6.heap.size w6 w13∧ROc 47 11 IX w6.heap.size w13 (.slice a5' (k+1) c5') (p.ins.take (k+1))):=hide (fun a5' c5' w13 ho hg hv=>by
      refine ⟨?_,?_⟩
      ·have hk:Kx (fun i=>i<w6.heap.size) w6 w13:=((Kx.of_below (X:=fun i=>i<w6.heap.size) HBR6.out).trans (Kx.of_below (X:=fun i=>i<w6.heap.size) hWA)).trans ⟨hg.os,hg.tape,hg.output,hg.size,fun i hi hX=>hg.block i hi (fun e=>by
        have:=(hrs i e.symm).2
        omega)⟩
       exact hk.below_of (fun i hi=>hi)
      ·rw [htk]
       refine ROc.push2 (D:=IX) IX.up j1 j3 hixA ?_ hg hv
       rw [hkl]
       exact ho)
     have HSA:Hid (w6.heap.size≤((wr.setCell ⟨wb.heap.size,7,none⟩ (.slice a9 xg.length c9)).alloc (.cells #[.int .i64 op,.int .i64 xa,.int .i64 xb,.int .i64 xn,.int .i64 xto,.string xt,.slice ea xe.length ec,.slice a9 xg.length c9,.int .i64 xbk,.int .i64 xlp,.int .i64 xat] 47)).heap.size):=hide (by rw [hszA];have:=HIa.out.size;omega)
     clear hfa hix HI HFA hal hWA j1 j2 j3 hixA hk9
     go_wp2_with (at_builtin;refine wpList_app rfl _ _ 41 rfl w6.heap.size 47 iI (.agg #[.int .i64 0,.int .i64 0,.int .i64 0,.int .i64 0,.int .i64 0,.string ⟨#[]⟩,.slice none 0 0,.slice none 0 0,.int .i64 0,.int .i64 0,.int .i64 0]) 11 128 Tryz.underlying41 hIn hI0 hI1 hI2 rfl (by decide) (.slice a5 k c5) k iv.flatten rfl (by exact HJ2.out) _ _ _ [.int .i64 op,.int .i64 xa,.int .i64 xb,.int .i64 xn,.int .i64 xto,.string xt,.slice ea xe.length ec,.slice a9 xg.length c9,.int .i64 xbk,.int .i64 xlp,.int .i64 xat] rfl rfl (fun _=>⟨_,rfl,HNC.out⟩) (fun u hu=>by simp at hu;rcases hu with rfl|rfl|rfl|rfl|rfl|rfl|rfl|rfl|rfl|rfl|rfl<;> rfl) ?g1 ?g2 (by exact HSA.out) ?_)
     case g1=>unfold maxLen;omega
     case g2=>omega
     intro a5' c5' w13 hown hg13 hv13
     have HF13:=hide (HFN.out a5' c5' w13 hown hg13 (by rw [hszA];exact hv13))
     clear hown hg13 hv13
     go_wp2
     refine ⟨⟨k+1,by omega,by go_num,_,_,rfl,HF13⟩,?_⟩
     simp [intOf];omega
  ·obtain rfl:k=p.ins.length:=by omega
   have hro:=HI.out.2
   rw [List.take_length] at hro
   have hbx:=HX5.out.keep HI.out.1
   have hby:=HY5.out.keep HI.out.1
   have f4:=hbx.z 4
   have n0:=hbx.c 0 _ rfl
   have n1:=hbx.c 1 _ rfl
   have n2:=hbx.c 2 _ rfl
   have n3:=hbx.c 3 _ rfl
   have n4:=hbx.c 4 _ rfl
   have o0:=hby.c 0 _ rfl
   have o1:=hby.c 1 _ rfl
   have o2:=hby.c 2 _ rfl
   have o3:=hby.c 3 _ rfl
   have o4:=hby.c 4 _ rfl
   have g0:=hby.z 0
   have g1:=hby.z 1
   have g2:=hby.z 2
   have g3:=hby.z 3
   have g4:=hby.z 4
   have hl6:w.heap.size+1<w6.heap.size:=HY5.out.l
   have HPCF:Hid (∀ W:World,Kx (fun j=>j ≠ w.heap.size∧j ≠ w.heap.size+1) wr W→PCx W (fun j=>w.heap.size≤j∧j<W.heap.size) ⟨va,vc,ba,bc,a5,c5⟩ p):=hide (fun W hk=>by
    have v1:=own_keepC (w':=wr) HVR.out (fun g hg=>HI.out.1.block g (HVR.out.lt g hg).2)
    have b1:=own_keepC (w':=wr) HBR.out (fun g hg=>HI.out.1.block g (HBR.out.lt g hg).2)
    have v2:=own_keepC (w':=W) v1 (fun g hg=>hk.block g (v1.lt g hg).2 (by
     have:=(v1.lt g hg).1
     omega))
    have b2:=own_keepC (w':=W) b1 (fun g hg=>hk.block g (b1.lt g hg).2 (by
     have:=(b1.lt g hg).1
     omega))
    have r2:=(ROc.keep (D:=IX) IX.up hro (hk.mono (fun i _ hi=>by omega))).insx (N:=fun j=>w.heap.size≤j∧j<W.heap.size) (fun j h1 h2=>⟨by omega,h2⟩)
    refine ⟨own_varC v2,fun j hj=> ?_,own_blkC b2,fun j hj=> ?_,r2.1,r2.2⟩
    ·have:=v2.lt j (by rw [ob_own];exact hj)
     exact ⟨by omega,this.2⟩
    ·have:=b2.lt j (by rw [ob_own];exact hj)
     exact ⟨by omega,this.2⟩)
   have HBF:=hide (btrans HB5.out HI.out.1)
   clear hbx hby HI
   have HKF:Hid (∀ (u4 r0 r1 r2 r3 r4:Value),Kx (fun j=>j ≠ w.heap.size∧j ≠ w.heap.size+1) wr ((((((wr.setCell ⟨w.heap.size,4,none⟩ u4).setCell ⟨w.heap.size+1,0,none⟩ r0).setCell ⟨w.heap.size+1,1,none⟩ r1).setCell ⟨w.heap.size+1,2,none⟩ r2).setCell ⟨w.heap.size+1,3,none⟩ r3).setCell ⟨w.heap.size+1,4,none⟩ r4)):=hide (fun u4 r0 r1 r2 r3 r4=>((((((Kx.refl _ _).set (p:=⟨w.heap.size,4,none⟩) (.inr (fun e=>e.1 rfl)) u4).set (p:=⟨w.heap.size+1,0,none⟩) (.inr (fun e=>e.2 rfl)) r0).set (p:=⟨w.heap.size+1,1,none⟩) (.inr (fun e=>e.2 rfl)) r1).set (p:=⟨w.heap.size+1,2,none⟩) (.inr (fun e=>e.2 rfl)) r2).set (p:=⟨w.heap.size+1,3,none⟩) (.inr (fun e=>e.2 rfl)) r3).set (p:=⟨w.heap.size+1,4,none⟩) (.inr (fun e=>e.2 rfl)) r4)
   clear hro
   go_wp2
   refine bodyPost_ret (v:= .agg #[.string p.name,.slice va p.vars.length vc,.int .i64 p.params,.slice ba p.blocks.length bc,.slice a5 p.ins.length c5]) (by simp [results,Tryz.results14,go_sem,o0,o1,o2,o3,o4]) rfl ⟨⟨va,vc,ba,bc,a5,c5⟩,rfl,HPCF.out _ (HKF.out _ _ _ _ _ _),bset (bset (bset (bset (bset (bset HBF.out (Nat.le_refl _) _) (Nat.le_succ _) _) (Nat.le_succ _) _) (Nat.le_succ _) _) (Nat.le_succ _) _) (Nat.le_succ _) _⟩
theorem Tryz.ckPr:(Tryz.prog.info? 43).map (fun i=>(i.zero,i.size,i.bytes))=some (some (.agg #[.string ⟨#[]⟩,.slice none 0 0,.int .i64 0,.slice none 0 0,.slice none 0 0]),5,96):=by kernel_rfl
def PX (w:World) (N:Nat→Prop) (p:Cd.Pr) (cs:List Value):Prop:= ∃ q:PV,cs=q.cl p∧PCx w N q p
theorem PX.up {w w':World} {N N':Nat→Prop} {p:Cd.Pr} {cs:List Value} (h:PX w N p cs) (hk:Kx N w w') (hN: ∀ j,N j→N' j):PX w' N' p cs:=by
 obtain ⟨q,h1,h2⟩:=h
 exact ⟨q,h1,h2.up hk hN⟩
theorem PX.len {w:World} {N:Nat→Prop} {p:Cd.Pr} {cs:List Value} (h:PX w N p cs):cs.length=5:=by
 obtain ⟨q,h1,-⟩:=h
 rw [h1]
 rfl
theorem ROc.coR {B:Nat} {w:World} {v:Value} {l:List Cd.Pr} (h:ROc 43 5 PX B w v l):CoR w v l:=by
 obtain ⟨a,c,rfl⟩:=h.form
 refine ⟨a,c,rfl,fun hl=> ?_⟩
 obtain ⟨g,c',hv,hB,hg,h4⟩:=h.read PX.len hl
 obtain ⟨rfl,rfl⟩:a=some ⟨g,0,none⟩∧c=c':=by simpa using hv
 refine ⟨g,0,rfl,fun k x hx=> ?_⟩
 obtain ⟨cs,h5,q,rfl,h6⟩:=h4 k x hx
 exact ⟨q,h5,h6.pc⟩
theorem ROc.cap {α:Type} {t z:Nat} {D:World→(Nat→Prop)→α→List Value→Prop} {B:Nat} {w:World} {a:Option Addr} {n c:Nat} {l:List α} (h:ROc t z D B w (.slice a n c) l):l.length≤c:=by
 obtain ⟨iv,h1,h2,h3⟩:=h.ex
 rcases h2.2 with ⟨hv,h0⟩|⟨g,cap,cur,hv,-,-,hc,-⟩
 ·omega
 ·obtain ⟨-,-,rfl⟩:a=_∧n=_∧c=cap:=by simpa using hv
  exact hc
structure CW (w1:World) (b:Nat) (m:Int) (l:List Cd.Pr) (k:Nat) (ap:Option Addr) (cp:Nat) (w:World):Prop where
 bx:BXc b w [.slice ap k cp,.int .i64 m]
 kx:Kx (fun j=>j<w1.heap.size∧j ≠ b) w1 w
 ro:ROc 43 5 PX w1.heap.size w (.slice ap k cp) (l.take k)
set_option maxRecDepth 100000 in
set_option maxHeartbeats 8000000 in
theorem rCopyCode_any (l:List Cd.Pr) (m:Int) (ua:Option Addr) (uc:Nat) (w:World) (hu:CoR w (.slice ua l.length uc) l) (hO:CoOK l) (hl:l.length≤1000000):
  Calls Tryz.prog 7 #[.agg #[.slice ua l.length uc,.int .i64 m]] w fun e w'=> ∃ ap cp,e= .returned (.agg #[.slice ap l.length cp,.int .i64 m])∧CoR w' (.slice ap l.length cp) l∧l.length≤cp∧Below w.heap.size w w':=by
 obtain ⟨iR,hR,hR0,hR1,hR2⟩:=info_parts Tryz.ckPr
 have hb3:=b_three w (.cells #[.slice ua l.length uc,.int .i64 m] 24) (.cells #[.slice none 0 0,.int .i64 0] 24) (.cells #[.slice none 0 0,.int .i64 m] 24)
 have hx1:=((BXc.new w #[.slice ua l.length uc,.int .i64 m] 24).keep ((Below.refl _ _).alloc (Nat.le_refl _) (.cells #[.slice none 0 0,.int .i64 0] 24))).keep ((Below.refl _ _).alloc (Nat.le_refl _) (.cells #[.slice none 0 0,.int .i64 m] 24))
 have hx2:=(BXc.new (w.alloc (.cells #[.slice ua l.length uc,.int .i64 m] 24)) #[.slice none 0 0,.int .i64 0] 24).keep ((Below.refl _ _).alloc (Nat.le_refl _) (.cells #[.slice none 0 0,.int .i64 m] 24))
 have hx3:=BXc.new ((w.alloc (.cells #[.slice ua l.length uc,.int .i64 m] 24)).alloc (.cells #[.slice none 0 0,.int .i64 0] 24)) #[.slice none 0 0,.int .i64 m] 24
 rw [show (w.alloc (.cells #[.slice ua l.length uc,.int .i64 m] 24)).heap.size=w.heap.size+1 by simp] at hx2
 rw [show ((w.alloc (.cells #[.slice ua l.length uc,.int .i64 m] 24)).alloc (.cells #[.slice none 0 0,.int .i64 0] 24)).heap.size=w.heap.size+1+1 by simp] at hx3
 have HB:=hide hb3
 have HX1:=hide hx1
 have HX2:=hide hx2
 have HX3:=hide hx3
 have HU:=hide hu
 have HO:=hide hO
 clear hb3 hx1 hx2 hx3 hu hO
 go_enter Tryz.func7,Tryz.ntmps7
 go_wp2
 generalize World.alloc (World.alloc (World.alloc _ _) _) _=w1 at *
 have X10:=hide (HX1.out.c 0 _ rfl)
 go_loopw [4] (fun iv wr=> ∃ k:Nat,k≤l.length∧iv= .int .i64 k∧ ∃ ap cp,Hid (CW w1 (w.heap.size+1+1) m l k ap cp wr)) (fun iv _=>l.length - (intOf iv).toNat)
 case atStart=>exact ⟨0,Nat.zero_le _,rfl,none,0,hide ⟨HX3.out,Kx.refl _ _,ROc.nil _ _ _ _ _⟩⟩
 case round=>
  obtain ⟨k,hk,rfl,ap,cp,HI⟩:=hrel
  have hl1:w.heap.size<w1.heap.size:=HX1.out.l
  have hl2:w.heap.size+1<w1.heap.size:=HX2.out.l
  have hl3:w.heap.size+1+1<w1.heap.size:=HX3.out.l
  have hbw:Below w.heap.size w wr:=((Kx.of_below (X:=fun j=>j<w.heap.size) HB.out).trans (HI.out.kx.mono (fun j _ hj=>⟨by omega,by omega⟩))).below_of (fun j hj=>hj)
  have hx1:=HX1.out.keepK HI.out.kx ⟨hl1,by omega⟩
  have c0:=hx1.c 0 _ rfl
  have d0:=HI.out.bx.c 0 _ rfl
  by_cases hlt:k<l.length
  ·obtain ⟨p,hx⟩: ∃ p,l[k]? =some p:=⟨_,List.getElem?_eq_getElem hlt⟩
   obtain ⟨ua',uc',e1,hr⟩:=HU.out.keep hbw
   obtain ⟨rfl,rfl⟩:ua=ua'∧uc=uc':=by simpa using e1
   obtain ⟨g,o,rfl,hc⟩:=hr (List.ne_nil_of_mem (List.mem_of_getElem? hx))
   obtain ⟨q,hq,hpc⟩:=hc k p hx
   have y0:wr.cell? ⟨g,o+k * 5,none⟩=some (.string p.name):=hq 0 _ rfl
   have y1:=hq 1 _ rfl
   have y2:=hq 2 _ rfl
   have y3:=hq 3 _ rfl
   have y4:=hq 4 _ rfl
   have HDR:Hid (Below wr.heap.size wr wr.drew):=hide (below_drewN (Below.refl _ _) 1)
   have HOp:=HO.out p (List.mem_of_getElem? hx)
   have CC:=hide (rCopyProc_any q p wr.drew (hpc.keep HDR.out) HOp.1 HOp.2)
   have HJL:Hid ((l.take k).length=k):=hide (by rw [List.length_take];omega)
   have HTK:Hid (l.take (k+1)=l.take k++[p]):=hide (by
    rw [←List.take_append_getElem hlt]
    rw [List.getElem?_eq_getElem hlt,Option.some.injEq] at hx
    rw [hx])
   have H64:Hid (k+1≤maxLen):=hide (by unfold maxLen;omega)
   have HBZ:Hid ((k+1) * 96≤140737488355328):=hide (by omega)
   have hs1:w1.heap.size≤wr.heap.size:=HI.out.kx.size
   have hrs: ∀ i,(Value.slice ap k cp).ownBlock=some i→i<wr.heap.size∧w1.heap.size≤i:=fun i hi=>by
    obtain ⟨iv2,q1,q2,q3⟩:=HI.out.ro.ex
    exact ⟨(q2.lt i hi).2,(q2.lt i hi).1⟩
   have HPRE:Hid (∀ (q':PV) (w10:World),PCx w10 (fun j=>wr.drew.heap.size≤j∧j<w10.heap.size) q' p→Below wr.heap.size wr w10→ROc 43 5 PX w1.heap.size (w10.alloc (.cells #[.string p.name,.slice q'.av p.vars.length q'.cv,.int .i64 p.params,.slice q'.ab p.blocks.length q'.cb,.slice q'.ai p.ins.length q'.ci] 43)) (.slice ap k cp) (l.take k)∧(w1.heap.size≤(w10.alloc (.cells #[.string p.name,.slice q'.av p.vars.length q'.cv,.int .i64 p.params,.slice q'.ab p.blocks.length q'.cb,.slice q'.ai p.ins.length q'.ci] 43)).heap.size∧PX (w10.alloc (.cells #[.string p.name,.slice q'.av p.vars.length q'.cv,.int .i64 p.params,.slice q'.ab p.blocks.length q'.cb,.slice q'.ai p.ins.length q'.ci] 43)) (fun i=>w1.heap.size≤i∧i<(w10.alloc (.cells #[.string p.name,.slice q'.av p.vars.length q'.cv,.int .i64 p.params,.slice q'.ab p.blocks.length q'.cb,.slice q'.ai p.ins.length q'.ci] 43)).heap.size∧(Value.slice ap k cp).ownBlock ≠ some i) p [.string p.name,.slice q'.av p.vars.length q'.cv,.int .i64 p.params,.slice q'.ab p.blocks.length q'.cb,.slice q'.ai p.ins.length q'.ci])∧ ∀ j u,([.string p.name,.slice q'.av p.vars.length q'.cv,.int .i64 p.params,.slice q'.ab p.blocks.length q'.cb,.slice q'.ai p.ins.length q'.ci]:List Value)[j]? =some u→(w10.alloc (.cells #[.string p.name,.slice q'.av p.vars.length q'.cv,.int .i64 p.params,.slice q'.ab p.blocks.length q'.cb,.slice q'.ai p.ins.length q'.ci] 43)).cell? ((⟨w10.heap.size,0,none⟩:Addr).add j)=some u):=hide (fun q' w10 hpx hb=>by
    have hba:=(Below.refl w10.heap.size w10).alloc (Nat.le_refl _) (.cells #[.string p.name,.slice q'.av p.vars.length q'.cv,.int .i64 p.params,.slice q'.ab p.blocks.length q'.cb,.slice q'.ai p.ins.length q'.ci] 43)
    have hbs:=hb.size
    have hbz:=hba.size
    have hdw:wr.drew.heap.size=wr.heap.size:=rfl
    refine ⟨ROc.keep (D:=PX) PX.up HI.out.ro (Kx.of_below (btrans hb hba)),⟨by omega,q',rfl,hpx.up (Kx.of_below hba) (fun i hi=>⟨by omega,by omega,fun e=> ?_⟩)⟩,fun j u hu=> ?_⟩
    ·have:=(hrs i e).1
     omega
    ·rw [add_off]
     exact (BXc.new w10 #[.string p.name,.slice q'.av p.vars.length q'.cv,.int .i64 p.params,.slice q'.ab p.blocks.length q'.cb,.slice q'.ai p.ins.length q'.ci] 43).c j u hu)
   have HFIN:Hid (∀ (w12:World) (q':PV) (w10:World),Below wr.heap.size wr w10→ ∀ iv:List (List Value),iv.length=(l.take k).length→(∀ (j:Nat) x,(l.take k)[j]? =some x→ ∃ cs,iv[j]? =some cs∧PX (w10.alloc (.cells #[.string p.name,.slice q'.av p.vars.length q'.cv,.int .i64 p.params,.slice q'.ab p.blocks.length q'.cb,.slice q'.ai p.ins.length q'.ci] 43)) (fun i=>w1.heap.size≤i∧i<(w10.alloc (.cells #[.string p.name,.slice q'.av p.vars.length q'.cv,.int .i64 p.params,.slice q'.ab p.blocks.length q'.cb,.slice q'.ai p.ins.length q'.ci] 43)).heap.size∧(Value.slice ap k cp).ownBlock ≠ some i) x cs)→PX (w10.alloc (.cells #[.string p.name,.slice q'.av p.vars.length q'.cv,.int .i64 p.params,.slice q'.ab p.blocks.length q'.cb,.slice q'.ai p.ins.length q'.ci] 43)) (fun i=>w1.heap.size≤i∧i<(w10.alloc (.cells #[.string p.name,.slice q'.av p.vars.length q'.cv,.int .i64 p.params,.slice q'.ab p.blocks.length q'.cb,.slice q'.ai p.ins.length q'.ci] 43)).heap.size∧(Value.slice ap k cp).ownBlock ≠ some i) p [.string p.name,.slice q'.av p.vars.length q'.cv,.int .i64 p.params,.slice q'.ab p.blocks.length q'.cb,.slice q'.ai p.ins.length q'.ci]→ ∀ (ap':Option Addr) (cp':Nat),w12.ownsRow w1.heap.size 43 5 (.slice ap' (k+1) cp') (k+1) (iv.flatten++[.string p.name,.slice q'.av p.vars.length q'.cv,.int .i64 p.params,.slice q'.ab p.blocks.length q'.cb,.slice q'.ai p.ins.length q'.ci])→(w10.alloc (.cells #[.string p.name,.slice q'.av p.vars.length q'.cv,.int .i64 p.params,.slice q'.ab p.blocks.length q'.cb,.slice q'.ai p.ins.length q'.ci] 43)).grownBy w12 (Value.slice ap k cp).ownBlock→((Value.slice ap' (k+1) cp').ownBlock=(Value.slice ap k cp).ownBlock∨(Value.slice ap' (k+1) cp').ownBlock=some (w10.alloc (.cells #[.string p.name,.slice q'.av p.vars.length q'.cv,.int .i64 p.params,.slice q'.ab p.blocks.length q'.cb,.slice q'.ai p.ins.length q'.ci] 43)).heap.size)→BXc (w.heap.size+1+1) w12 [.slice ap k cp,.int .i64 m]∧CW w1 (w.heap.size+1+1) m l (k+1) ap' cp' (w12.setCell ⟨w.heap.size+1+1,0,none⟩ (.slice ap' (k+1) cp'))):=hide (fun w12 q' w10 hb iv i1 i3 hpx ap' cp' ho hg hv=>by
    have hba:=(Below.refl w10.heap.size w10).alloc (Nat.le_refl _) (.cells #[.string p.name,.slice q'.av p.vars.length q'.cv,.int .i64 p.params,.slice q'.ab p.blocks.length q'.cb,.slice q'.ai p.ins.length q'.ci] 43)
    have hgk:Kx (fun i=>i<w1.heap.size) (w10.alloc (.cells #[.string p.name,.slice q'.av p.vars.length q'.cv,.int .i64 p.params,.slice q'.ab p.blocks.length q'.cb,.slice q'.ai p.ins.length q'.ci] 43)) w12:=⟨hg.os,hg.tape,hg.output,hg.size,fun i hi hX=>hg.block i hi (fun e=>by
     have:=(hrs i e.symm).2
     omega)⟩
    have hk12:Kx (fun i=>i<w1.heap.size) wr w12:=(Kx.of_below (btrans hb hba)).trans hgk
    have hbx:=HI.out.bx.keepK hk12 hl3
    have hro:=ROc.push2 (D:=PX) PX.up i1 i3 hpx (by rw [HJL.out];exact ho) hg hv
    rw [←HTK.out] at hro
    refine ⟨hbx,hbx.set (j:=0) rfl _,(HI.out.kx.trans (hk12.mono (fun i _ hi=>hi.1))).set (p:=⟨w.heap.size+1+1,0,none⟩) (.inr (fun e=>e.2 rfl)) _,ROc.keep (D:=PX) PX.up hro ((Kx.refl _ _).set (p:=⟨w.heap.size+1+1,0,none⟩) (.inr (fun e=>by dsimp only at e;omega)) _)⟩)
   have e9:=HI.out.bx.z 0
   have CE:=hide (CC.out.mono (R':=fun e w'=> ∃ v,e= .returned v∧ ∃ q':PV,v= .agg (q'.cells p)∧PCx w' (fun j=>wr.drew.heap.size≤j∧j<w'.heap.size) q' p∧Below wr.drew.heap.size wr.drew w') (fun e w' h=>by
    obtain ⟨q',rfl,h1,h2⟩:=h
    exact ⟨_,rfl,q',rfl,h1,h2⟩))
   clear hx hr hc hq hpc HOp e1
   unfold PV.cells at *
   go_wp2
   go_region_law (first|(refine step_call_ex rfl 14 #[.agg #[.string p.name,.slice q.av p.vars.length q.cv,.int .i64 p.params,.slice q.ab p.blocks.length q.cb,.slice q.ai p.ins.length q.ci]] ?_ CE.out ?_;(focus (go_simp;done));rintro v w10 ⟨q',rfl,hpx,hb10⟩;have kc:=btrans HDR.out hb10;have r0:=bsome kc c0;have r1:=bsome kc y0;have r2:=bsome kc y1;have r3:=bsome kc y2;have r4:=bsome kc y3;have r5:=bsome kc y4;have r6:=bsome kc d0;have r8:=bsome ((Below.refl w10.heap.size w10).alloc (Nat.le_refl _) (.cells #[.string p.name,.slice q'.av p.vars.length q'.cv,.int .i64 p.params,.slice q'.ab p.blocks.length q'.cb,.slice q'.ai p.ins.length q'.ci] 43)) r6;have r7:=(HI.out.bx.keep kc).z 0;have HPR:=hide (HPRE.out q' w10 hpx kc);have KC:=hide kc;clear hpx hb10 kc;obtain ⟨iv,hi1,hi2,hi3⟩:=HPR.out.1.ex;have HI1:=hide hi1;have HI2:=hide hi2;have HI3:=hide hi3;clear hi1 hi2 hi3)|(refine step_app rfl (.tmp 16) (.tmp 23) 22 rfl w1.heap.size 43 iR (.agg #[.string ⟨#[]⟩,.slice none 0 0,.int .i64 0,.slice none 0 0,.slice none 0 0]) 5 96 Tryz.underlying22 hR hR0 hR1 hR2 rfl (by decide) (.slice ap k cp) k iv.flatten rfl (by have h:=HI2.out;rw [HJL.out] at h;exact h) _ _ _ [.string p.name,.slice q'.av p.vars.length q'.cv,.int .i64 p.params,.slice q'.ab p.blocks.length q'.cb,.slice q'.ai p.ins.length q'.ci] rfl rfl (fun _=>⟨_,rfl,HPR.out.2.2⟩) (fun u hu=>by simp at hu;rcases hu with rfl|rfl|rfl|rfl|rfl<;> rfl) H64.out HBZ.out HPR.out.2.1.1 ?_;intro ap' cp' w12 hown hg12 hv12;have kd:=HFIN.out w12 q' w10 KC.out iv HI1.out HI3.out HPR.out.2.1.2 ap' cp' hown hg12 hv12;have e0:=kd.1.c 0 _ rfl;have e1:=kd.1.z 0;have HF12:=hide kd;clear hown hg12 hv12 kd))
   all_goals
    go_wp2
    refine ⟨⟨k+1,by omega,by go_num,_,_,hide HF12.out.2⟩,?_⟩
    simp [intOf];omega
  ·obtain rfl:k=l.length:=by omega
   have d1:=HI.out.bx.c 1 _ rfl
   have hx2:=HX2.out.keepK HI.out.kx ⟨hl2,by omega⟩
   have f0:=hx2.c 0 _ rfl
   have f1:=hx2.c 1 _ rfl
   have g0:=hx2.z 0
   have g1:=hx2.z 1
   have hro:=HI.out.ro
   rw [List.take_length] at hro
   have hcap:=hro.cap
   have HRF:Hid (∀ u v:Value,CoR ((wr.setCell ⟨w.heap.size+1,0,none⟩ u).setCell ⟨w.heap.size+1,1,none⟩ v) (.slice ap l.length cp) l):=hide (fun u v=>(ROc.keep (D:=PX) PX.up hro (((Kx.refl _ _).set (p:=⟨w.heap.size+1,0,none⟩) (.inr (fun e=>by dsimp only at e;omega)) u).set (p:=⟨w.heap.size+1,1,none⟩) (.inr (fun e=>by dsimp only at e;omega)) v)).coR)
   have HBF:=hide hbw
   clear hx1 hx2 hro hbw HI
   go_wp2
   refine bodyPost_ret (v:= .agg #[.slice ap l.length cp,.int .i64 m]) (by simp [results,Tryz.results7,go_sem,f0,f1]) rfl ⟨ap,cp,rfl,HRF.out _ _,hcap,bset (bset HBF.out (Nat.le_succ _) _) (Nat.le_succ _) _⟩
end Go.Proofs.YtbhhkaobkdeolaaGreatDoor
