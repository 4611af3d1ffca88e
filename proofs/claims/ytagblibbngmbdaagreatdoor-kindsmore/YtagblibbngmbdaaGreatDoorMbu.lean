import Derived.Test.YtagblibbngmbdaaGreatDoorMam
import Derived.Test.YtagblibbngmbdaaGreatDoorMai
import Derived.Test.YtagblibbngmbdaaGreatDoorMas
import Derived.Test.YtagblibbngmbdaaGreatDoorMbp
import Derived.Test.YtagblibbngmbdaaGreatDoorMbs
import Derived.Test.YtagblibbngmbdaaGreatDoorMbt
namespace Go.Proofs.YtagblibbngmbdaaGreatDoor.Kn
open Go.Proofs.YtagblibbngmbdaaGreatDoor Go.Proofs.YtagblibbngmbdaaGreatDoor.Sx Go.RowKit
def ftE:Nat→List Tr→Prop
 |0,_=>False
 |n+1,l=> ∀ d ∈ l,ftE n (eL d)
def ftS:Nat→List Tr→Prop
 |0,_=>False
 |n+1,l=> ∀ t ∈ l,ftE n (sE t)∧ftS n (sB t)∧ftS n (sO t)
theorem ft_el {w:World} {P:Nat→Prop}: ∀ (n:Nat) (l:List Tr) (v:Value),EL w P n l v→ftE n l
 |0,_,_,h=>by cases h
 |n+1,l,v,h=>by
  obtain ⟨a,cap,-,h⟩:=h
  intro d hd
  rcases h with rfl|⟨b,off,-,-,h⟩
  ·cases hd
  ·obtain ⟨i,hi⟩:=List.getElem?_of_mem hd
   obtain ⟨op,nm,k,L,u,rfl,-,-,-,-,hL⟩:=h i d hi
   exact ft_el n L u hL
theorem ft_sl {w:World} {P:Nat→Prop}: ∀ (n:Nat) (l:List Tr) (v:Value),SL w P n l v→ftS n l
 |0,_,_,h=>by cases h
 |n+1,l,v,h=>by
  obtain ⟨a,cap,rfl⟩:=h.slice
  intro d hd
  obtain ⟨i,hi⟩:=List.getElem?_of_mem hd
  obtain ⟨hlt,-⟩:=List.getElem?_eq_some_iff.1 hi
  obtain ⟨b,off,D,at2,A,B,T,N,E,body,els,uE,uB,uL,-,-,hd2,-,-,-,-,-,-,-,-,-,hE,hB,hL⟩:=h.nth i hlt
  obtain rfl:d=tS D at2 A B T N E body els:=by rw [hi] at hd2;simpa using hd2
  exact ⟨ft_el n E uE hE,ft_sl n body uB hB,ft_sl n els uL hL⟩
theorem zd4 {f g:Tr→Int} {l:List Tr} (h: ∀ d ∈ l,f d=g d):Rn.firstOf f l=Rn.firstOf g l:=by
 induction l with
 |nil=>rfl
 |cons d r ih=>
  simp only [Rn.firstOf]
  rw [h d (List.mem_cons_self ..),ih fun x hx=>h x (List.mem_cons_of_mem _ hx)]
theorem zj8 (ns:List Nv): ∀ (n:Nat) (l:List Tr),ftE n l→ ∀ d ∈ l,num n ns d=num (n+1) ns d
 |0,_,h,_,_=>by cases h
 |n+1,l,h,d,hd=>by
  have hc:Rn.firstOf (num n ns) (eL d)=Rn.firstOf (num (n+1) ns) (eL d):=zd4 fun x hx=>zj8 ns n (eL d) (h d hd) x hx
  simp only [num]
  rw [hc]
  rfl
theorem zmj {n:Nat} {ns:List Nv} {l:List Tr} (h:ftE n l) {d:Tr} (hd:d ∈ l) (t:List UInt8):thg n ns d t=thg (n+1) ns d t:=by
 unfold thg
 rw [zj8 ns n l h d hd]
theorem zj9 {n:Nat} {ns:List Nv} {l:List Tr} (h:ftE n l): ∀ (r:List Tr) (s:List (List UInt8)),(∀ d ∈ r,d ∈ l)→thgs n ns r s=thgs (n+1) ns r s
 |[],s,_=>by cases s<;> rfl
 |d::r,[],_=>rfl
 |d::r,t::s,hr=>by
  simp only [thgs]
  rw [zmj h (hr d (List.mem_cons_self ..)),zj9 h r s fun x hx=>hr x (List.mem_cons_of_mem _ hx)]
theorem zmz {n:Nat} {t:Tr} (h:ftE n (sE t)) (ab:List Tr) (ns:List Nv):rest n ab ns t=rest (n+1) ab ns t:=by
 have h1:thg n ns ((sE t).headD d0) (typ ns (sH t).2.1).tail=thg (n+1) ns ((sE t).headD d0) (typ ns (sH t).2.1).tail:=by
  cases hE:sE t with
  |nil=>
   rw [hE] at h
   cases n with
   |zero=>cases h
   |succ n=>rfl
  |cons d r=>exact zmj h (by rw [hE];exact List.mem_cons_self ..) _
 have h2:Rn.firstOf (num n ns) (sE t)=Rn.firstOf (num (n+1) ns) (sE t):=zd4 fun d hd=>zj8 ns n _ h d hd
 have h3: ∀ s,thgs n ns (sE t) s=thgs (n+1) ns (sE t) s:=fun s=>zj9 h _ s fun _ hd=>hd
 unfold rest
 simp only [h1,h2,h3]
theorem zfp {f g:St→Tr→Rs}: ∀ (l:List Tr) (s:St),(∀ t ∈ l,∀ s,f s t=g s t)→goK f s l=goK g s l
 |[],_,_=>rfl
 |t::r,s,h=>by
  simp only [goK]
  rw [h t (List.mem_cons_self ..) s]
  cases g s t with
  |inl s'=>exact zfp r s' fun x hx=>h x (List.mem_cons_of_mem _ hx)
  |inr f=>rfl
theorem zog {n:Nat} {ab:List Tr} {blk blk':St→List Tr→Rs} {t:Tr} (h:ftE n (sE t)) (hB: ∀ s,blk s (sB t)=blk' s (sB t)) (hO: ∀ s,blk s (sO t)=blk' s (sO t)) (s:St):one n ab blk s t=one (n+1) ab blk' s t:=by
 have hs:sc n ab s.ns s.bd t=sc (n+1) ab s.ns s.bd t:=by
  unfold sc
  rw [zmz h]
 unfold one
 simp only [hs,hB,hO]
theorem zka (ab:List Tr): ∀ (n:Nat) (l:List Tr),ftS n l→ ∀ s,sts n ab s l=sts (n+1) ab s l
 |0,_,h,_=>by cases h
 |n+1,l,h,s=>by
  simp only [sts]
  refine zfp l s fun t ht s=> ?_
  obtain ⟨h1,h2,h3⟩:=h t ht
  exact zog h1 (fun s=>zka ab n _ h2 s) (fun s=>zka ab n _ h3 s) s
theorem okG.up {n:Nat} {ab:List Tr} {g:Tr} (h:okG n ab g) (hf:ftS n (gB g)):okG (n+1) ab g:=by
 obtain ⟨h1,s,h2,h3⟩:=h
 exact ⟨h1,s,by rw [←zka ab n _ hf];exact h2,h3⟩
theorem around {n k:Nat} {l:List Tr} {g:Tr} {at':Int} {o:List (List Nv)} (h:vars (n+1) l= .inl o) (hf: ∀ g ∈ l,ftS (n+1) (gB g)) (hg:l[k]? =some g) (ht:(Rn.told (n+2) (l.set k (ifG g at'))).1=0): ∃ o',vars (n+2) (l.set k (ifG g at'))= .inl o':=by
 obtain ⟨h1,h2⟩:=zj6 h
 have hl:k<l.length:=(List.getElem?_eq_some_iff.1 hg).1
 have hal:=fun j=>Alk.take_set (g':=ifG g at') hg rfl rfl j
 refine zj7 ht (fun j x hx=> ?_) ?_
 ·rw [List.getElem?_set] at hx
  by_cases hk:k=j
  ·subst hk
   simp only [if_true,if_pos hl] at hx
   obtain rfl:ifG g at'=x:=by simpa using hx
   exact (zof (h1 k g hg)).alk (hal k)
  ·rw [if_neg hk] at hx
   exact ((h1 j x hx).up (hf x (List.mem_of_getElem? hx))).alk (hal j)
 ·obtain ⟨x,hx,hm⟩:=List.any_eq_true.1 h2
  obtain ⟨j,hj⟩:=List.getElem?_of_mem hx
  rw [List.any_eq_true]
  by_cases hk:k=j
  ·subst hk
   obtain rfl:g=x:=by rw [hg] at hj;simpa using hj
   exact ⟨ifG g at',List.mem_of_getElem? (i:=k) (by rw [List.getElem?_set];simp [hl]),hm⟩
  ·exact ⟨x,List.mem_of_getElem? (i:=j) (by rw [List.getElem?_set,if_neg hk];exact hj),hm⟩
end Go.Proofs.YtagblibbngmbdaaGreatDoor.Kn
namespace Go.Proofs.YtagblibbngmbdaaGreatDoor
open Go.RowKit
theorem zlw {w:World} {B t z n cap:Nat} {a:Option Addr} {cs:List Value} (h:w.ownsRow B t z (.slice a n cap) n cs) (hn:0<n): ∃ g,a=some ⟨g,0,none⟩∧B≤g∧g<w.heap.size∧ ∀ (j:Nat) u,cs[j]? =some u→w.cell? ⟨g,j,none⟩=some u:=by
 rcases h.2 with ⟨hv,h0⟩|⟨g,cap',cur,hv,hB,hg,_⟩
 ·omega
 ·cases hv
  refine ⟨g,rfl,hB,?_,fun j u hu=> ?_⟩
  ·rcases Nat.lt_or_ge g w.heap.size with h'|h'
   ·exact h'
   ·rw [Array.getElem?_eq_none h'] at hg;cases hg
  ·have:=h.cells (g:=g) rfl j u hu
   rwa [Addr.add_mid,Nat.zero_add] at this
structure Cy (n:Nat) (l:List Sx.Tr) (w0 w:World) (B T g cap:Nat) (cs:List Value):Prop where
 own:w.ownsRow B 43 4 (.slice (some ⟨g,0,none⟩) l.length cap) l.length cs
 rw:Rw (RG w (fun b=>B≤b∧b<T∧b ≠ g) n) l cs
 kp:Kp [] w0 w
 lo:w0.heap.size≤B
 up:B≤g
 lt:g<T
 top:T≤w.heap.size
theorem Cy.mk' {n:Nat} {l:List Sx.Tr} {w0 X:World} {e:Ending} {w:World} (h:CO n l X e w) (hk:Kp [] w0 X) (hl:0<l.length): ∃ B g cap cs,e= .returned (.agg #[.slice (some ⟨g,0,none⟩) l.length cap])∧Cy n l w0 w B w.heap.size g cap cs∧Kp [] X w∧X.heap.size≤B:=by
 obtain ⟨a,cap,cs,rfl,h1,h2,h3⟩:=h
 obtain ⟨g,rfl,h4,h5,-⟩:=zlw h1 hl
 have:=hk.size
 exact ⟨X.heap.size+3,g,cap,cs,rfl,⟨h1,h2.mono (fun d c hd=>hd.base (fun b hb hP=>⟨hP.1,hb,fun e=>hP.2 (by rw [e];rfl)⟩)),hk.trans h3,by omega,h4,h5,Nat.le_refl _⟩,h3,by omega⟩
theorem Cy.keep {n:Nat} {l:List Sx.Tr} {w0 w w':World} {B T g cap:Nat} {cs:List Value} (h:Cy n l w0 w B T g cap cs) (k:Kp [] w w'):Cy n l w0 w' B T g cap cs:=
 ⟨zam h.own k (by simp),h.rw.mono (fun d c hd=>hd.keep k (by simp)),h.kp.trans k,h.lo,h.up,h.lt,Nat.le_trans h.top k.size⟩
theorem Cy.cells {n:Nat} {l:List Sx.Tr} {w0 w:World} {B T g cap:Nat} {cs:List Value} (h:Cy n l w0 w B T g cap cs): ∀ (j:Nat) u,cs[j]? =some u→w.cell? ((⟨g,0,none⟩:Addr).add j)=some u:=fun j u hu=>h.own.cells (g:=g) rfl j u hu
theorem Cy.both {n:Nat} {P Q:List Sx.Tr} {w0 w1 X w9:World} {B T g cap B2 T2 g2 cap2 g9 cap9 bb:Nat} {cs cs2:List Value} (h1:Cy n P w0 X B T g cap cs) (h2:Cy n Q w1 X B2 T2 g2 cap2 cs2) (hw:T≤w1.heap.size)
  (hown:w9.ownsRow B 43 4 (.slice (some ⟨g9,0,none⟩) (P.length+Q.length) cap9) (P.length+Q.length) (cs++cs2)) (hg:X.grownBy w9 (some g)) (hbb:(bb<B∨(T≤bb∧bb<B2)∨T2≤bb)∧bb ≠ g9):
  Sl (RG w9 (fun b=>b ≠ bb) n) w9 (fun b=>b ≠ bb) (P++Q) (.slice (some ⟨g9,0,none⟩) (P.length+Q.length) cap9)∧Kp [] w0 w9:=by
 have e1:=h1.lo
 have e2:=h1.up
 have e3:=h1.lt
 have e4:=h2.lo
 have e5:=h2.up
 have e6:=h2.lt
 have hR:Rw (RG X (fun b=>b ≠ bb∧b ≠ g) n) (P++Q) (cs++cs2):=by
  refine Rw.app (h1.rw.mono (fun d c hd=>hd.base (fun b _ hb=> ?_))) (h2.rw.mono (fun d c hd=>hd.base (fun b _ hb=> ?_)))
  ·obtain ⟨a1,a2,a3⟩:=hb
   exact ⟨by omega,a3⟩
  ·obtain ⟨a1,a2,a3⟩:=hb
   exact ⟨by omega,by omega⟩
 have kg:Kp [g] X w9:=⟨hg.os,hg.tape,hg.output,hg.size,fun k hk hn=>hg.block k hk (fun e=>hn (by simp [Option.some.inj e]))⟩
 have hR9:Rw (RG w9 (fun b=>b ≠ bb∧b ≠ g) n) (P++Q) (cs++cs2):=hR.mono (fun d c hd=>hd.keep kg (by simp))
 refine ⟨?_,⟨hg.os.trans h1.kp.os,hg.tape.trans h1.kp.tape,hg.output.trans h1.kp.output,Nat.le_trans h1.kp.size hg.size,fun k hk hn=> ?_⟩⟩
 ·rw [←List.length_append] at hown ⊢
  refine ⟨_,cap9,rfl,.inr ⟨g9,0,cs++cs2,rfl,fun e=>hbb.2 e.symm,hR9.mono (fun d c hd=>hd.base (fun b _ hb=>hb.1)),fun j u hu=> ?_⟩⟩
  have:=hown.cells (g:=g9) rfl j u hu
  rwa [Addr.add_mid] at this
 ·exact (hg.block k (Nat.lt_of_lt_of_le hk h1.kp.size) (fun e=>by have:=Option.some.inj e;omega)).trans (h1.kp.block k hk hn)
theorem zne {n:Nat} {P Q:List Sx.Tr} {w0 w1 X w9:World} {B T g cap B2 T2 g2 cap2 g9 cap9 bb:Nat} {cs cs2:List Value} {u:Value} (h1:Cy n P w0 X B T g cap cs) (h2:Cy n Q w1 X B2 T2 g2 cap2 cs2) (hw:T≤w1.heap.size)
  (hown:w9.ownsRow B 43 4 (.slice (some ⟨g9,0,none⟩) (P.length+Q.length) cap9) (P.length+Q.length) (cs++cs2)) (hg:X.grownBy w9 (some g)) (hbb:(bb<B∨(T≤bb∧bb<B2)∨T2≤bb)∧bb ≠ g9) (hc:w9.cell? ⟨bb,0,none⟩=some u) (hlo:w0.heap.size≤bb):
  (w9.setCell ⟨bb,0,none⟩ (.slice (some ⟨g9,0,none⟩) (P.length+Q.length) cap9)).cell? ⟨bb,0,none⟩=some (.slice (some ⟨g9,0,none⟩) (P.length+Q.length) cap9)∧Hid (Kp [] w0 (w9.setCell ⟨bb,0,none⟩ (.slice (some ⟨g9,0,none⟩) (P.length+Q.length) cap9)))∧
   Hid (Sl (RG (w9.setCell ⟨bb,0,none⟩ (.slice (some ⟨g9,0,none⟩) (P.length+Q.length) cap9)) (fun _=>True) n) (w9.setCell ⟨bb,0,none⟩ (.slice (some ⟨g9,0,none⟩) (P.length+Q.length) cap9)) (fun _=>True) (P++Q) (.slice (some ⟨g9,0,none⟩) (P.length+Q.length) cap9)):=by
 obtain ⟨hS,hK⟩:=Cy.both (bb:=bb) h1 h2 hw hown hg hbb
 have kz:Kp [bb] w9 (w9.setCell ⟨bb,0,none⟩ (.slice (some ⟨g9,0,none⟩) (P.length+Q.length) cap9)):=Kp.rb (Kp.refl _ _) _ _
 refine ⟨by simp [go_sem,hc],hK.nb hlo _ _,?_⟩
 have h3:=hS.keep (R':=RG (w9.setCell ⟨bb,0,none⟩ (.slice (some ⟨g9,0,none⟩) (P.length+Q.length) cap9)) (fun b=>b ≠ bb) n) kz (by simp) (fun d c h=>h.keep kz (by simp))
 exact h3.base (fun _ _ _=>trivial) (fun d c h=>⟨h.base (fun _ _ _=>trivial),by obtain ⟨nm,at',ps,body,uP,uB,_,rfl,_⟩:=h;simp⟩)
def zW (w:World) (t1 t2 t3:TypeId):World:=
 (((w.alloc (.cells #[.string (bs [97]),.string (bs [105])] t1)).alloc (.cells #[.int .i64 2,.string (bs [97]),.int .i64 0,.slice none 0 0] t2)).alloc
   (.cells #[.int .i64 3,.int .i64 0,.string (bs []),.string (bs []),.string (bs []),.int .i64 0,.slice (some ⟨w.heap.size+1,0,none⟩) 1 1,.slice none 0 0,.slice none 0 0] t3)).alloc
   (.cells #[.string (bs [122,122,122]),.int .i64 0,.slice (some ⟨w.heap.size,0,none⟩) 1 1,.slice (some ⟨w.heap.size+1+1,0,none⟩) 1 1] 43)
theorem znf (w:World) (t1 t2 t3:TypeId):(zW w t1 t2 t3).heap.size=w.heap.size+4:=by simp [zW,go_sem]
theorem zW_kp (w:World) (t1 t2 t3:TypeId):Kp [] w (zW w t1 t2 t3):=((((Kp.refl [] w).alloc _).alloc _).alloc _).alloc _
theorem zW_cy (n:Nat) (w:World) (t1 t2 t3:TypeId):
  Cy (n+3) [Kn.zS] w (zW w t1 t2 t3) w.heap.size (w.heap.size+4) (w.heap.size+1+1+1) 1 [.string (bs [122,122,122]),.int .i64 0,.slice (some ⟨w.heap.size,0,none⟩) 1 1,.slice (some ⟨w.heap.size+1+1,0,none⟩) 1 1]:=by
 refine ⟨⟨rfl,.inr ⟨w.heap.size+1+1+1,1,#[.string (bs [122,122,122]),.int .i64 0,.slice (some ⟨w.heap.size,0,none⟩) 1 1,.slice (some ⟨w.heap.size+1+1,0,none⟩) 1 1],rfl,by omega,?_,Nat.le_refl _,by decide,rfl,rfl⟩⟩,?_,zW_kp _ _ _ _,Nat.le_refl _,by omega,by omega,by rw [znf];omega⟩
 ·show (Array.push _ _)[w.heap.size+1+1+1]? =_
  rw [Array.getElem?_push,if_pos (by simp [go_sem])]
 ·refine ⟨_,[],(List.append_nil _).symm,⟨[122,122,122],0,[Sx.tP [97] [105]],[Sx.tS 3 0 [] [] [] 0 [Sx.tE 2 [97] 0 []] [] []],_,_,rfl,rfl,?_,?_⟩,rfl⟩
  ·refine ⟨_,1,rfl,.inr ⟨w.heap.size,0,[.string (bs [97]),.string (bs [105])],rfl,by omega,⟨_,[],(List.append_nil _).symm,⟨[97],[105],rfl,rfl⟩,rfl⟩,fun j u hu=> ?_⟩⟩
   match j,hu with
   |0,hu=>cases hu;simp [zW,go_sem]
   |1,hu=>cases hu;simp [zW,go_sem]
   |j+2,hu=>simp at hu
  ·refine ⟨_,1,rfl,.inr ⟨w.heap.size+1+1,0,[.int .i64 3,.int .i64 0,.string (bs []),.string (bs []),.string (bs []),.int .i64 0,.slice (some ⟨w.heap.size+1,0,none⟩) 1 1,.slice none 0 0,.slice none 0 0],rfl,by omega,⟨_,[],(List.append_nil _).symm,⟨3,0,[],[],[],0,[Sx.tE 2 [97] 0 []],[],[],_,_,_,rfl,rfl,?_,?_,?_⟩,rfl⟩,fun j u hu=> ?_⟩⟩
   ·refine ⟨_,1,rfl,.inr ⟨w.heap.size+1,0,rfl,by omega,fun i d hd=> ?_⟩⟩
    match i,hd with
    |0,hd=>
     cases hd
     exact ⟨2,[97],0,[],.slice none 0 0,rfl,by simp [zW,go_sem],by simp [zW,go_sem],by simp [zW,go_sem],by simp [zW,go_sem],⟨none,0,rfl,.inl rfl⟩⟩
    |i+1,hd=>simp at hd
   ·exact Sl.nil _ _ _ none 0
   ·exact Sl.nil _ _ _ none 0
   ·match j,hu with
    |0,hu=>cases hu;simp [zW,go_sem]
    |1,hu=>cases hu;simp [zW,go_sem]
    |2,hu=>cases hu;simp [zW,go_sem]
    |3,hu=>cases hu;simp [zW,go_sem]
    |4,hu=>cases hu;simp [zW,go_sem]
    |5,hu=>cases hu;simp [zW,go_sem]
    |6,hu=>cases hu;simp [zW,go_sem]
    |7,hu=>cases hu;simp [zW,go_sem]
    |8,hu=>cases hu;simp [zW,go_sem]
    |j+9,hu=>simp at hu
end Go.Proofs.YtagblibbngmbdaaGreatDoor
set_option maxRecDepth 100000
set_option maxHeartbeats 1000000
namespace Go.Proofs.YtagblibbngmbdaaGreatDoor
open Go.RowKit
def Kn.vt (n:Nat) (l:List Sx.Tr):Int × Int:=match Kn.vars n l with
 | .inr f=>f
 | .inl _=>(0,0)
theorem VsP.vt {w:World} {n:Nat} {l:List Sx.Tr} {e:Ending} {w':World} (h:VsP w (Kn.vars n l) e w'): ∃ v,e= .returned (.tuple #[v,.agg #[.int .i64 (Kn.vt n l).1,.int .i64 (Kn.vt n l).2]])∧Kp [] w w':=by
 unfold Kn.vt
 cases hv:Kn.vars n l with
 |inr f=>
  rw [hv] at h
  exact ⟨_,h⟩
 |inl o=>
  rw [hv] at h
  obtain ⟨a,c,h1,-,h2⟩:=h
  exact ⟨_,h1,h2⟩
theorem zb6 (n:Nat) (w:World) (P:Nat→Prop) (l:List Sx.Tr) (a:Option Addr) (c:Nat) (hT:Tb w) (h:Sl (RG w P n) w P l (.slice a l.length c)) (hN:Nm n l) (hPw: ∀ b,P b→b<w.heap.size) (hlB: ∀ g ∈ l,(Sx.gB g).length≤1000000):
  Calls Tryz.prog 11 #[.agg #[.slice a l.length c]] w fun e w'=>e= .returned (.agg #[.int .i64 (Kn.vt n l).1,.int .i64 (Kn.vt n l).2])∧Kp [] w w':=by
 have K2:Hid (Kp [] w ((w.alloc (.cells #[.slice a l.length c] 24)).alloc (.cells #[.int .i64 0,.int .i64 0] 30))):=hide (((Kp.refl _ _).alloc _).alloc _)
 have HC:=hide (zkz n _ P l a c (hT.kp K2.out) (GL.keep h K2.out) hN (fun b hb=>Nat.lt_of_lt_of_le (hPw b hb) K2.out.size) hlB)
 have B2:Hid (FB w (.slice a l.length c) ((w.alloc (.cells #[.slice a l.length c] 24)).alloc (.cells #[.int .i64 0,.int .i64 0] 30))):=hide ⟨K2.out,by simp [go_sem],by simp [go_sem],by simp [go_sem],by simp [go_sem],by simp [go_sem]⟩
 clear h hT hN K2
 obtain ⟨F,hF⟩: ∃ F,Kn.vt n l=F:=⟨_,rfl⟩
 rw [hF]
 go_enter Tryz.func11,Tryz.ntmps11
 go_wp2_with fail
 refine HC.out.mono ?_
 intro e w3 hv
 obtain ⟨v,he,hk3⟩:=hv.vt
 rw [hF] at he
 subst he
 clear hv
 obtain ⟨k5,-,r0,r1,f0,f1⟩:=B2.out.go hk3
 have hb4:=World.block_lt_of_cell? _ _ r0
 clear hk3 HC
 go_wp2
 refine bodyPost_ret (v:= .agg #[.int .i64 F.1,.int .i64 F.2]) (by simp [results,Tryz.results11,go_sem,r0,r1,hb4]) rfl ⟨rfl,?_⟩
 exact ((k5.nb (by omega) _ _).nb (by omega) _ _).alloc _
end Go.Proofs.YtagblibbngmbdaaGreatDoor
set_option maxRecDepth 100000
set_option maxHeartbeats 1000000
namespace Go.Proofs.YtagblibbngmbdaaGreatDoor
open Go.RowKit
def kbT:List UInt8:=[115,116,97,103,101,32,109,97,105,110,40,105,110,32,114,101,99,118,32,105,110,116,41,32,123,32,116,97,107,101,32,120,32,102,114,111,109,32,105,110,32,123,32,125,32,101,109,105,116,32,120,59,32,125]
def kbB:List Sx.Tr:=[Sx.tS 11 26 [120] [105,110] [] 0 [] [] [],Sx.tS 3 45 [] [] [] 0 [Sx.tE 2 [120] 0 []] [] []]
def kbG:Sx.Tr:=Sx.tG [109,97,105,110] 0 [Sx.tP [105,110] [114,105]] kbB
def kbL:Sx.Rs (List Sx.Tr)→List Sx.Tr
 | .inl (l,_,_)=>l
 |_=>[]
theorem zk8:kbL (Sx.parsed kbT)=[kbG]:=by kernel_rfl
theorem zo2: ∃ s r,Sx.parsed kbT= .inl ([kbG],s,r):=by
 have h:=zk8
 cases hp:Sx.parsed kbT with
 |inl x=>
  obtain ⟨l,s,r⟩:=x
  rw [hp] at h
  exact ⟨s,r,by rw [show l=[kbG] from h]⟩
 |inr x=>
  rw [hp] at h
  cases h
theorem kb_vt:Kn.vt 20 [kbG]=(10,1):=by kernel_rfl
theorem zo3 {w:World} {P:Nat→Prop} {m:Nat} {v:Value} (h:Sl (RG w P m) w P [kbG] v):Sl (RG w (fun b=>b<w.heap.size) 20) w (fun b=>b<w.heap.size) [kbG] v:=by
 refine Sl.base (R:=RG w P 20) (Sl.mono' h fun d c hd hr=> ?_) (fun b hb _=>hb) (fun d c hr=> ?_)
 ·obtain rfl:d=kbG:=by simpa using hd
  obtain ⟨nm,at',ps,body,uP,uB,e,ec,hp,hs⟩:=hr
  have hb:body=kbB:=by
   simp [kbG,Sx.tG] at e
   exact e.2.2.2.symm
  refine ⟨nm,at',ps,body,uP,uB,e,ec,hp,?_⟩
  subst hb
  obtain ⟨a,cap,rfl⟩:=hs.slice
  match m,hs with
  |0,hs=>cases hs
  |1,hs=>
   obtain ⟨b,off,D,at2,A,B,T,N,E,body2,els,uE,uB2,uL,-,-,-,-,-,-,-,-,-,-,-,-,hE,-⟩:=hs.nth 1 (by decide)
   cases hE
  |2,hs=>
   refine hs.lower 2 20 ?_
   decide
  |k+3,hs=>exact hs.lower (k+3) 20 (show 3<20 by decide)
 ·obtain ⟨nm,at',ps,body,uP,uB,e,ec,hp,hs⟩:=hr
  refine ⟨⟨nm,at',ps,body,uP,uB,e,ec,hp.base (fun b hb _=>hb) (fun _ c h=>⟨h,?_⟩),hs.base (fun b hb _=>hb)⟩,by rw [ec];simp⟩
  obtain ⟨_,_,_,rfl⟩:=h
  simp
theorem zcd (n:Nat):Rn.nmS n []:=by
 cases n with
 |zero=>trivial
 |succ n=>intro i t ht;simp at ht
theorem kb_nm:Nm 20 [kbG]:=by
 have one: ∀ {Q:Sx.Tr→Prop},Q kbG→ ∀ (i:Nat) d,[kbG][i]? =some d→Q d:=fun {Q} h i d hd=>by
  cases i with
  |zero=>simp at hd;rw [←hd];exact h
  |succ i=>simp at hd
 refine ⟨by decide,by decide,one (by decide),one (by decide),one ⟨by decide,?_,?_⟩⟩
 ·intro i p hp
  cases i with
  |zero=>simp [kbG,Sx.gP,Sx.tG] at hp;rw [←hp];decide
  |succ i=>simp [kbG,Sx.gP,Sx.tG] at hp
 ·intro i t ht
  match i,ht with
  |0,ht=>
   obtain rfl:Sx.tS 11 26 [120] [105,110] [] 0 [] [] []=t:=by simpa [kbG,kbB,Sx.gB,Sx.tG] using ht
   exact ⟨by decide,by decide,by decide,fun j x hx=>by simp [Sx.sE,Sx.tS] at hx,zcd _,zcd _⟩
  |1,ht=>
   obtain rfl:Sx.tS 3 45 [] [] [] 0 [Sx.tE 2 [120] 0 []] [] []=t:=by simpa [kbG,kbB,Sx.gB,Sx.tG] using ht
   refine ⟨by decide,by decide,by decide,fun j x hx=> ?_,zcd _,zcd _⟩
   cases j with
   |zero=>
    obtain rfl:Sx.tE 2 [120] 0 []=x:=by simpa [Sx.sE,Sx.tS] using hx
    exact ⟨by decide,fun i x hx=>by simp [Sx.eL,Sx.tE] at hx⟩
   |succ j=>simp [Sx.sE,Sx.tS] at hx
  |i+2,ht=>simp [kbG,kbB,Sx.gB,Sx.tG] at ht
theorem zjg (w:World) (hT:Tb w):Calls Tryz.prog 6 #[] w fun e w'=>e= .returned (.bool true)∧Kp [] w w':=by
 have HP:Hid (∀ w,Tb w→Calls Tryz.prog 16 #[.string ⟨#[115,116,97,103,101,32,109,97,105,110,40,105,110,32,114,101,99,118,32,105,110,116,41,32,123,32,116,97,107,101,32,120,32,102,114,111,109,32,105,110,32,123,32,125,32,101,109,105,116,32,120,59,32,125]⟩] w fun e w'=> ∃ a cap,e= .returned (.tuple #[.agg #[.slice a 1 cap],.agg #[.int .i64 0,.int .i64 0]])∧Sl (RG w' (fun b=>b<w'.heap.size) 20) w' (fun b=>b<w'.heap.size) [kbG] (.slice a 1 cap)∧Kp [] w w'):=hide fun w hT=>by
  refine (zjd ⟨#[115,116,97,103,101,32,109,97,105,110,40,105,110,32,114,101,99,118,32,105,110,116,41,32,123,32,116,97,107,101,32,120,32,102,114,111,109,32,105,110,32,123,32,125,32,101,109,105,116,32,120,59,32,125]⟩ w hT.words (by decide)).mono ?_
  intro e w' h
  obtain ⟨s,r,hp⟩:=zo2
  rw [show (⟨#[115,116,97,103,101,32,109,97,105,110,40,105,110,32,114,101,99,118,32,105,110,116,41,32,123,32,116,97,107,101,32,120,32,102,114,111,109,32,105,110,32,123,32,125,32,101,109,105,116,32,120,59,32,125]⟩:ByteArray).data.toList=kbT from rfl,hp] at h
  obtain ⟨m,a,cap,he,hs,hk⟩:=h
  exact ⟨a,cap,he,zo3 hs,hk⟩
 have HT:=hide hT
 clear hT
 go_enter Tryz.func6,Tryz.ntmps6
 go_wp2_with fail
 refine (HP.out _ HT.out).mono ?_
 rintro e w1 ⟨a,cap,rfl,hSl,hk⟩
 have HC:Hid (∀ w2,Kp [] w1 w2→Calls Tryz.prog 11 #[.agg #[.slice a 1 cap]] w2 fun e w'=>e= .returned (.agg #[.int .i64 10,.int .i64 1])∧Kp [] w2 w'):=hide fun w2 h2=>by
  have:=zb6 20 w2 _ [kbG] a cap ((HT.out.kp hk).kp h2) (GL.keep hSl h2) kb_nm (fun b hb=>Nat.lt_of_lt_of_le hb h2.size) (fun g hg=>by have e:g=kbG:=(by simpa using hg);rw [e];decide)
  rw [kb_vt] at this
  exact this
 have HK:=hide hk
 clear hSl hk HP HT
 go_wp2_with (go_at_call 11;refine (HC.out _ (((Kp.refl [] _).alloc _).alloc _)).mono ?_;rintro e w2 ⟨rfl,hk2⟩;have K2:Hid (Kp [] w1 w2):=hide ((((Kp.refl [] _).alloc _).alloc _).trans hk2);clear hk2)
 go_ret
 exact ⟨rfl,HK.out.trans K2.out⟩
end Go.Proofs.YtagblibbngmbdaaGreatDoor
namespace Go.Proofs.YtagblibbngmbdaaGreatDoor.Kn
open Go.Proofs.YtagblibbngmbdaaGreatDoor Go.Proofs.YtagblibbngmbdaaGreatDoor.Sx
theorem zdn {m:Rs} {k:St→Rs} {f:Int × Int} (h:thn m k= .inr f):m= .inr f∨ ∃ s,k s= .inr f:=by
 cases m with
 |inl s=>exact .inr ⟨s,h⟩
 |inr g=>exact .inl h
theorem zmq {g:St→Tr→Rs} (hg: ∀ s t f,g s t= .inr f→f.1 ≠ 0): ∀ (l:List Tr) (s:St) (f:Int × Int),goK g s l= .inr f→f.1 ≠ 0
 |[],_,_,h=>by cases h
 |t::r,s,f,h=>by
  rcases zdn h with h|⟨s',h⟩
  ·exact hg s t f h
  ·exact zmq hg r s' f h
theorem zgc: ∀ (n:Nat) (ab:List Tr) (s:St) (l:List Tr) (f:Int × Int),sts n ab s l= .inr f→f.1 ≠ 0
 |0,_,_,_,_,h=>by cases h
 |n+1,ab,s,l,f,h=>by
  refine zmq (fun s t f h=> ?_) l s f h
  unfold one at h
  by_cases h0:sc n ab s.ns s.bd t ≠ 0
  ·rw [if_pos h0] at h
   cases h
   exact h0
  ·rw [if_neg h0] at h
   simp only at h
   split at h
   ·rcases zdn h with h|⟨s',h⟩
    ·exact zgc n ab _ _ f h
    ·rcases zdn h with h|⟨s'',h⟩
     ·exact zgc n ab _ _ f h
     ·cases h
   ·rcases zdn h with h|⟨s',h⟩
    ·exact zgc n ab _ _ f h
    ·rcases zdn h with h|⟨s'',h⟩
     ·exact zgc n ab _ _ f h
     ·cases h
theorem zmr (n:Nat): ∀ (l:List Tr) (i a:Nat) (ab:List Tr) (out:List (List Nv)) (f:Int × Int),stg n i a ab out l= .inr f→f.1 ≠ 0
 |[],_,_,_,_,_,h=>by cases h
 |g::r,i,a,ab,out,f,h=>by
  simp only [stg] at h
  split at h
  ·cases h;simp
  ·cases hs:sts n ab ⟨par g,par g,a⟩ (gB g) with
   |inr f'=>
    rw [hs] at h
    cases h
    exact zgc n ab _ _ f hs
   |inl s=>
    rw [hs] at h
    simp only at h
    split at h
    ·cases h;simp
    ·exact zmr n r _ _ _ _ f h
theorem vt_ok {n:Nat} {l:List Tr} (h:(vt n l).1=0): ∃ o,vars n l= .inl o:=by
 cases hv:vars n l with
 |inl o=>exact ⟨o,rfl⟩
 |inr f=>
  exfalso
  unfold vt at h
  rw [hv] at h
  simp only at h
  unfold vars at hv
  split at hv
  ·rename_i h0
   cases hv
   exact h0 h
  ·split at hv
   ·rename_i f' hs
    cases hv
    exact zmr n l _ _ _ _ f hs h
   ·split at hv
    ·cases hv
    ·cases hv;simp at h
theorem vt_zero {n:Nat} {l:List Tr} {o:List (List Nv)} (h:vars n l= .inl o):vt n l=(0,0):=by
 unfold vt
 rw [h]
end Go.Proofs.YtagblibbngmbdaaGreatDoor.Kn
