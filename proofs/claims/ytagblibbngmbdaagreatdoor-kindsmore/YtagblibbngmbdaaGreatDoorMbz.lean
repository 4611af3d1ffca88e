import Derived.Test.YtagblibbngmbdaaGreatDoorMbu
import Derived.Test.YtagblibbngmbdaaGreatDoorMby
import Derived.BigRegion
namespace Go.Proofs.YtagblibbngmbdaaGreatDoor
open Go.RowKit
theorem Rw.set {R R':Sx.Tr→List Value→Prop} {d':Sx.Tr} {v:Value} (hR: ∀ d c,R d c→R' d c) (h4: ∀ d c,R d c→c.length=4):
  ∀ (l:List Sx.Tr) (cs:List Value) (k:Nat),Rw R l cs→(∀ d c,l[k]? =some d→R d c→(∀ j u,c[j]? =some u→cs[4 * k+j]? =some u)→R' d' (c.set 3 v))→Rw R' (l.set k d') (cs.set (4 * k+3) v)
 |[],cs,k,h,_=>by
  obtain rfl:cs=[]:=h
  exact rfl
 |d::r,cs,0,h,hk=>by
  obtain ⟨c1,c2,rfl,h1,h2⟩:=h
  have hl:=h4 d c1 h1
  refine ⟨c1.set 3 v,c2,?_,hk d c1 rfl h1 (fun j u hj=> ?_),h2.mono hR⟩
  ·rw [Nat.mul_zero,Nat.zero_add,List.set_append_left _ _ (by omega)]
  ·have hlt:j<c1.length:=(List.getElem?_eq_some_iff.1 hj).1
   rw [Nat.mul_zero,Nat.zero_add,List.getElem?_append_left hlt]
   exact hj
 |d::r,cs,k+1,h,hk=>by
  obtain ⟨c1,c2,rfl,h1,h2⟩:=h
  have hl:=h4 d c1 h1
  refine ⟨c1,c2.set (4 * k+3) v,?_,hR d c1 h1,Rw.set hR h4 r c2 k h2 (fun x c hx hc hj=>hk x c (by simpa using hx) hc (fun j u hu=> ?_))⟩
  ·rw [List.set_append_right _ _ (by omega),hl,show 4 * (k+1)+3 - 4=4 * k+3 by omega]
  ·rw [List.getElem?_append_right (by omega),hl,show 4 * (k+1)+j - 4=4 * k+j by omega]
   exact hj j u hu
theorem RG.four {w:World} {P:Nat→Prop} {n:Nat} (d:Sx.Tr) (c:List Value) (h:RG w P n d c):c.length=4:=by
 obtain ⟨nm,at',ps,body,uP,uB,-,rfl,-⟩:=h
 rfl
theorem Rw.nth4 {R:Sx.Tr→List Value→Prop} (h4: ∀ d c,R d c→c.length=4): ∀ (l:List Sx.Tr) (cs:List Value) (k:Nat) (d:Sx.Tr),Rw R l cs→l[k]? =some d→ ∃ c,R d c∧ ∀ j u,c[j]? =some u→cs[4 * k+j]? =some u
 |[],_,_,_,_,hd=>by simp at hd
 |x::r,cs,0,d,h,hd=>by
  obtain ⟨c1,c2,rfl,h1,h2⟩:=h
  obtain rfl:x=d:=by simpa using hd
  refine ⟨c1,h1,fun j u hj=> ?_⟩
  rw [Nat.mul_zero,Nat.zero_add,List.getElem?_append_left (List.getElem?_eq_some_iff.1 hj).1]
  exact hj
 |x::r,cs,k+1,d,h,hd=>by
  obtain ⟨c1,c2,rfl,h1,h2⟩:=h
  have hl:=h4 x c1 h1
  obtain ⟨c,hc,hj⟩:=Rw.nth4 h4 r c2 k d h2 (by simpa using hd)
  refine ⟨c,hc,fun j u hu=> ?_⟩
  rw [List.getElem?_append_right (by omega),hl,show 4 * (k+1)+j - 4=4 * k+j by omega]
  exact hj j u hu
def fW (w:World) (t2 t3:TypeId) (uB:Value):World:=
 (w.alloc (.cells #[.int .i64 1,.string (bs []),.int .i64 1,.slice none 0 0] t2)).alloc
  (.cells #[.int .i64 14,.int .i64 0,.string (bs []),.string (bs []),.string (bs []),.int .i64 0,.slice (some ⟨w.heap.size,0,none⟩) 1 1,uB,.slice none 0 0] t3)
theorem fW_kp (w:World) (t2 t3:TypeId) (uB:Value):Kp [] w (fW w t2 t3 uB):=((Kp.refl [] w).alloc _).alloc _
theorem fW_sl {w:World} {P:Nat→Prop} {n:Nat} {body:List Sx.Tr} {uB:Value} (t2 t3:TypeId) (h:SL w P (n+2) body uB):
  SL (fW w t2 t3 uB) (fun b=>P b∨w.heap.size≤b) (n+3) [Kn.ifS body] (.slice (some ⟨w.heap.size+1,0,none⟩) 1 1):=by
 refine ⟨_,1,rfl,.inr ⟨w.heap.size+1,0,[.int .i64 14,.int .i64 0,.string (bs []),.string (bs []),.string (bs []),.int .i64 0,.slice (some ⟨w.heap.size,0,none⟩) 1 1,uB,.slice none 0 0],rfl,.inr (by omega),⟨_,[],(List.append_nil _).symm,⟨14,0,[],[],[],0,[Sx.tE 1 [] 1 []],body,[],_,_,_,rfl,rfl,?_,?_,?_⟩,rfl⟩,fun j u hu=> ?_⟩⟩
 ·refine ⟨_,1,rfl,.inr ⟨w.heap.size,0,rfl,.inr (Nat.le_refl _),fun i d hd=> ?_⟩⟩
  match i,hd with
  |0,hd=>
   cases hd
   exact ⟨1,[],1,[],.slice none 0 0,rfl,by simp [fW,go_sem],by simp [fW,go_sem],by simp [fW,go_sem],by simp [fW,go_sem],⟨none,0,rfl,.inl rfl⟩⟩
  |i+1,hd=>simp at hd
 ·exact (h.keep (fW_kp w t2 t3 uB) (by simp)).base (fun b _ hb=> .inl hb)
 ·exact Sl.nil _ _ _ none 0
 ·match j,hu with
  |0,hu=>cases hu;simp [fW,go_sem]
  |1,hu=>cases hu;simp [fW,go_sem]
  |2,hu=>cases hu;simp [fW,go_sem]
  |3,hu=>cases hu;simp [fW,go_sem]
  |4,hu=>cases hu;simp [fW,go_sem]
  |5,hu=>cases hu;simp [fW,go_sem]
  |6,hu=>cases hu;simp [fW,go_sem]
  |7,hu=>cases hu;simp [fW,go_sem]
  |8,hu=>cases hu;simp [fW,go_sem]
  |j+9,hu=>simp at hu
theorem zoj {w:World} {g o:Nat} (t2 t3:TypeId) (uB v:Value) (h:g<w.heap.size):
  (fW w t2 t3 uB).setCell ⟨g,o,none⟩ v=((w.setCell ⟨g,o,none⟩ v).alloc (.cells #[.int .i64 1,.string ⟨#[]⟩,.int .i64 1,.slice none 0 0] t2)).alloc
   (.cells #[.int .i64 14,.int .i64 0,.string ⟨#[]⟩,.string ⟨#[]⟩,.string ⟨#[]⟩,.int .i64 0,.slice (some ⟨w.heap.size,0,none⟩) 1 1,uB,.slice none 0 0] t3):=by
 unfold fW
 rw [World.setCell_alloc_past _ _ _ _ (by simp;omega),World.setCell_alloc_past _ _ _ _ h]
 rfl
theorem zok {n k:Nat} {l:List Sx.Tr} {w0 w:World} {B T g cap:Nat} {cs:List Value} {d:Sx.Tr} (t2 t3:TypeId) (h:Cy (n+2) l w0 w B T g cap cs) (hd:l[k]? =some d):
  ∃ at' uB,(∃ aB nB cB,uB= .slice aB nB cB)∧w.cell? ⟨g,4 * k+3,none⟩=some uB∧
    Sl (RG ((fW w t2 t3 uB).setCell ⟨g,4 * k+3,none⟩ (.slice (some ⟨w.heap.size+1,0,none⟩) 1 1)) (fun _=>True) (n+3)) ((fW w t2 t3 uB).setCell ⟨g,4 * k+3,none⟩ (.slice (some ⟨w.heap.size+1,0,none⟩) 1 1)) (fun _=>True)
     (l.set k (Kn.ifG d at')) (.slice (some ⟨g,0,none⟩) l.length cap)∧
    Kp [] w0 ((fW w t2 t3 uB).setCell ⟨g,4 * k+3,none⟩ (.slice (some ⟨w.heap.size+1,0,none⟩) 1 1)):=by
 have hcell: ∀ (j:Nat) u,cs[j]? =some u→w.cell? ⟨g,j,none⟩=some u:=fun j u hu=>by
  have:=h.cells j u hu
  rwa [Addr.add_mid,Nat.zero_add] at this
 have hgt:=h.lt
 have htop:=h.top
 have hup:=h.up
 have hlo:=h.lo
 obtain ⟨c,hc,hcc⟩: ∃ c,RG w (fun b=>B≤b∧b<T∧b ≠ g) (n+2) d c∧ ∀ j u,c[j]? =some u→cs[4 * k+j]? =some u:=Rw.nth4 RG.four l cs k d h.rw hd
 obtain ⟨nm,at',ps,body,uP,uB,rfl,rfl,hP,hB⟩:=hc
 have hu:w.cell? ⟨g,4 * k+3,none⟩=some uB:=hcell _ _ (hcc 3 uB rfl)
 refine ⟨at',uB,by obtain ⟨aB,cB,e⟩:=hB.slice;exact ⟨aB,_,cB,e⟩,hu,?_,?_⟩
 ·have kf:=fW_kp w t2 t3 uB
  have kz:Kp [g] (fW w t2 t3 uB) ((fW w t2 t3 uB).setCell ⟨g,4 * k+3,none⟩ (.slice (some ⟨w.heap.size+1,0,none⟩) 1 1)):=Kp.rb (Kp.refl _ _) _ _
  have hng: ∀ b,b ∈ [g]→ ¬ (B≤b∧b<T∧b ≠ g):=fun b hb hh=>hh.2.2 (by simpa using hb)
  refine ⟨_,cap,by rw [List.length_set],.inr ⟨g,0,cs.set (4 * k+3) (.slice (some ⟨w.heap.size+1,0,none⟩) 1 1),rfl,trivial,?_,fun j u hj=> ?_⟩⟩
  ·refine Rw.set (R:=RG w (fun b=>B≤b∧b<T∧b ≠ g) (n+2)) (fun x c hx=>(((hx.keep kf (by simp)).keep kz hng).base (fun _ _ _=>trivial)).more 1) RG.four l cs k h.rw (fun x c hx hc hj=> ?_)
   obtain ⟨nm2,at2,ps2,body2,uP2,uB2,e,rfl,hP2,hB2⟩:=hc
   rw [hd] at hx
   have e':=(Option.some.inj hx).trans e
   simp only [Sx.tG] at e'
   injection e' with e'
   simp only [List.cons.injEq] at e'
   obtain ⟨a1,a2,a3,a4,-⟩:=e'
   obtain rfl:nm=nm2:=by injection a1 with a1;injection a1
   obtain rfl:at'=at2:=by injection a2 with a2;injection a2
   obtain rfl:ps=ps2:=by injection a3
   refine ⟨nm,at',ps,[Kn.ifS body],uP2,_,rfl,rfl,?_,?_⟩
   ·exact (((hP2.keep kf (by simp) (fun _ _ h=>h)).keep kz hng (fun _ _ h=>h)).base (fun _ _ _=>trivial) (fun _ c h=>⟨h,by obtain ⟨_,_,_,rfl⟩:=h;simp⟩))
   ·exact ((fW_sl t2 t3 hB).keep kz (fun b hb hh=>by
     obtain rfl:b=g:=by simpa using hb
     rcases hh with hh|hh
     ·exact hh.2.2 rfl
     ·omega)).base (fun _ _ _=>trivial)
  ·rw [Nat.zero_add]
   by_cases hjk:j=4 * k+3
   ·subst hjk
    have hl:4 * k+3<cs.length:=(List.getElem?_eq_some_iff.1 (hcc 3 uB rfl)).1
    rw [List.getElem?_set] at hj
    simp only [if_true,if_pos hl,Option.some.injEq] at hj
    rw [←hj]
    exact World.cell?_setCell_same _ _ _ (kf.some hu (by simp))
   ·rw [List.getElem?_set_ne (by omega)] at hj
    rw [World.cell?_setCell_other _ _ _ _ (fun e=>hjk (by injection e with _ e;exact e.symm))]
    exact kf.some (hcell j u hj) (by simp)
 ·exact ((h.kp.trans (fW_kp w t2 t3 uB)).nb (by omega) _ _)
theorem zha {N K:Nat} {l:List Sx.Tr} (hs:Sm N l) (hg: ∀ (i:Nat) d,l[i]? =some d→Gnm N d) (hw8:Sx.wG N l≤8000) (h1:8000<K) (h2:K≤N) (h3:K≤1000002):
  Nm K l∧ ∀ (w':World) (P':Nat→Prop) (v':Value),Sl (RG w' P' N) w' P' l v'→Sl (RG w' P' K) w' P' l v':=by
 have hw: ∀ (i:Nat) d,l[i]? =some d→Sx.wS N (Sx.gB d)≤8000:=fun i d hd=>by
  have:=zca (fun d=>Sx.wS N (Sx.gB d)) hd
  have e:Sx.wG N l=Sx.sum (fun d=>Sx.wS N (Sx.gB d)) l:=rfl
  omega
 refine ⟨⟨h3,hs.len,hs.ps,fun i d hd=> ?_,fun i d hd=> ?_⟩,?_⟩
 ·exact Nat.le_trans (Rn.wS_le _ N _ h2) (Nat.le_trans (hw i d hd) (by decide))
 ·obtain ⟨g1,g2,g3⟩:=hg i d hd
  exact ⟨g1,g2,Rn.nmS_le _ N _ h2 g3⟩
 ·intro w' P' v' h'
  refine h'.mono' ?_
  rintro d c hd ⟨nm,at',ps,body,uP,uB,e1,e2,e3,e4⟩
  obtain ⟨i,hi⟩:=List.getElem?_of_mem hd
  have:=hw i d hi
  rw [e1] at this
  have this':Sx.wS N body≤8000:=this
  exact ⟨nm,at',ps,body,uP,uB,e1,e2,e3,e4.lower N K (by omega)⟩
theorem Rw.mem_mono {R R':Sx.Tr→List Value→Prop}: ∀ {l:List Sx.Tr} {cs:List Value},Rw R l cs→(∀ d c,d ∈ l→R d c→R' d c)→Rw R' l cs
 |[],_,h,_=>h
 |_::_,_,h,hR=>by
  obtain ⟨c1,c2,e,h1,h2⟩:=h
  exact ⟨c1,c2,e,hR _ c1 (List.mem_cons_self ..) h1,Rw.mem_mono h2 fun d c hd hc=>hR d c (List.mem_cons_of_mem _ hd) hc⟩
theorem Cy.lower {N K:Nat} {l:List Sx.Tr} {w0 w:World} {B T g cap:Nat} {cs:List Value} (h:Cy N l w0 w B T g cap cs) (hw8:Sx.wG N l≤8000) (hK:8000<K):Cy K l w0 w B T g cap cs:=by
 refine ⟨h.own,h.rw.mem_mono ?_,h.kp,h.lo,h.up,h.lt,h.top⟩
 rintro d c hd ⟨nm,at',ps,body,uP,uB,e1,e2,e3,e4⟩
 obtain ⟨i,hi⟩:=List.getElem?_of_mem hd
 have:=zca (fun d=>Sx.wS N (Sx.gB d)) hi
 have e:Sx.wG N l=Sx.sum (fun d=>Sx.wS N (Sx.gB d)) l:=rfl
 rw [e1] at this
 have this':Sx.wS N body≤Sx.sum (fun d=>Sx.wS N (Sx.gB d)) l:=Nat.le_trans (Nat.le_add_left _ _) this
 exact ⟨nm,at',ps,body,uP,uB,e1,e2,e3,e4.lower N K (by omega)⟩
theorem zn4 {n:Nat} {l:List Sx.Tr} (h:Nm (n+3) l) (hl:l.length≤100):Nm (n+3) (l++[Kn.zS]):=by
 have two: ∀ {Q:Sx.Tr→Prop},(∀ (i:Nat) d,l[i]? =some d→Q d)→Q Kn.zS→ ∀ (i:Nat) d,(l++[Kn.zS])[i]? =some d→Q d:=fun {Q} h1 h2 i d hd=>by
  by_cases hi:i<l.length
  ·rw [List.getElem?_append_left hi] at hd
   exact h1 i d hd
  ·rw [List.getElem?_append_right (by omega)] at hd
   cases hk:i - l.length with
   |zero=>rw [hk] at hd;obtain rfl:Kn.zS=d:=by simpa using hd
          exact h2
   |succ k=>rw [hk] at hd;simp at hd
 refine ⟨h.lv,by simp;omega,two h.ps (by decide),two h.ws (show 2≤1000000 by decide),two h.nm ⟨by decide,?_,?_⟩⟩
 ·intro i p hp
  cases i with
  |zero=>obtain rfl:Sx.tP [97] [105]=p:=by simpa [Kn.zS,Sx.gP,Sx.tG] using hp
         decide
  |succ i=>simp [Kn.zS,Sx.gP,Sx.tG] at hp
 ·intro i t ht
  cases i with
  |zero=>
   obtain rfl:Sx.tS 3 0 [] [] [] 0 [Sx.tE 2 [97] 0 []] [] []=t:=by simpa [Kn.zS,Sx.gB,Sx.tG] using ht
   refine ⟨by decide,by decide,by decide,fun j x hx=> ?_,zcd _,zcd _⟩
   cases j with
   |zero=>
    obtain rfl:Sx.tE 2 [97] 0 []=x:=by simpa [Sx.sE,Sx.tS] using hx
    exact ⟨by decide,fun i x hx=>by simp [Sx.eL,Sx.tE] at hx⟩
   |succ j=>simp [Sx.sE,Sx.tS] at hx
  |succ i=>simp [Kn.zS,Sx.gB,Sx.tG] at ht
theorem nm_if {n k:Nat} {l:List Sx.Tr} {d:Sx.Tr} {at':Int} (h:Nm (n+2) l) (h':Nm (n+3) l) (hd:l[k]? =some d) (hw:Sx.wS (n+2) (Sx.gB d)≤8000):Nm (n+3) (l.set k (Kn.ifG d at')):=by
 have two: ∀ {Q:Sx.Tr→Prop},(∀ (i:Nat) d,l[i]? =some d→Q d)→Q (Kn.ifG d at')→ ∀ (i:Nat) x,(l.set k (Kn.ifG d at'))[i]? =some x→Q x:=fun {Q} h1 h2 i x hx=>by
  rw [List.getElem?_set] at hx
  by_cases hk:k=i
  ·rw [if_pos hk] at hx
   split at hx
   ·obtain rfl:=Option.some.inj hx
    exact h2
   ·cases hx
  ·rw [if_neg hk] at hx
   exact h1 i x hx
 obtain ⟨g1,g2,g3⟩:=h.nm k d hd
 refine ⟨h'.lv,by rw [List.length_set];exact h'.len,two h'.ps (h.ps k d hd),two h'.ws ?_,two h'.nm ⟨g1,g2,?_⟩⟩
 ·have e:Sx.wS (n+3) (Sx.gB (Kn.ifG d at'))=2+Sx.wS (n+2) (Sx.gB d):=by
   show 1+((1+((0+0)+0)+Sx.wS (n+2) (Sx.gB d)+(0+0))+0)=_
   omega
  omega
 ·intro i t ht
  cases i with
  |zero=>
   obtain rfl:Kn.ifS (Sx.gB d)=t:=by simpa [Kn.ifG,Sx.gB,Sx.tG] using ht
   refine ⟨by simp [Kn.ifS,Sx.sH,Sx.tS],by simp [Kn.ifS,Sx.sH,Sx.tS],by simp [Kn.ifS,Sx.sH,Sx.tS],fun j x hx=> ?_,g3,zcd _⟩
   cases j with
   |zero=>
    obtain rfl:Sx.tE 1 [] 1 []=x:=by simpa [Kn.ifS,Sx.sE,Sx.tS] using hx
    exact ⟨by decide,fun i x hx=>by simp [Sx.eL,Sx.tE] at hx⟩
   |succ j=>simp [Kn.ifS,Sx.sE,Sx.tS] at hx
  |succ i=>simp [Kn.ifG,Sx.gB,Sx.tG] at ht
theorem kpick (x:Int) (n:Nat) (h0:0<n) (hn:n≤100): ∃ q:Nat,q<n∧wrap64 ((IntKind.u64.wrap x).tmod (n:Int))=(q:Int):=by
 have h0':0≤IntKind.u64.wrap x:=by rw [IntKind.wrap_u64];omega
 have h1:=Int.tmod_eq_emod_of_nonneg (b:=(n:Int)) h0'
 have h2:=Int.emod_nonneg (IntKind.u64.wrap x) (b:=(n:Int)) (by omega)
 have h3:=Int.emod_lt_of_pos (IntKind.u64.wrap x) (b:=(n:Int)) (by omega)
 rw [h1]
 generalize IntKind.u64.wrap x % (n:Int)=z at *
 refine ⟨z.toNat,by omega,?_⟩
 unfold wrap64
 omega
theorem gl_low {w:World} {P:Nat→Prop} {n:Nat} {l:List Sx.Tr} {v:Value} (h:Sl (RG w P n) w P l v):Sl (RG w (fun b=>b<w.heap.size) n) w (fun b=>b<w.heap.size) l v:=
 Sl.base (R:=RG w P n) h (fun b hb _=>hb) (fun d c hr=>⟨hr.base (fun b hb _=>hb),by obtain ⟨nm,at',ps,body,uP,uB,_,rfl,_⟩:=hr;simp⟩)
theorem gl_ft {w:World} {P:Nat→Prop} {n:Nat} {l:List Sx.Tr} {v:Value} (h:Sl (RG w P n) w P l v): ∀ g ∈ l,Kn.ftS n (Sx.gB g):=by
 intro g hg
 obtain ⟨k,hk⟩:=List.getElem?_of_mem hg
 obtain ⟨a,cap,hv,h⟩:=h
 rcases h with h|⟨b,off,cs,ha,hb,hr,hc⟩
 ·subst h
  simp at hk
 ·obtain ⟨c,⟨nm,at',ps,body,uP,uB,rfl,ec,hP,hB⟩,-⟩:=Rw.nth4 RG.four l cs k g hr hk
  exact Kn.ft_sl n body uB hB
theorem zn5 {l:List Sx.Tr} (h0:(Kn.vt 10000 l).1=0) (hz: ∀ g ∈ l,Sx.gN g ≠ [122,122,122]) (ht:(Rn.told 10000 (l++[Kn.zS])).1=0):Kn.vt 10000 (l++[Kn.zS])=(0,0):=by
 obtain ⟨o,ho⟩:=Kn.vt_ok h0
 obtain ⟨o',ho'⟩:=Kn.more_ok (n:=9998) ho hz ht
 exact Kn.vt_zero ho'
theorem zk9 {w:World} {P:Nat→Prop} {l:List Sx.Tr} {v:Value} {k:Nat} {g:Sx.Tr} {at':Int} (h0:(Kn.vt 10000 l).1=0) (hs:Sl (RG w P 10000) w P l v) (hg:l[k]? =some g) (ht:(Rn.told 10001 (l.set k (Kn.ifG g at'))).1=0):Kn.vt 10001 (l.set k (Kn.ifG g at'))=(0,0):=by
 obtain ⟨o,ho⟩:=Kn.vt_ok h0
 obtain ⟨o',ho'⟩:=Kn.around (n:=9999) ho (gl_ft hs) hg ht
 exact Kn.vt_zero ho'
theorem zn6 {l:List Sx.Tr} (h: ∀ g ∈ l,(Sx.gB g).length≤1000000): ∀ g ∈ l++[Kn.zS],(Sx.gB g).length≤1000000:=fun g hg=>by
 rcases List.mem_append.1 hg with h1|h1
 ·exact h g h1
 ·obtain rfl:g=Kn.zS:=by simpa using h1
  decide
theorem lb_if {l:List Sx.Tr} (h: ∀ g ∈ l,(Sx.gB g).length≤1000000) (k:Nat) (d:Sx.Tr) (at':Int): ∀ g ∈ l.set k (Kn.ifG d at'),(Sx.gB g).length≤1000000:=fun g hg=>by
 rcases List.mem_or_eq_of_mem_set hg with h1|rfl
 ·exact h g h1
 ·exact (by decide:(1:Nat)≤1000000)
end Go.Proofs.YtagblibbngmbdaaGreatDoor
set_option maxRecDepth 100000
set_option maxHeartbeats 2000000
namespace Go.Proofs.YtagblibbngmbdaaGreatDoor
open Go.RowKit
theorem zhg (x y:Value) (w:World):(Instr.field 30 (.agg #[x,y]) 0).run Tryz.prog w= .ok x w:=by kernel_rfl
theorem kmore_any (N:Nat) (hN:20000≤N) (w:World) (hT:Tb w) (P:Nat→Prop) (l:List Sx.Tr) (a:Option Addr) (cap:Nat) (h:Sl (RG w P N) w P l (.slice a l.length cap)) (hb:LbG N l) (hPw: ∀ b,P b→b<w.heap.size) (st:Int):
  Calls Tryz.prog 5 #[.agg #[.slice a l.length cap],.int .i64 st] w fun e w'=>e= .returned (.bool true)∧Kp [] w w':=by
 obtain ⟨i0,hi0,hz0,hz1,hz2⟩:=info_parts Tryz.infoStage
 have HT:=hide hT
 have H1:=hide h
 have HB:=hide hb
 have HPW:=hide hPw
 clear hT h hb hPw
 go_enter Tryz.func5,Tryz.ntmps5
 go_wp2_with fail
 refine (zjg _ (HT.out.kp ((Kp.refl _ _).alloc _))).mono ?_
 rintro e w1 ⟨rfl,hk1⟩
 have K1:Hid (Kp [] w w1):=hide (((Kp.refl [] _).alloc _).trans hk1)
 have x0:w1.cell? ⟨w.heap.size,0,none⟩=some (.slice a l.length cap):=hk1.some (by simp [go_sem]) (by simp)
 clear hk1
 go_wp2_with fail
 refine (zjf N _ P l a cap (GL.keep H1.out K1.out) HB.out).mono ?_
 rintro e w2 ⟨g,rfl,hg,hk2⟩
 have K2:=hide (K1.out.trans hk2)
 have y0:=hk2.some x0 (by simp)
 clear hk2 x0
 cases g with
 |true=>
  go_wp2
  go_ret
  exact ⟨rfl,K2.out⟩
 |false=>
  obtain ⟨⟨hs,hgn⟩,hw8,hl100⟩:=hg rfl
  have HNm:=hide (zha (K:=10000) hs hgn hw8 (by decide) (by omega) (by decide)).1
  have HNm1:=hide (zha (K:=10001) hs hgn hw8 (by decide) (by omega) (by decide)).1
  have HLow:=hide (zha (K:=10000) hs hgn hw8 (by decide) (by omega) (by decide)).2
  have HS:=hide hs
  clear hg hs hgn
  by_cases hl0:l.length=0
  ·have d0:((l.length:Int) == 0)=true:=by simp [hl0]
   go_wp2
   go_ret
   exact ⟨rfl,K2.out⟩
  ·have hl0':((l.length:Int) == 0)=false:=by simpa using hl0
   have hlB: ∀ g ∈ l,(Sx.gB g).length≤1000000:=fun g hg=>by
    obtain ⟨i,hi⟩:=List.getElem?_of_mem hg
    have h1:=HNm.out.ws i g hi
    have h2:(Sx.gB g).length≤Sx.wS 10000 (Sx.gB g):=Nat.le_add_right _ _
    exact Nat.le_trans h2 h1
   have CK:=hide (fun w' (k:Kp [] w w')=>zb6 10000 w' P l a cap (HT.out.kp k) (HLow.out _ _ _ (GL.keep H1.out k)) HNm.out (fun b hb=>Nat.lt_of_lt_of_le (HPW.out b hb) k.size) hlB)
   obtain ⟨F,hF⟩: ∃ F,Kn.vt 10000 l=F:=⟨_,rfl⟩
   rw [hF] at CK
   go_wp2_with fail
   refine (CK.out _ K2.out).mono ?_
   rintro e w3 ⟨rfl,hk3⟩
   have K3:=hide (K2.out.trans hk3)
   have z0:=hk3.some y0 (by simp)
   have hbz:=World.block_lt_of_cell? _ _ z0
   clear hk3 y0
   go_wp2_with fail
   refine (zb2 N _ P l a cap (GL.keep H1.out (K3.out.trans ((Kp.refl _ _).alloc _))) HS.out).mono ?_
   intro e w4 hco
   obtain ⟨B1,g1,cc1,cs1,rfl,hcy1,hkx1,hlo1⟩:=Cy.mk' (w0:=w3) hco ((Kp.refl _ _).alloc _) (Nat.pos_of_ne_zero hl0)
   have HC1:=hide (hcy1.lower (K:=10000) hw8 (by decide))
   have K4:=hide (K3.out.trans hcy1.kp)
   have u0:=hcy1.kp.some z0 (by simp)
   have u5:w4.cell? ⟨w3.heap.size,0,none⟩=some (.int .i64 F.1):=hkx1.some (by simp [go_sem]) (by simp)
   have hu0:=World.block_lt_of_cell? _ _ u0
   have hu5:=World.block_lt_of_cell? _ _ u5
   clear hcy1 hkx1 z0 hco
   have CZ2:=zW_cy 9997 (w4.alloc (.cells #[.slice (some ⟨g1,0,none⟩) l.length cc1] 24)) 44 49 51
   have CZ1:=HC1.out.keep (((Kp.refl [] w4).alloc (.cells #[.slice (some ⟨g1,0,none⟩) l.length cc1] 24)).trans (zW_kp _ 44 49 51))
   simp only [zW,World.size_alloc] at CZ1 CZ2
   have HZ1:=hide CZ1
   have HZ2:=hide CZ2
   clear CZ1 CZ2
   go_wp2_with (at_builtin;refine wpList_append_lies _ rfl _ _ 22 rfl B1 43 i0 (.agg #[.string ⟨#[]⟩,.int .i64 0,.slice none 0 0,.slice none 0 0]) 4 72 Tryz.underlying22 hi0 hz0 hz1 hz2 rfl (by decide) _ _ _ rfl (by exact HZ1.out.own) ⟨w4.heap.size+1+1+1+1,0,none⟩ 1 1 [.string (bs [122,122,122]),.int .i64 0,.slice (some ⟨w4.heap.size+1,0,none⟩) 1 1,.slice (some ⟨w4.heap.size+1+1+1,0,none⟩) 1 1] rfl rfl ?c1 ?c2 ?c3 ?c4 ?c5 ?c6 _ rfl ?_)
   case c1=>exact HZ2.out.cells
   case c2=>intro u hu;simp at hu;rcases hu with rfl|rfl|rfl|rfl<;> rfl
   case c3=>decide
   case c4=>unfold maxLen;omega
   case c5=>omega
   case c6=>
    have e1:=HC1.out.up
    have e2:=HC1.out.lt
    have e3:=HC1.out.top
    simp
    omega
   intro g9 cap9 w9 hown hgrow hat hlt9
   have e1:=HC1.out.up
   have e2:=HC1.out.lt
   have e3:=HC1.out.top
   have e4:=HC1.out.lo
   simp only [World.size_alloc] at hlo1
   have f9:w9.cell? ⟨w4.heap.size,0,none⟩=some (.slice (some ⟨g1,0,none⟩) l.length cc1):=hgrow.cell (by simp [go_sem]) (fun e=>by simp [Value.ownBlock] at e;omega)
   have z9:w9.frozen? ⟨w4.heap.size,0,none⟩=false:=(hgrow.frozen_far ⟨w4.heap.size,0,none⟩ (by simp;omega) (fun e=>by simp [Value.ownBlock] at e;omega)).trans (by simp [go_sem])
   have hbb:(w4.heap.size<B1∨(w4.heap.size≤w4.heap.size∧w4.heap.size<w4.heap.size+1)∨w4.heap.size+1+4≤w4.heap.size)∧w4.heap.size ≠ g9:=by
    refine ⟨.inr (.inl ⟨Nat.le_refl _,by omega⟩),?_⟩
    rcases hat with h|h
    ·simp [Value.ownBlock] at h;omega
    ·omega
   have HQ:=zne HZ1.out HZ2.out (by simp) hown hgrow hbb f9 (by omega)
   simp only [List.length_singleton] at HQ
   obtain ⟨HQ1,HQ2,HQ3⟩:=HQ
   have K5:=hide (K3.out.trans HQ2.out)
   have kz:=((((Kp.refl [] w4).alloc (.cells #[.slice (some ⟨g1,0,none⟩) l.length cc1] 24)).trans (zW_kp _ 44 49 51)))
   simp only [zW,World.size_alloc] at kz
   have v0:(w9.setCell ⟨w4.heap.size,0,none⟩ (.slice (some ⟨g9,0,none⟩) (l.length+1) cap9)).cell? ⟨w.heap.size,0,none⟩=some (.slice a l.length cap):=by
    rw [World.cell?_setCell_other _ _ _ _ (fun e=>by injection e with e;omega)]
    exact hgrow.cell (kz.some u0 (by simp)) (fun e=>by simp [Value.ownBlock] at e;omega)
   have v5:(w9.setCell ⟨w4.heap.size,0,none⟩ (.slice (some ⟨g9,0,none⟩) (l.length+1) cap9)).cell? ⟨w3.heap.size,0,none⟩=some (.int .i64 F.1):=by
    rw [World.cell?_setCell_other _ _ _ _ (fun e=>by injection e with e;omega)]
    exact hgrow.cell (kz.some u5 (by simp)) (fun e=>by simp [Value.ownBlock] at e;omega)
   clear hown hgrow hat kz u0 u5 HZ1 HZ2 HQ2 hbb
   go_wp2_with fail
   refine (zb2 N _ P l a cap (GL.keep H1.out K5.out) HS.out).mono ?_
   intro e w6 hco
   obtain ⟨B2,g2,cc2,cs2,rfl,hcy2,-,-⟩:=Cy.mk' (w0:=w9.setCell ⟨w4.heap.size,0,none⟩ (.slice (some ⟨g9,0,none⟩) (l.length+1) cap9)) hco (Kp.refl _ _) (Nat.pos_of_ne_zero hl0)
   have HC2:=hide (hcy2.lower (K:=10000) hw8 (by decide))
   have x0:=hcy2.kp.some v0 (by simp)
   have V0:=hide v0
   have V5:=hide v5
   have V4:=hide HQ1
   have hx0:=World.block_lt_of_cell? _ _ x0
   clear hcy2 v0 v5 HQ1 hco f9 z9
   obtain ⟨kk,hkk,hke⟩:=kpick st l.length (Nat.pos_of_ne_zero hl0) hl100
   go_wp2_with fail
   obtain ⟨W7,hW7⟩: ∃ W7,w6.alloc (.cells #[.slice (some ⟨g2,0,none⟩) l.length cc2] 24)=W7:=⟨_,rfl⟩
   have k7:Kp [] w6 W7:=by rw [←hW7];exact (Kp.refl _ _).alloc _
   have r0:W7.cell? ⟨w6.heap.size,0,none⟩=some (.slice (some ⟨g2,0,none⟩) l.length cc2):=by rw [←hW7];simp [go_sem]
   obtain ⟨d,hd⟩: ∃ d,l[kk]? =some d:=⟨_,List.getElem?_eq_getElem hkk⟩
   obtain ⟨at',uB,⟨aB,nB,cB,rfl⟩,b0,hSl7,hKp7⟩:=zok (n:=9998) 49 51 (HC2.out.keep k7) hd
   rw [show 4 * kk+3=kk * 4+3 by omega] at b0 hSl7 hKp7
   have hg2:g2<W7.heap.size:=World.block_lt_of_cell? _ _ b0
   have hr6:=World.block_lt_of_cell? _ _ r0
   have hne:g2<w6.heap.size:=Nat.lt_of_lt_of_le HC2.out.lt HC2.out.top
   have hk1:(0:Int)≤(kk:Int):=Int.natCast_nonneg _
   have hk2:(kk:Int)<(l.length:Int):=by omega
   have c8:=(fW_kp W7 49 51 (.slice aB nB cB)).some b0 (by simp)
   have z8:=((fW_kp W7 49 51 (.slice aB nB cB)).frozen (p:=⟨g2,kk * 4+3,none⟩) hg2 (by simp)).trans ((zc2 (HC2.out.keep k7).own).2.1 _)
   have r8:=(fW_kp W7 49 51 (.slice aB nB cB)).some r0 (by simp)
   have R8:=hide ((World.cell?_setCell_other (fW W7 49 51 (.slice aB nB cB)) ⟨g2,kk * 4+3,none⟩ ⟨w6.heap.size,0,none⟩ (.slice (some ⟨W7.heap.size+1,0,none⟩) 1 1) (fun e=>by injection e with e;omega)).trans r8)
   have HS7:=hide hSl7
   have HK7:=hide hKp7
   have ka:=(Kp.refl [] W7).alloc (.cells #[.int .i64 1,.string (bs []),.int .i64 1,.slice none 0 0] 49)
   have r7:=ka.some r0 (by simp)
   have b7:=ka.some b0 (by simp)
   unfold fW bs at c8 z8 r8
   unfold bs at r7 b7
   have HE:=hide (zoj (o:=kk * 4+3) 49 51 (.slice aB nB cB) (.slice (some ⟨W7.heap.size+1,0,none⟩) 1 1) hg2)
   rw [hke,hW7]
   clear ka hSl7 hKp7 x0 hke hW7 HC1 HC2 k7
   go_region
   rw [←HE.out]
   generalize (fW W7 49 51 (.slice aB nB cB)).setCell ⟨g2,kk * 4+3,none⟩ (.slice (some ⟨W7.heap.size+1,0,none⟩) 1 1)=X8 at *
   clear c8 z8 r8 r7 b7 r0 b0 HE
   have kd:=(Kp.refl [] X8).drew
   generalize X8.drew=V at *
   have kV:=HK7.out.trans kd
   have KV:=hide (K5.out.trans kV)
   have p0:=kV.some V0.out (by simp)
   have pF:=kV.some V5.out (by simp)
   have pq:=kV.some V4.out (by simp)
   have pr:=kd.some R8.out (by simp)
   have HPV:=hide (GL.keep H1.out KV.out)
   have HLV:=hide (gl_low (HLow.out _ _ _ HPV.out))
   have HQV:=hide (gl_low (GL.keep HQ3.out kV))
   have HRV:=hide (gl_low (GL.keep HS7.out kd))
   have hp0:=World.block_lt_of_cell? _ _ p0
   clear kV kd HK7 V0 V5 V4 R8 HS7 HQ3
   by_cases hF0:F.1=0
   ·have d1:(F.1 == 0)=true:=by simpa using hF0
    have h0:Hid ((Kn.vt 10000 l).1=0):=hide (by rw [hF];exact hF0)
    obtain ⟨TQ,hTQ⟩: ∃ TQ,Rn.told 10000 (l++[Kn.zS])=TQ:=⟨_,rfl⟩
    obtain ⟨TR,hTR⟩: ∃ TR,Rn.told 10001 (l.set kk (Kn.ifG d at'))=TR:=⟨_,rfl⟩
    have lq:(l++[Kn.zS]).length=l.length+1:=by simp
    have lr:(l.set kk (Kn.ifG d at')).length=l.length:=List.length_set
    have NQ:=hide (zn4 (n:=9997) HNm.out hl100)
    have NR:=hide (nm_if (n:=9998) (at':=at') HNm.out HNm1.out hd (Nat.le_trans (Rn.wS_le _ N _ (by omega)) (Nat.le_trans (Nat.le_trans (Nat.le_add_left _ _) (zca (fun d=>Sx.wS N (Sx.gB d)) hd)) hw8)))
    have CRq:Hid (∀ W,Kp [] V W→Calls Tryz.prog 15 #[.agg #[.slice (some ⟨g9,0,none⟩) (l.length+1) cap9]] W fun e w'=>e= .returned (.agg #[.int .i64 TQ.1,.int .i64 TQ.2])∧Kp [] W w'):=hide fun W hk=>by
     have:=zb3 10000 W _ (l++[Kn.zS]) (some ⟨g9,0,none⟩) cap9 (HT.out.kp (KV.out.trans hk)) (by rw [lq];exact GL.keep HQV.out hk) NQ.out
     rw [lq,hTQ] at this
     exact this
    have CKq:Hid (∀ W,Kp [] V W→Calls Tryz.prog 11 #[.agg #[.slice (some ⟨g9,0,none⟩) (l.length+1) cap9]] W fun e w'=>e= .returned (.agg #[.int .i64 (Kn.vt 10000 (l++[Kn.zS])).1,.int .i64 (Kn.vt 10000 (l++[Kn.zS])).2])∧Kp [] W w'):=hide fun W hk=>by
     have:=zb6 10000 W _ (l++[Kn.zS]) (some ⟨g9,0,none⟩) cap9 (HT.out.kp (KV.out.trans hk)) (by rw [lq];exact GL.keep HQV.out hk) NQ.out (fun b hb=>Nat.lt_of_lt_of_le hb hk.size) (zn6 hlB)
     rw [lq] at this
     exact this
    have CRr:Hid (∀ W,Kp [] V W→Calls Tryz.prog 15 #[.agg #[.slice (some ⟨g2,0,none⟩) l.length cc2]] W fun e w'=>e= .returned (.agg #[.int .i64 TR.1,.int .i64 TR.2])∧Kp [] W w'):=hide fun W hk=>by
     have:=zb3 10001 W _ (l.set kk (Kn.ifG d at')) (some ⟨g2,0,none⟩) cc2 (HT.out.kp (KV.out.trans hk)) (by rw [lr];exact GL.keep HRV.out hk) NR.out
     rw [lr,hTR] at this
     exact this
    have CKr:Hid (∀ W,Kp [] V W→Calls Tryz.prog 11 #[.agg #[.slice (some ⟨g2,0,none⟩) l.length cc2]] W fun e w'=>e= .returned (.agg #[.int .i64 (Kn.vt 10001 (l.set kk (Kn.ifG d at'))).1,.int .i64 (Kn.vt 10001 (l.set kk (Kn.ifG d at'))).2])∧Kp [] W w'):=hide fun W hk=>by
     have:=zb6 10001 W _ (l.set kk (Kn.ifG d at')) (some ⟨g2,0,none⟩) cc2 (HT.out.kp (KV.out.trans hk)) (by rw [lr];exact GL.keep HRV.out hk) NR.out (fun b hb=>Nat.lt_of_lt_of_le hb hk.size) (lb_if hlB kk d at')
     rw [lr] at this
     exact this
    have hVq:Hid (TQ.1=0→(∀ g ∈ l,Sx.gN g ≠ [122,122,122])→Kn.vt 10000 (l++[Kn.zS])=(0,0)):=hide fun h1 h2=>zn5 h0.out h2 (by rw [hTQ];exact h1)
    have hVr:Hid (TR.1=0→Kn.vt 10001 (l.set kk (Kn.ifG d at'))=(0,0)):=hide fun h1=>zk9 h0.out HLV.out hd (by rw [hTR];exact h1)
    clear hTQ hTR lq lr NQ NR HNm HNm1 hlB HLow hF HQV HRV HLV
    generalize Kn.vt 10000 (l++[Kn.zS])=VQ at *
    generalize Kn.vt 10001 (l.set kk (Kn.ifG d at'))=VR at *
    have HL:=hide HPV
    go_wp2
    go_loopw [9,10] (fun tv iv wr=> ∃ (i:Nat) (b:Bool),i≤l.length∧tv= .bool b∧iv= .int .i64 i∧wr=V∧Hid (b=(l.take i).any fun g=>Sx.gN g == [122,122,122])) (fun tv iv _=>l.length - (intOf iv).toNat)
    case atStart=>exact ⟨0,false,Nat.zero_le _,rfl,rfl,rfl,hide rfl⟩
    case round=>
     obtain ⟨i,b,hil,rfl,rfl,hwr,HB2⟩:=hrel
     subst wr
     by_cases hlt:i<l.length
     ·have d2:decide ((i:Int)<(l.length:Int))=true:=by simp;omega
      obtain ⟨bb,off,nm,at2,ps,body,uP,uB2,rfl,-,hdi,m0,-,-,-,-,-⟩:=GL.nth HPV.out i hlt
      have hi1:(0:Int)≤(i:Int):=by omega
      have hi2:(i:Int)<(l.length:Int):=by omega
      have e2:((bs nm).toList == [122,122,122])=(nm == [122,122,122]):=by rw [bsl]
      have HN2:Hid ((b || (nm == [122,122,122]))=(l.take (i+1)).any fun g=>Sx.gN g == [122,122,122]):=hide (by
       rw [HB2.out,List.take_add_one,hdi,List.any_append]
       simp [Sx.gN,Sx.tG])
      generalize (nm == [122,122,122])=zz at *
      clear hdi HB2
      cases b with
      |true=>
       go_wp2
       go_roundw
       case rel=>exact ⟨i+1,true,by omega,rfl,by go_num,trivial,HN2⟩
       case measure=>simp [intOf];omega
      |false=>
       go_wp2
       go_roundw
       case rel=>exact ⟨i+1,zz,by omega,rfl,by go_num,trivial,HN2⟩
       case measure=>simp [intOf];omega
     ·obtain rfl:i=l.length:=by omega
      have d2:decide ((l.length:Int)<(l.length:Int))=false:=by simp
      have HZ:Hid (b=false→ ∀ g ∈ l,Sx.gN g ≠ [122,122,122]):=hide (fun hb g hg e=>by
       rw [HB2.out,List.take_length] at hb
       have:=List.any_eq_false.1 hb g hg
       rw [e] at this
       simp at this)
      clear HB2
      have hfd:=zhg
      by_cases q0:TQ.1=0
      ·have dq:(TQ.1 == 0)=true:=by simpa using q0
       cases b with
       |true=>
        go_wp2_with fail
        refine (CRq.out _ (Kp.refl _ _)).mono ?_
        rintro e w8 ⟨rfl,hk8⟩
        have K8:Hid (Kp [] V w8):=hide hk8
        clear hk8
        have pr8:=K8.out.some pr (by simp)
        by_cases q1:TR.1=0
        ·have dr:(TR.1 == 0)=true:=by simpa using q1
         obtain rfl:VR=(0,0):=hVr.out q1
         go_wp2_with fail
         refine (CRr.out _ K8.out).mono ?_
         rintro e w10 ⟨rfl,hk10⟩
         have K10:=hide (K8.out.trans hk10)
         have pr10:=hk10.some pr8 (by simp)
         clear hk10
         go_wp2_with fail
         refine (CKr.out _ K10.out).mono ?_
         rintro e w11 ⟨rfl,hk11⟩
         have K11:=hide (K10.out.trans hk11)
         clear hk11
         go_wp2
         go_ret
         exact ⟨rfl,KV.out.trans K11.out⟩
        ·have dr:(TR.1 == 0)=false:=by simpa using q1
         go_wp2_with fail
         refine (CRr.out _ K8.out).mono ?_
         rintro e w10 ⟨rfl,hk10⟩
         have K10:=hide (K8.out.trans hk10)
         clear hk10
         go_wp2
         go_ret
         exact ⟨rfl,KV.out.trans K10.out⟩
       |false=>
        obtain rfl:VQ=(0,0):=hVq.out q0 (HZ.out rfl)
        go_wp2_with fail
        refine (CRq.out _ (Kp.refl _ _)).mono ?_
        rintro e w8a ⟨rfl,hk8⟩
        have K8a:Hid (Kp [] V w8a):=hide hk8
        have pq8:=hk8.some pq (by simp)
        clear hk8
        go_wp2_with fail
        refine (CKq.out _ K8a.out).mono ?_
        rintro e w8 ⟨rfl,hk8⟩
        have K8:Hid (Kp [] V w8):=hide (K8a.out.trans hk8)
        clear hk8
        have pr8:=K8.out.some pr (by simp)
        by_cases q1:TR.1=0
        ·have dr:(TR.1 == 0)=true:=by simpa using q1
         obtain rfl:VR=(0,0):=hVr.out q1
         go_wp2_with fail
         refine (CRr.out _ K8.out).mono ?_
         rintro e w10 ⟨rfl,hk10⟩
         have K10:=hide (K8.out.trans hk10)
         have pr10:=hk10.some pr8 (by simp)
         clear hk10
         go_wp2_with fail
         refine (CKr.out _ K10.out).mono ?_
         rintro e w11 ⟨rfl,hk11⟩
         have K11:=hide (K10.out.trans hk11)
         clear hk11
         go_wp2
         go_ret
         exact ⟨rfl,KV.out.trans K11.out⟩
        ·have dr:(TR.1 == 0)=false:=by simpa using q1
         go_wp2_with fail
         refine (CRr.out _ K8.out).mono ?_
         rintro e w10 ⟨rfl,hk10⟩
         have K10:=hide (K8.out.trans hk10)
         clear hk10
         go_wp2
         go_ret
         exact ⟨rfl,KV.out.trans K10.out⟩
      ·have dq:(TQ.1 == 0)=false:=by simpa using q0
       go_wp2_with fail
       refine (CRq.out _ (Kp.refl _ _)).mono ?_
       rintro e w8 ⟨rfl,hk8⟩
       have K8:Hid (Kp [] V w8):=hide hk8
       clear hk8
       have pr8:=K8.out.some pr (by simp)
       by_cases q1:TR.1=0
       ·have dr:(TR.1 == 0)=true:=by simpa using q1
        obtain rfl:VR=(0,0):=hVr.out q1
        go_wp2_with fail
        refine (CRr.out _ K8.out).mono ?_
        rintro e w10 ⟨rfl,hk10⟩
        have K10:=hide (K8.out.trans hk10)
        have pr10:=hk10.some pr8 (by simp)
        clear hk10
        go_wp2_with fail
        refine (CKr.out _ K10.out).mono ?_
        rintro e w11 ⟨rfl,hk11⟩
        have K11:=hide (K10.out.trans hk11)
        clear hk11
        go_wp2
        go_ret
        exact ⟨rfl,KV.out.trans K11.out⟩
       ·have dr:(TR.1 == 0)=false:=by simpa using q1
        go_wp2_with fail
        refine (CRr.out _ K8.out).mono ?_
        rintro e w10 ⟨rfl,hk10⟩
        have K10:=hide (K8.out.trans hk10)
        clear hk10
        go_wp2
        go_ret
        exact ⟨rfl,KV.out.trans K10.out⟩
   ·have d1:(F.1 == 0)=false:=by simpa using hF0
    go_wp2
    go_ret
    exact ⟨rfl,KV.out⟩
end Go.Proofs.YtagblibbngmbdaaGreatDoor
