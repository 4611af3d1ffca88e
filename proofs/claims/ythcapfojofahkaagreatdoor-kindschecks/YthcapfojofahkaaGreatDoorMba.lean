import Derived.Lib.ItoaLen
import Derived.Test.YthcapfojofahkaaGreatDoorMax
import Derived.Test.YthcapfojofahkaaGreatDoorMay
import Derived.Test.YthcapfojofahkaaGreatDoorMaz
import Derived.Deep.RegionHeldLaw
namespace Go.Proofs.YthcapfojofahkaaGreatDoor
open Go.RowKit
theorem Rn.isN_len {l:List UInt8} (h:Tk.isN l=true):l.length≤12:=by
 unfold Tk.isN at h
 simp only [Bool.and_eq_true,decide_eq_true_eq] at h
 exact h.1.1.1.2
theorem Rn.digs_len {z:Int} (h0:0≤z) (h1:z<1000000000000000000):(Rn.digs z).length≤21:=Lib.itoa_length_le z (by omega) (by omega)
theorem Rn.brk_len (b:Bool) (x:List UInt8):(Rn.brk b x).length≤x.length+2:=by
 unfold Rn.brk
 cases b<;> simp
theorem Rn.sign_len (op:Int):(Rn.sign op).length≤4:=by
 unfold Rn.sign
 split
 ·simp
 ·split
  ·simp
  ·split
   ·simp
   ·split<;> simp
theorem Rn.xt_len (n:Nat): ∀ (must:Nat) (d:Sx.Tr),Rn.xf n d=0→(Rn.xt n must d).length≤30 * Rn.prt n d:=by
 induction n with
 |zero=>intro must d _;simp [Rn.xt]
 |succ n ih=>
  intro must d h
  rcases he:Sx.eH d with ⟨op,nm,z⟩
  have hx:Rn.xf (n+1) d=if op<1∨8<op∨(Sx.eL d).length ≠ Rn.want op∨(z ≠ 0∧op ≠ 1)∨(nm ≠ []∧op ≠ 2) then (5:Int)
   else if op=2∧Tk.isN nm=false then 4
   else if z<0∨1000000000000000000≤z then 3
   else Rn.firstOf (Rn.xf n) (Sx.eL d):=by simp only [Rn.xf,he]
  rw [hx] at h
  split at h
  ·cases h
  rename_i hb
  split at h
  ·cases h
  rename_i hn
  split at h
  ·cases h
  rename_i hz
  have hs:=Rn.firstOf_zero h
  have hl:(Sx.eL d).length=Rn.want op:=Decidable.byContradiction fun hc=>hb (.inr (.inr (.inl hc)))
  have e:Rn.xt (n+1) must d=Rn.brk (decide (Rn.holds op<must)) (if op=1 then Rn.digs z else if op=2 then nm else if op=3 then [45]++Rn.xt n 3 ((Sx.eL d).headD Sx.d0)
   else Rn.xt n (Rn.lft op) ((Sx.eL d).headD Sx.d0)++Rn.sign op++Rn.xt n (Rn.holds op+1) ((Sx.eL d).tail.headD Sx.d0)):=by simp only [Rn.xt,he]
  rw [e]
  refine Nat.le_trans (Rn.brk_len _ _) ?_
  have hp:Rn.prt (n+1) d=1+Sx.sum (Rn.prt n) (Sx.eL d):=by unfold Rn.prt;rw [Rn.wE_prt];rfl
  rw [hp]
  generalize Sx.eL d=L at *
  by_cases h1:op=1
  ·rw [if_pos h1]
   have:=Rn.digs_len (z:=z) (by omega) (by omega)
   omega
  rw [if_neg h1]
  by_cases h2:op=2
  ·rw [if_pos h2]
   have hN:Tk.isN nm=true:=by
    cases hh:Tk.isN nm with
    |true=>rfl
    |false=>exact absurd ⟨h2,hh⟩ hn
   have:=Rn.isN_len hN
   omega
  rw [if_neg h2]
  by_cases h3:op=3
  ·rw [if_pos h3]
   subst h3
   have hl1:L.length=1:=hl
   obtain ⟨d1,rfl⟩:=List.length_eq_one_iff.1 hl1
   have:=ih 3 d1 (hs d1 (by simp))
   simp only [List.headD_cons,List.length_append,Sx.sum,List.length_cons,List.length_nil]
   omega
  ·rw [if_neg h3]
   have hl2:L.length=2:=by rw [hl,Rn.want_op (by omega)]
   match L,hl2 with
   |[d1,d2],_=>
    have a1:=ih (Rn.lft op) d1 (hs d1 (by simp))
    have a2:=ih (Rn.holds op+1) d2 (hs d2 (by simp))
    have a3:=Rn.sign_len op
    simp only [List.headD_cons,List.tail_cons,List.length_append,Sx.sum]
    omega
theorem Rn.com_len {c:Nat} (l:List (List UInt8)) (h: ∀ s ∈ l,s.length≤c):(Rn.com l).length≤l.length * (c+2):=by
 induction l with
 |nil=>simp [Rn.com]
 |cons a r ih=>
  have h1:=h a (by simp)
  have h2:=ih (fun s hs=>h s (by simp [hs]))
  cases r with
  |nil=>show a.length≤(0+1) * (c+2);omega
  |cons b t=>
   show (a++[44,32]++Rn.com (b::t)).length≤_
   simp only [List.length_append,List.length_cons,List.length_nil] at h2 ⊢
   rw [Nat.add_mul (t.length+1) 1]
   omega
theorem Rn.ahead_len {n:Nat} {D at':Int} {A B T:List UInt8} {N:Int} {E body els:List Sx.Tr} (h:Rn.Okf n D A B T N E body els):(Rn.ahead n (Sx.tS D at' A B T N E body els)).length≤4000:=by
 have hA:A.length≤12:=by
  cases hh:Rn.hasA D with
  |true=>exact Rn.isN_len (h.naA hh)
  |false=>rw [h.nilA hh];simp
 have hB:B.length≤12:=by
  cases hh:Rn.hasB D with
  |true=>exact Rn.isN_len (h.naB hh)
  |false=>rw [h.nilB hh];simp
 have hT:(Rn.tyw T).length≤20:=by have:=Rn.tyw_len T;have:=h.tl;omega
 have hN:(Rn.digs N).length≤21:=Rn.digs_len h.n0 h.n1
 have hE:(Rn.com (E.map (Rn.xt n 0))).length≤3700:=by
  have:=Rn.com_len (c:=600) (E.map (Rn.xt n 0)) (by
   intro s hs
   obtain ⟨d,hd,rfl⟩:=List.mem_map.1 hs
   obtain ⟨i,hi⟩:=List.getElem?_of_mem hd
   have h1:=Rn.xt_len n 0 d (h.xs i d hi)
   have h2:=h.prt i d hi
   omega)
  rw [List.length_map] at this
  have h6:=h.few
  have:E.length * (600+2)≤6 * 602:=Nat.mul_le_mul_right 602 h6
  omega
 have hd1:=h.d1
 have hd2:=h.d2
 clear h
 rcases Rn.kinds hd1 hd2 with rfl|rfl|rfl|rfl|rfl|rfl|rfl|rfl|rfl|rfl|rfl|rfl|rfl|rfl
 all_goals (simp [Rn.ahead,Sx.sH,Sx.tS,Sx.sE];try omega)
theorem Rn.cat_len {g:Sx.Tr→List UInt8} {c:Sx.Tr→Nat} (l:List Sx.Tr) (h: ∀ t ∈ l,(g t).length≤c t):(Rn.cat g l).length≤Sx.sum c l:=by
 induction l with
 |nil=>simp [Rn.cat,Sx.sum]
 |cons a r ih=>
  have h1:=h a (by simp)
  have h2:=ih (fun s hs=>h s (by simp [hs]))
  simp only [Rn.cat,Sx.sum,List.length_append]
  omega
theorem Rn.sum_mul (f:Sx.Tr→Nat) (q:Nat) (l:List Sx.Tr):Sx.sum (fun t=>(1+f t) * q) l=(l.length+Sx.sum f l) * q:=by
 induction l with
 |nil=>simp [Sx.sum]
 |cons a r ih=>
  simp only [Sx.sum,List.length_cons]
  rw [ih,←Nat.add_mul]
  congr 1
  omega
theorem SL.at {w:World} {P:Nat→Prop} {n:Nat} {l:List Sx.Tr} {v:Value} (h:SL w P (n+1) l v) {t:Sx.Tr} (ht:t ∈ l): ∃ D at' A B T N E body els uB uL,t=Sx.tS D at' A B T N E body els∧SL w P n body uB∧SL w P n els uL:=by
 obtain ⟨i,hi⟩:=List.getElem?_of_mem ht
 obtain ⟨a,cap,rfl⟩:=h.slice
 obtain ⟨b,off,D,at',A,B,T,N,E,body,els,uE,uB,uL,-,-,hd,-,-,-,-,-,-,-,-,-,-,hB,hL⟩:=h.nth i (List.getElem?_eq_some_iff.1 hi).1
 rw [hi] at hd
 cases hd
 exact ⟨D,at',A,B,T,N,E,body,els,uB,uL,rfl,hB,hL⟩
theorem Rn.blt_len (n:Nat): ∀ (w:World) (P:Nat→Prop) (l:List Sx.Tr) (v:Value) (k Q:Nat),SL w P n l v→Rn.okB n l→5000+3 * (k+n)≤Q→(Rn.blt n k l).length≤3+k+Sx.wS n l * Q:=by
 induction n with
 |zero=>intro w P l v k Q h;cases h
 |succ n ih=>
  intro w P l v k Q h ho hQ
  rw [Rn.blt_st]
  have hc:=Rn.cat_len (g:=Rn.st1 n (k+1)) (c:=fun d=>(1+(Sx.wE n (Sx.sE d)+Sx.wS n (Sx.sB d)+Sx.wS n (Sx.sO d))) * Q) l (by
   intro t ht
   obtain ⟨⟨deep,o1⟩,o2,o3⟩:=Rn.okB_each ho t ht
   obtain ⟨D,at',A,B,T,N,E,body,els,uB,uL,rfl,hB,hL⟩:=h.at ht
   have h1:=Rn.ahead_len (at':=at') (Rn.okf o1)
   have h2:=ih w P body uB (k+1) Q hB o2 (by omega)
   have h3:=ih w P els uL (k+1) Q hL o3 (by omega)
   show (Rn.tabs (k+1)++Rn.ahead n (Sx.tS D at' A B T N E body els)++(if Rn.hasS D then Rn.blt n (k+1) body++Rn.els1 n (k+1) els else [])++[10]).length≤(1+(Sx.wE n E+Sx.wS n body+Sx.wS n els)) * Q
   have h4:(if Rn.hasS D then Rn.blt n (k+1) body++Rn.els1 n (k+1) els else []).length≤(Rn.blt n (k+1) body).length+6+(Rn.blt n (k+1) els).length:=by
    split
    ·rw [List.length_append]
     unfold Rn.els1
     split
     ·simp;omega
     ·simp only [List.length_append,List.length_cons,List.length_nil];omega
    ·simp
   simp only [List.length_append,Rn.tabs,List.length_replicate,List.length_cons,List.length_nil]
   rw [Nat.add_mul,Nat.add_mul,Nat.add_mul,Nat.one_mul]
   have h5:0≤Sx.wE n E * Q:=Nat.zero_le _
   omega)
  rw [Rn.sum_mul] at hc
  have e:Sx.wS (n+1) l=l.length+Sx.sum (fun d=>Sx.wE n (Sx.sE d)+Sx.wS n (Sx.sB d)+Sx.wS n (Sx.sO d)) l:=rfl
  rw [e]
  simp only [List.length_append,Rn.tabs,List.length_replicate,List.length_cons,List.length_nil]
  omega
end Go.Proofs.YthcapfojofahkaaGreatDoor
namespace Go.Proofs.YthcapfojofahkaaGreatDoor
open Go.RowKit
theorem Rn.gf_each (n:Nat) (l:List Sx.Tr): ∀ (i a b:Nat),Rn.gf n i a l= .inl b→ ∀ g ∈ l,Rn.hf g=0∧Rn.okB n (Sx.gB g):=by
 induction l with
 |nil=>intro i a b _ g hg;cases hg
 |cons d r ih=>
  intro i a b h g hg
  have h':(if Rn.hf d ≠ 0 then .inr (Rn.hf d,-2 - (i:Int)) else Rn.thn (Rn.bf n 1 a (Sx.gB d)) fun b=>Rn.gf n (i+1) b r)= .inl b:=h
  split at h'
  ·cases h'
  ·rename_i h1
   obtain ⟨c,h3,h4⟩:=Rn.thn_le h'
   rcases List.mem_cons.1 hg with rfl|hg
   ·exact ⟨Decidable.byContradiction h1,⟨_,_,_,h3⟩⟩
   ·exact ih _ _ _ h4 g hg
theorem Rn.gf_ne (n:Nat) (l:List Sx.Tr): ∀ (i a:Nat) (f:Int × Int),Rn.gf n i a l= .inr f→f.1 ≠ 0:=by
 induction l with
 |nil=>intro i a f h;cases h
 |cons d r ih=>
  intro i a f h
  have h':(if Rn.hf d ≠ 0 then .inr (Rn.hf d,-2 - (i:Int)) else Rn.thn (Rn.bf n 1 a (Sx.gB d)) fun b=>Rn.gf n (i+1) b r)= .inr f:=h
  split at h'
  ·rename_i h1;cases h';exact h1
  ·cases hx:Rn.bf n 1 a (Sx.gB d) with
   |inl b=>rw [hx] at h';exact ih _ _ _ h'
   |inr e=>rw [hx] at h';cases h';exact Rn.bf_ne n _ _ _ _ hx
theorem Rn.pf_ok {n:Nat} {l:List Sx.Tr} (h:(Rn.pf n l).1=0):Rn.pf n l=(0,0)∧l ≠ []∧l.length≤10∧ ∀ g ∈ l,Rn.hf g=0∧Rn.okB n (Sx.gB g):=by
 by_cases h0:l.length=0
 ·unfold Rn.pf at h;rw [if_pos h0] at h;cases h
 ·by_cases h1:10<l.length
  ·unfold Rn.pf at h;rw [if_neg h0,if_pos h1] at h;cases h
  ·rw [Rn.pf_mid h0 h1] at h ⊢
   cases hg:Rn.gf n 0 0 l with
   |inr f=>rw [hg] at h;exact absurd h (Rn.gf_ne n l 0 0 f hg)
   |inl b=>exact ⟨rfl,by intro e;rw [e] at h0;exact h0 rfl,by omega,Rn.gf_each n l 0 0 b hg⟩
theorem Rn.hf_ok {g:Sx.Tr} (h:Rn.hf g=0):(Sx.gN g).length≤12∧(Sx.gP g).length≤6∧ ∀ p ∈ Sx.gP g,(Rn.par1 p).length≤33:=by
 unfold Rn.hf at h
 split at h
 ·cases h
 rename_i h1
 split at h
 ·cases h
 rename_i h2
 have hN:Tk.isN (Sx.gN g)=true:=by
  cases hh:Tk.isN (Sx.gN g) with
  |true=>rfl
  |false=>exact absurd hh h1
 refine ⟨Rn.isN_len hN,by omega,fun p hp=> ?_⟩
 have h3:=Rn.firstOf_zero h p hp
 split at h3
 ·cases h3
 rename_i h4
 split at h3
 ·cases h3
 rename_i h5
 have hn:Tk.isN (Sx.pH p).1=true:=by
  cases hh:Tk.isN (Sx.pH p).1 with
  |true=>rfl
  |false=>exact absurd hh h4
 have ht:Rn.isT (Sx.pH p).2 3=true:=by
  cases hh:Rn.isT (Sx.pH p).2 3 with
  |true=>rfl
  |false=>exact absurd hh h5
 have a1:=Rn.isN_len hn
 unfold Rn.isT at ht
 simp only [Bool.and_eq_true,decide_eq_true_eq] at ht
 have a2:=Rn.tyw_len (Sx.pH p).2
 unfold Rn.par1
 simp only [List.length_append,List.length_cons,List.length_nil]
 omega
theorem Rn.pt_len {n:Nat} {w:World} {P:Nat→Prop} {l:List Sx.Tr} {a:Option Addr} {c:Nat} (h:Sl (RG w P n) w P l (.slice a l.length c)) (hN:Nm n l) (hl:l.length≤10) (ho: ∀ g ∈ l,Rn.hf g=0∧Rn.okB n (Sx.gB g)):(Rn.pt n l).length≤100000000000000:=by
 have hc:=Rn.cat_len (g:=Rn.stt n) (c:=fun _=>(1+0) * 10000000000000) l (by
  intro g hg
  obtain ⟨i,hi⟩:=List.getElem?_of_mem hg
  obtain ⟨b,off,nm,at',ps,body,uP,uB,-,-,hd,-,-,-,-,hP,hB⟩:=GL.nth h i (List.getElem?_eq_some_iff.1 hi).1
  rw [hi] at hd
  cases hd
  obtain ⟨h1,h2⟩:=ho _ hg
  obtain ⟨a1,a2,a3⟩:=Rn.hf_ok h1
  have a4:Sx.wS n body≤1000000:=hN.ws i _ hi
  have a5:=Rn.blt_len n w P body uB 0 4000000 hB h2 (by have:=hN.lv;omega)
  have a6:Sx.wS n body * 4000000≤1000000 * 4000000:=Nat.mul_le_mul_right _ a4
  have a7:=Rn.com_len (c:=33) (ps.map Rn.par1) (by
   intro s hs
   obtain ⟨p,hp,rfl⟩:=List.mem_map.1 hs
   exact a3 p hp)
  rw [List.length_map] at a7
  have a8:ps.length * (33+2)≤6 * 35:=Nat.mul_le_mul_right 35 a2
  have a9:nm.length≤12:=a1
  rw [Rn.stt_is]
  simp only [List.length_append,List.length_cons,List.length_nil]
  omega)
 rw [Rn.sum_mul] at hc
 have e:Sx.sum (fun _=>0) l=0:=by
  clear hc ho hl hN h
  induction l with
  |nil=>rfl
  |cons a r ih=>simp only [Sx.sum];rw [ih]
 rw [e] at hc
 have:(l.length+0) * 10000000000000≤10 * 10000000000000:=Nat.mul_le_mul_right _ (by omega)
 show (Rn.cat (Rn.stt n) l).length≤_
 omega
def Rn.ptx (n:Nat) (l:List Sx.Tr):List UInt8:=if (Rn.told n l).1 ≠ 0 then [] else Rn.pt n l
set_option maxRecDepth 100000 in
set_option maxHeartbeats 2000000 in
theorem print_any (n:Nat) (w:World) (P:Nat→Prop) (l:List Sx.Tr) (a:Option Addr) (c:Nat) (hT:Tb w) (h:Sl (RG w P n) w P l (.slice a l.length c)) (hN:Nm n l):
  Calls Tryz.prog 36 #[.agg #[.slice a l.length c]] w fun e w'=>e= .returned (.tuple #[.string (bs (Rn.ptx n l)),.agg #[.int .i64 (Rn.told n l).1,.int .i64 (Rn.told n l).2]])∧Kp [] w w':=by
 have hg:Sl (RG w (fun b=>b<w.heap.size) n) w (fun b=>b<w.heap.size) l (.slice a l.length c):=h.base (fun b hb _=>hb) (fun d c h=>⟨h.base (fun b hb _=>hb),by obtain ⟨nm,at',ps,body,uP,uB,_,rfl,_⟩:=h;simp⟩)
 clear h
 have HK3:Hid (Kp [] w (((w.alloc (.cells #[.slice a l.length c] 24)).alloc (.cells #[.int .i64 0,.int .i64 0] 30)).alloc (.cells #[.int .i64 0] 112))):=hide ((((Kp.refl _ _).alloc _).alloc _).alloc _)
 have hsz:=hT.size
 have HC:=hide (rprogram_any n _ (fun b=>b<w.heap.size) l a c (w.heap.size+1+1) (hT.kp HK3.out) (hg.keep HK3.out (by simp) (fun d c h=>h.keep HK3.out (by simp))) hN (by omega) (by omega) (by simp [go_sem]) (by simp [go_sem]))
 have HT:=hide hT
 have HG:=hide hg
 have HN:=hide hN
 clear hT hg hN
 by_cases hf:(Rn.pf n l).1=0
 ·obtain ⟨p1,p2,p3,p4⟩:=Rn.pf_ok hf
  have hpl:=Rn.pt_len HG.out HN.out p3 p4
  have HP4:=hide p4
  rw [p1] at HC
  have et:Rn.told n l=if 12000<(Rn.pt n l).length then (1,-1) else (0,0):=by unfold Rn.told;rw [if_neg (by rw [hf];simp)]
  have ET:=hide et
  clear et p1 hf p4
  go_enter Tryz.func36,Tryz.ntmps36
  go_wp2_with fail
  refine HC.out.mono ?_
  rintro e w4 ⟨rfl,hk4⟩
  have K4:Hid (Kp [] w w4):=hide ((Kp.trans (Kp.of_nil HK3.out) hk4).new (by omega))
  have g0:w4.cell? ⟨w.heap.size,0,none⟩=some (.slice a l.length c):=hk4.some (by simp [go_sem]) (by simp;omega)
  have g1:w4.heap[w.heap.size+1]? =some (.cells #[.int .i64 0,.int .i64 0] 30 (0,0)):=by
   rw [hk4.block _ (by simp) (by simp),Below.heap_alloc _ _ _ (by simp)]
   have:=heap_alloc_new (w.alloc (.cells #[.slice a l.length c] 24)) (.cells #[.int .i64 0,.int .i64 0] 30)
   simpa using this
  have hb0:=World.block_lt_of_cell? _ _ g0
  have hb1:w.heap.size+1<w4.heap.size:=(Array.getElem?_eq_some_iff.1 g1).1
  clear hk4 HC HK3
  go_wp2_with fail
  generalize hW:w4.alloc (.cells #[.int .i64 0,.int .i64 0] 30)=W0
  have hpb:W0.heap.size=w4.heap.size+1:=by rw [←hW];simp
  have KW:Hid (Kp [] w W0):=hide (by rw [←hW];exact K4.out.alloc _)
  have G1:W0.heap[w.heap.size+1]? =some (.cells #[.int .i64 0,.int .i64 0] 30 (0,0)):=by rw [←hW,Below.heap_alloc _ _ _ hb1];exact g1
  have HS:=hide (HG.out.keep KW.out (by simp) (fun d c h=>h.keep KW.out (by simp)))
  have HT0:=hide (HT.out.kp KW.out)
  have HP0:Hid (PG W0 (w4.heap.size+1) [] 0 (W0.alloc (.cells #[.pointer none,.slice none 0 0,.int .i64 0] 118))):=hide (by have:=PG.new W0;rw [hpb] at this;exact this)
  have hcl:=Rn.cat_ge (g:=Rn.stt n) (fun d=>by unfold Rn.stt;simp) l
  clear hW g0 g1 hb0 K4
  have hpl':(Rn.cat (Rn.stt n) l).length≤100000000000000:=hpl
  go_loopw [18] (fun iv wr=> ∃ (i:Nat),i≤l.length∧iv= .int .i64 i∧Hid (PG W0 (w4.heap.size+1) (Rn.cat (Rn.stt n) (l.take i)) 0 wr)) (fun iv _=>l.length - (intOf iv).toNat)
  case atStart=>exact ⟨0,Nat.zero_le _,rfl,HP0⟩
  case round=>
   obtain ⟨i,hi,rfl,HQ⟩:=hrel
   by_cases hlt:i<l.length
   ·have d1:decide ((i:Int)<(l.length:Int))=true:=by simp;omega
    obtain ⟨b,off,nm,at',ps,body,uP,uB,rfl,-,hd,m0,m1,m2,m3,hP,hB⟩:=GL.nth HS.out i hlt
    obtain ⟨aP,cP,rfl,-⟩:=id hP
    obtain ⟨aB,cB,rfl⟩:=hB.slice
    obtain ⟨o1,o2⟩:=HP4.out _ (List.mem_of_getElem? hd)
    have n5:ps.length≤1000000:=HN.out.ps i _ hd
    have M0:=(HQ.out.kp []).some m0 (by simp)
    have M1:=(HQ.out.kp []).some m1 (by simp)
    have M2:=(HQ.out.kp []).some m2 (by simp)
    have M3:=(HQ.out.kp []).some m3 (by simp)
    have hk0:(0:Int)≤(i:Int):=by omega
    have hk1:(i:Int)<(l.length:Int):=by omega
    have e1:=Rn.cat_take (g:=Rn.stt n) hd
    have hle:=Rn.cat_le (Rn.stt n) l (i+1)
    rw [e1,List.length_append] at hle
    have E1:=hide e1
    have HX:=hide (pStage n W0 (w4.heap.size+1) _ _ _ nm at' ps body aP aB cP cB (HQ.out.alloc (.cells #[.string (bs nm),.int .i64 at',.slice aP ps.length cP,.slice aB body.length cB] 43)) HT0.out hP hB o2 n5 (by omega))
    clear hP hB o1 o2 n5 m0 m1 m2 m3 hd e1 hle
    go_wp2_with fail
    refine HX.out.mono ?_
    rintro e w6 ⟨rfl,h6,-⟩
    have H6:=hide h6
    clear h6
    go_wp2
    go_roundw
    case rel=>exact ⟨i+1,by omega,by go_num,by rw [E1.out];exact H6⟩
    case measure=>simp [intOf];omega
   ·obtain rfl:i=l.length:=by omega
    have d1:decide ((l.length:Int)<(l.length:Int))=false:=by simp
    rw [List.take_length] at HQ
    change Hid (PG W0 (w4.heap.size+1) (Rn.pt n l) 0 wr) at HQ
    have HLn:=hide (pLen HQ.out)
    have G2:wr.heap[w.heap.size+1]? =some (.cells #[.int .i64 0,.int .i64 0] 30 (0,0)):=((HQ.out.kp []).block _ (by omega) (by simp)).trans G1
    have y0:wr.cell? ⟨w.heap.size+1,0,none⟩=some (.int .i64 0):=by rw [Lib.cell_of_heap G2];rfl
    have y1:wr.cell? ⟨w.heap.size+1,1,none⟩=some (.int .i64 0):=by rw [Lib.cell_of_heap G2];rfl
    have f0:=Lib.frozen_of_heap G2 0
    have f1:=Lib.frozen_of_heap G2 1
    by_cases hlg:12000<(Rn.pt n l).length
    ·have d2:decide ((12000:Int)<((Rn.pt n l).length:Int))=true:=by simp;omega
     have ex:Rn.ptx n l=[]:=by unfold Rn.ptx;rw [ET.out,if_pos hlg];rfl
     go_wp2_with fail
     refine HLn.out.mono ?_
     rintro e w7 ⟨rfl,rfl⟩
     go_wp2
     refine bodyPost_ret (v:= .tuple #[.string (bs []),.agg #[.int .i64 1,.int .i64 (-1)]]) (by simp [results,Tryz.results36,go_sem,y0,y1];rfl) rfl ⟨by rw [ex,ET.out,if_pos hlg],?_⟩
     exact ((KW.out.trans (HQ.out.kp [])).nb (by omega) _ _).nb (by omega) _ _
    ·have d2:decide ((12000:Int)<((Rn.pt n l).length:Int))=false:=by simp;omega
     have ex:Rn.ptx n l=Rn.pt n l:=by unfold Rn.ptx;rw [ET.out,if_neg hlg];rfl
     have hnn:Rn.pt n l ≠ []:=by
      intro e
      have h1:0<l.length:=List.length_pos_iff.2 p2
      have h2:(Rn.cat (Rn.stt n) l)=[]:=e
      rw [h2] at hcl
      simp at hcl
      exact p2 hcl
     have HSt:=hide (pString HQ.out hnn)
     go_wp2_with fail
     refine HLn.out.mono ?_
     rintro e w7 ⟨rfl,rfl⟩
     go_wp2_with fail
     refine HSt.out.mono ?_
     rintro e w8 ⟨rfl,hb8,hf8⟩
     have G8:=hf8.heap G2 (by omega) (by decide)
     have x0:w8.cell? ⟨w.heap.size+1,0,none⟩=some (.int .i64 0):=by rw [Lib.cell_of_heap G8];rfl
     have x1:w8.cell? ⟨w.heap.size+1,1,none⟩=some (.int .i64 0):=by rw [Lib.cell_of_heap G8];rfl
     have u0:=Lib.frozen_of_heap G8 0
     have u1:=Lib.frozen_of_heap G8 1
     go_wp2
     refine bodyPost_ret (v:= .tuple #[.string (bs (Rn.pt n l)),.agg #[.int .i64 0,.int .i64 0]]) (by simp [results,Tryz.results36,go_sem,x0,x1]) rfl ⟨by rw [ex,ET.out,if_neg hlg],?_⟩
     exact ((KW.out.trans (Kp.of_below hb8)).nb (by omega) _ _).nb (by omega) _ _
 ·have et:Rn.told n l=Rn.pf n l:=by unfold Rn.told;rw [if_pos hf]
  have ex:Rn.ptx n l=[]:=by unfold Rn.ptx;rw [et,if_pos hf]
  rw [ex,et]
  have q1:((Rn.pf n l).1 !=0)=true:=by simpa using hf
  clear et ex hf
  generalize Rn.pf n l=F at *
  go_enter Tryz.func36,Tryz.ntmps36
  go_wp2_with fail
  refine HC.out.mono ?_
  rintro e w4 ⟨rfl,hk4⟩
  have K4:Hid (Kp [] w w4):=hide ((Kp.trans (Kp.of_nil HK3.out) hk4).new (by omega))
  have g1:w4.heap[w.heap.size+1]? =some (.cells #[.int .i64 0,.int .i64 0] 30 (0,0)):=by
   rw [hk4.block _ (by simp) (by simp),Below.heap_alloc _ _ _ (by simp)]
   have:=heap_alloc_new (w.alloc (.cells #[.slice a l.length c] 24)) (.cells #[.int .i64 0,.int .i64 0] 30)
   simpa using this
  have hb1:w.heap.size+1<w4.heap.size:=(Array.getElem?_eq_some_iff.1 g1).1
  have x0:w4.cell? ⟨w.heap.size+1,0,none⟩=some (.int .i64 0):=by rw [Lib.cell_of_heap g1];rfl
  have x1:w4.cell? ⟨w.heap.size+1,1,none⟩=some (.int .i64 0):=by rw [Lib.cell_of_heap g1];rfl
  have u0:=Lib.frozen_of_heap g1 0
  have u1:=Lib.frozen_of_heap g1 1
  have hne: ¬ w4.heap.size=w.heap.size+1:=by omega
  clear hk4 HC HK3
  go_wp2
  go_region
  go_wp2
  refine bodyPost_ret (v:= .tuple #[.string (bs []),.agg #[.int .i64 F.1,.int .i64 F.2]]) (by simp [results,Tryz.results36,go_sem,x0,x1,hb1];rfl) rfl ⟨rfl,?_⟩
  exact (((K4.out.nb (by omega) _ _).nb (by omega) _ _).alloc _).drew
theorem GL.keep {w w':World} {P:Nat→Prop} {n:Nat} {l:List Sx.Tr} {v:Value} (h:Sl (RG w P n) w P l v) (hk:Kp [] w w'):Sl (RG w' P n) w' P l v:=h.keep hk (by simp) (fun d c h=>h.keep hk (by simp))
theorem Rn.told_ok {n:Nat} {l:List Sx.Tr} (h:(Rn.told n l).1=0):(Rn.pf n l).1=0:=by
 by_cases hf:(Rn.pf n l).1=0
 ·exact hf
 ·unfold Rn.told at h
  rw [if_pos hf] at h
  exact h
set_option maxRecDepth 100000 in
set_option maxHeartbeats 1000000 in
theorem rcheck_any (n:Nat) (w:World) (P:Nat→Prop) (l:List Sx.Tr) (a:Option Addr) (c:Nat) (hT:Tb w) (h:Sl (RG w P n) w P l (.slice a l.length c)) (hN:Nm n l):
  Calls Tryz.prog 19 #[.agg #[.slice a l.length c]] w fun e w'=>e= .returned (.agg #[.int .i64 (Rn.told n l).1,.int .i64 (Rn.told n l).2])∧Kp [] w w':=by
 have K2:Hid (Kp [] w ((w.alloc (.cells #[.slice a l.length c] 24)).alloc (.cells #[.int .i64 0,.int .i64 0] 30))):=hide (((Kp.refl _ _).alloc _).alloc _)
 have HC:=hide (print_any n _ P l a c (hT.kp K2.out) (h.keep K2.out (by simp) (fun d c h=>h.keep K2.out (by simp))) hN)
 have B2:Hid (FB w (.slice a l.length c) ((w.alloc (.cells #[.slice a l.length c] 24)).alloc (.cells #[.int .i64 0,.int .i64 0] 30))):=hide ⟨K2.out,by simp [go_sem],by simp [go_sem],by simp [go_sem],by simp [go_sem],by simp [go_sem]⟩
 clear h hT hN K2
 generalize Rn.told n l=F at *
 go_enter Tryz.func19,Tryz.ntmps19
 go_wp2_with fail
 refine HC.out.mono ?_
 rintro e w3 ⟨rfl,hk3⟩
 obtain ⟨k5,-,r0,r1,f0,f1⟩:=B2.out.go hk3
 have hb4:=World.block_lt_of_cell? _ _ r0
 clear hk3 HC
 go_wp2
 refine bodyPost_ret (v:= .agg #[.int .i64 F.1,.int .i64 F.2]) (by simp [results,Tryz.results19,go_sem,r0,r1,hb4]) rfl ⟨rfl,?_⟩
 exact ((k5.nb (by omega) _ _).nb (by omega) _ _).alloc _
theorem bs_append (a b:List UInt8):bs a++bs b=bs (a++b):=by
 apply ByteArray.ext
 show (bs a++bs b).data=_
 rw [ByteArray.data_append]
 simp [bs]
theorem Rn.isT_cut {t:List UInt8} {ends:Int} (h:Rn.isT t ends=true): ∃ r,t=r++[105]∧ ∀ b ∈ r,b=115∨b=114:=by
 rcases List.eq_nil_or_concat t with rfl|⟨r,c,rfl⟩
 ·cases h
 ·rw [List.concat_eq_append] at h ⊢
  rw [Rn.isT_cat] at h
  simp only [Bool.and_eq_true,List.all_eq_true,Bool.or_eq_true,beq_iff_eq] at h
  obtain ⟨⟨h1,rfl⟩,_⟩:=h
  exact ⟨r,rfl,h1⟩
set_option maxRecDepth 100000 in
set_option maxHeartbeats 1000000 in
theorem kindText_any (t:List UInt8) (w:World) (ht:Rn.isT t 3=true) (hn:t.length≤4):
  Calls Tryz.prog 47 #[.string (bs t)] w fun e w'=>e= .returned (.string (bs (Rn.tyw t)))∧w'=w:=by
 obtain ⟨r,rfl,hr⟩:=Rn.isT_cut ht
 have hz:((bs (r++[105])).size:Int)=(r.length:Int)+1:=by rw [bsz];simp
 have hl:r.length≤4:=by simp at hn;omega
 have hw:wrap64 ((r.length:Int)+1 - 1)=(r.length:Int):=by simp only [wrap64];omega
 have HX:Hid (∀ (k:Nat) b,r[k]? =some b→((bs (r++[105])).extract k (k+1)).toList=[b]):=fun k b hb=>by
  rw [bsx,show k+1 - k=1 from by omega]
  obtain ⟨hk,rfl⟩:=List.getElem?_eq_some_iff.mp hb
  rw [List.drop_append_of_le_length (by omega),List.drop_eq_getElem_cons hk]
  rfl
 have HE:Hid (Rn.tyw (r++[105])=Rn.tyw r++[105,110,116]):=by rw [Rn.tyw_append];rfl
 have HR:=hide hr
 clear ht hn hr
 generalize bs (r++[105])=s at *
 go_enter Tryz.func47,Tryz.ntmps47
 go_wp2
 go_loopw [3,4] (fun av iv wr=> ∃ (k:Nat),k≤r.length∧iv= .int .i64 k∧av= .string (bs (Rn.tyw (r.take k)))∧wr=w) (fun _ iv _=>r.length - (intOf iv).toNat)
 case atStart=>exact ⟨0,Nat.zero_le _,rfl,rfl,rfl⟩
 case round=>
  obtain ⟨k,hk,rfl,rfl,rfl⟩:=hrel
  by_cases hlt:k<r.length
  ·have d3:decide ((k:Int)<(r.length:Int))=true:=by simp;omega
   obtain ⟨b,hb⟩: ∃ b,r[k]? =some b:=⟨_,List.getElem?_eq_getElem hlt⟩
   have hy:=HX.out k b hb
   have hbb:=HR.out b (List.mem_of_getElem? hb)
   have E1:=hide (Rn.tyw_take hb)
   have zl:(bs (Rn.tyw (r.take k))).size≤100:=by rw [bsz];have:=Rn.tyw_len (r.take k);rw [List.length_take] at this;omega
   have k0:(0:Int)≤(k:Int):=by omega
   have k1:(k:Int)≤(k:Int)+1:=by omega
   have k2:(k:Int)+1≤(r.length:Int)+1:=by omega
   by_cases h1:b=115
   ·subst h1
    go_wp2
    go_roundw
    case rel=>exact ⟨k+1,by omega,by go_num,by rw [E1.out,←bs_append];rfl,trivial⟩
    case measure=>simp [intOf];omega
   ·obtain rfl:b=114:=by rcases hbb with h|h;exact absurd h h1;exact h
    go_wp2
    go_roundw
    case rel=>exact ⟨k+1,by omega,by go_num,by rw [E1.out,←bs_append];rfl,trivial⟩
    case measure=>simp [intOf];omega
  ·obtain rfl:k=r.length:=by omega
   have d3:decide ((r.length:Int)<(r.length:Int))=false:=by simp
   rw [List.take_length]
   have zl:(bs (Rn.tyw r)).size≤100:=by rw [bsz];have:=Rn.tyw_len r;omega
   go_wp2
   go_ret
   refine ⟨?_,rfl⟩
   rw [HE.out,←bs_append]
   rfl
end Go.Proofs.YthcapfojofahkaaGreatDoor
namespace Go.Proofs.YthcapfojofahkaaGreatDoor
open Go.RowKit
def Rn.mR (m:Nat):Nat:=if m=0 then 0 else m+1
def Rn.bi (op:Int):Nat:=if op=1∨op=2 then 9 else if op=3 then 4 else if op=4∨op=5 then 2 else if op=6 then 3 else 1
def XTt (n:Nat):Prop:= ∀ (w:World) (P:Nat→Prop) (op z:Int) (nm:List UInt8) (L:List Sx.Tr) (a:Option Addr) (c must:Nat),Tb w→EL w P n L (.slice a L.length c)→Rn.xf (n+1) (Sx.tE op nm z L)=0→must≤3→Rn.prt (n+1) (Sx.tE op nm z L)≤1000000→
 Calls Tryz.prog 97 #[.agg #[.int .i64 op,.string (bs nm),.int .i64 z,.slice a L.length c],.int .i64 (Rn.mR must)] w fun e w'=>e= .returned (.string (bs (Rn.xt (n+1) must (Sx.tE op nm z L))))∧Kp [] w w'
theorem Rn.bi_must {op:Int} {must:Nat} (h1:1≤op) (h2:op≤8) (hm:must≤3):decide ((Rn.bi op:Int)<(Rn.mR must:Int))=decide (Rn.holds op<must):=by
 have h:op=1∨op=2∨op=3∨op=4∨op=5∨op=6∨op=7∨op=8:=by omega
 have hm':must=0∨must=1∨must=2∨must=3:=by omega
 rcases h with rfl|rfl|rfl|rfl|rfl|rfl|rfl|rfl<;> rcases hm' with rfl|rfl|rfl|rfl<;> rfl
theorem wr_0:IntKind.i64.wrap 0=0:=by decide
theorem wr_1:IntKind.i64.wrap 1=1:=by decide
theorem wr_2:IntKind.i64.wrap 2=2:=by decide
theorem wr_3:IntKind.i64.wrap 3=3:=by decide
theorem wr_4:IntKind.i64.wrap 4=4:=by decide
theorem Rn.brk_false (x:List UInt8):Rn.brk false x=x:=rfl
theorem Rn.brk_true (x:List UInt8):Rn.brk true x=[40]++x++[41]:=rfl
set_option maxRecDepth 100000 in
set_option maxHeartbeats 1000000 in
theorem exprText_num (w:World) (z:Int) (a:Option Addr) (c mm:Nat) (hT:Tb w) (z0:0≤z) (z1:z<1000000000000000000) (hm:decide ((9:Int)<(mm:Int))=false):
  Calls Tryz.prog 97 #[.agg #[.int .i64 1,.string (bs []),.int .i64 z,.slice a 0 c],.int .i64 mm] w fun e w'=>e= .returned (.string (bs (Rn.digs z)))∧Kp [] w w':=by
 have HI:=hide (fun W (hk:Kp [] w W)=>formatInt_any z W (by omega) (by omega) (hT.kp hk))
 change Hid (∀ W,_→Calls _ _ _ _ fun e w'=>e= .returned (.string (bs (Rn.digs z)))∧_) at HI
 clear hT
 go_enter Tryz.func97,Tryz.ntmps97
 go_wp2_with fail
 refine (HI.out _ (((Kp.refl _ _).alloc _).alloc _)).mono ?_
 rintro e w3 ⟨rfl,hk3⟩
 go_wp2
 go_ret
 exact ⟨rfl,(((Kp.refl _ _).alloc _).alloc _).trans hk3⟩
set_option maxRecDepth 100000 in
set_option maxHeartbeats 1000000 in
theorem exprText_name (w:World) (nm:List UInt8) (a:Option Addr) (c mm:Nat) (hm:decide ((9:Int)<(mm:Int))=false):
  Calls Tryz.prog 97 #[.agg #[.int .i64 2,.string (bs nm),.int .i64 0,.slice a 0 c],.int .i64 mm] w fun e w'=>e= .returned (.string (bs nm))∧Kp [] w w':=by
 go_enter Tryz.func97,Tryz.ntmps97
 go_wp2
 go_ret
 exact ⟨rfl,((Kp.refl _ _).alloc _).alloc _⟩
set_option maxRecDepth 100000 in
set_option maxHeartbeats 1000000 in
theorem exprText_neg (n:Nat) (ih:XTt n) (w:World) (P:Nat→Prop) (d1:Sx.Tr) (a:Option Addr) (c mm:Nat) (hT:Tb w) (hE:EL w P (n+1) [d1] (.slice a 1 c)) (f1:Rn.xf (n+1) d1=0) (hp:Rn.prt (n+1) d1≤1000000) (hm:decide ((4:Int)<(mm:Int))=false):
  Calls Tryz.prog 97 #[.agg #[.int .i64 3,.string (bs []),.int .i64 0,.slice a 1 c],.int .i64 mm] w fun e w'=>e= .returned (.string (bs ([45]++Rn.xt (n+1) 3 d1)))∧Kp [] w w':=by
 obtain ⟨b,off,op1,nm1,z1,L1,aL1,cL1,rfl,-,hd1,m0,m1,m2,m3,hL1⟩:=hE.nth 0 (by simp)
 obtain rfl:d1=Sx.tE op1 nm1 z1 L1:=by simpa using hd1
 clear hd1 hE
 rw [Nat.zero_mul,Nat.add_zero] at m0 m1 m2 m3
 have IH1:=hide (fun W (hk:Kp [] w W)=>ih W P op1 z1 nm1 L1 aL1 cL1 3 (hT.kp hk) (hL1.keep hk (by simp)) f1 (by omega) hp)
 have hxl:=Rn.xt_len (n+1) 3 _ f1
 have zl:(bs (Rn.xt (n+1) 3 (Sx.tE op1 nm1 z1 L1))).size≤30000000:=by rw [bsz];omega
 clear hxl hT hL1 f1 ih hp
 generalize Rn.xt (n+1) 3 (Sx.tE op1 nm1 z1 L1)=X1 at *
 rw [←bs_append]
 have hblt:=World.block_lt_of_cell? _ _ m0
 go_enter Tryz.func97,Tryz.ntmps97
 go_wp2_with fail
 refine (IH1.out _ (((Kp.refl _ _).alloc _).alloc _)).mono ?_
 rintro e w3 ⟨rfl,hk3⟩
 go_wp2
 go_ret
 exact ⟨rfl,(((Kp.refl _ _).alloc _).alloc _).trans hk3⟩
end Go.Proofs.YthcapfojofahkaaGreatDoor
namespace Go.Proofs.YthcapfojofahkaaGreatDoor
open Go.RowKit
namespace Bg
def nE:Nat→Sx.Tr→Bool
 |0,_=>true
 |n+1,d=>decide ((Sx.eH d).2.1.length≤1000) && (Sx.eL d).all fun x=>nE n x
def nS:Nat→List Sx.Tr→Bool
 |0,_=>true
 |n+1,l=>l.all fun t=>decide ((Sx.sH t).2.1.length≤1000) && decide ((Sx.sH t).2.2.1.length≤1000) && decide ((Sx.sH t).2.2.2.1.length≤1000) && ((Sx.sE t).all fun x=>nE n x) && nS n (Sx.sB t) && nS n (Sx.sO t)
def nG (n:Nat) (l:List Sx.Tr):Bool:=decide (n≤1000∧l.length≤1000) && l.all fun g=>decide ((Sx.gP g).length≤1000) && decide (Sx.wS n (Sx.gB g)≤1000) && decide ((Sx.gN g).length≤1000) && ((Sx.gP g).all fun p=>decide ((Sx.pH p).1.length≤1000∧(Sx.pH p).2.length≤1000)) && nS n (Sx.gB g)
end Bg
theorem nE_of: ∀ (n:Nat) (d:Sx.Tr),Bg.nE n d=true→Rn.nmE n d
 |0,_,_=>trivial
 |n+1,d,h=>by
  unfold Bg.nE at h
  rw [Bool.and_eq_true] at h
  exact ⟨Nat.le_trans (of_decide_eq_true h.1) (by decide),fun i x hx=>nE_of n x (List.all_eq_true.1 h.2 x (List.mem_of_getElem? hx))⟩
theorem nS_of: ∀ (n:Nat) (l:List Sx.Tr),Bg.nS n l=true→Rn.nmS n l
 |0,_,_=>trivial
 |n+1,l,h=>fun i t ht=>by
  have h1:=List.all_eq_true.1 h t (List.mem_of_getElem? ht)
  simp only [Bool.and_eq_true,decide_eq_true_eq] at h1
  obtain ⟨⟨⟨⟨⟨a1,a2⟩,a3⟩,a4⟩,a5⟩,a6⟩:=h1
  exact ⟨Nat.le_trans a1 (by decide),Nat.le_trans a2 (by decide),Nat.le_trans a3 (by decide),fun j x hx=>nE_of n x (List.all_eq_true.1 a4 x (List.mem_of_getElem? hx)),nS_of n _ a5,nS_of n _ a6⟩
theorem nG_of {n:Nat} {l:List Sx.Tr} (h:Bg.nG n l=true):Nm n l:=by
 unfold Bg.nG at h
 rw [Bool.and_eq_true,decide_eq_true_eq] at h
 have key: ∀ (i:Nat) d,l[i]? =some d→_:=fun i d hd=>List.all_eq_true.1 h.2 d (List.mem_of_getElem? hd)
 simp only [Bool.and_eq_true,decide_eq_true_eq] at key
 refine ⟨by omega,by omega,fun i d hd=> ?_,fun i d hd=> ?_,fun i d hd=> ?_⟩
 ·have:=(key i d hd).1.1.1.1
  omega
 ·have:=(key i d hd).1.1.1.2
  omega
 ·refine ⟨Nat.le_trans (key i d hd).1.1.2 (by decide),fun j p hp=> ?_,nS_of n _ (key i d hd).2⟩
  have:=List.all_eq_true.1 (key i d hd).1.2 p (List.mem_of_getElem? hp)
  simp only [decide_eq_true_eq] at this
  exact ⟨Nat.le_trans this.1 (by decide),Nat.le_trans this.2 (by decide)⟩
end Go.Proofs.YthcapfojofahkaaGreatDoor
