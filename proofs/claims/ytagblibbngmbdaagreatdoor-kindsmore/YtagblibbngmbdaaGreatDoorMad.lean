import Derived.Test.YtagblibbngmbdaaGreatDoorMac
import Derived.Test.YtagblibbngmbdaaGreatDoorMaa
import Derived.Deep.RegionWith
import Derived.Deep.RegionHeld
import Derived.Deep.QuietTactic
import Derived.BigQuiet
set_option maxRecDepth 100000
set_option maxHeartbeats 400000
namespace Go.Proofs.YtagblibbngmbdaaGreatDoor
open Go.RowKit
structure Kp (S:List Nat) (w w':World):Prop where
 os:w'.os=w.os
 tape:w'.tape=w.tape
 output:w'.output=w.output
 size:w.heap.size≤w'.heap.size
 block: ∀ k,k<w.heap.size→k ∉ S→w'.heap[k]? =w.heap[k]?
theorem Kp.refl (S:List Nat) (w:World):Kp S w w:=⟨rfl,rfl,rfl,Nat.le_refl _,fun _ _ _=>rfl⟩
theorem Kp.trans {S:List Nat} {a b c:World} (h:Kp S a b) (k:Kp S b c):Kp S a c:=
 ⟨k.os.trans h.os,k.tape.trans h.tape,k.output.trans h.output,Nat.le_trans h.size k.size,fun i hi hn=>(k.block i (Nat.lt_of_lt_of_le hi h.size) hn).trans (h.block i hi hn)⟩
theorem Kp.mono {S S':List Nat} {a b:World} (h:Kp S a b) (hs: ∀ k,k ∈ S→k ∈ S'):Kp S' a b:=
 ⟨h.os,h.tape,h.output,h.size,fun i hi hn=>h.block i hi (fun hm=>hn (hs i hm))⟩
theorem Kp.new {S:List Nat} {b:Nat} {w w':World} (h:Kp (b::S) w w') (hb:w.heap.size≤b):Kp S w w':=
 ⟨h.os,h.tape,h.output,h.size,fun i hi hn=>h.block i hi (fun hm=>by
  rcases List.mem_cons.1 hm with rfl|hm
  ·omega
  ·exact hn hm)⟩
theorem Kp.drew {S:List Nat} {a w:World} (h:Kp S a w):Kp S a w.drew:=⟨h.os,h.tape,h.output,h.size,h.block⟩
theorem Kp.drewN {S:List Nat} {a w:World} (h:Kp S a w) (n:Nat):Kp S a (w.drewN n):=⟨h.os,h.tape,h.output,h.size,h.block⟩
theorem Kp.alloc {S:List Nat} {a w:World} (h:Kp S a w) (o:Obj):Kp S a (w.alloc o):=
 h.trans ⟨rfl,rfl,rfl,by simp,fun k hk _=>Below.heap_alloc _ _ _ hk⟩
theorem Kp.setCell {S:List Nat} {a w:World} (h:Kp S a w) {p:Addr} (hp:p.block ∈ S) (u:Value):Kp S a (w.setCell p u):=
 h.trans ⟨rfl,rfl,rfl,by simp [World.setCell],fun k _ hn=>Below.heap_setCell _ _ _ _ (fun he=>hn (he ▸ hp))⟩
theorem Kp.set_new {S:List Nat} {a w:World} (h:Kp S a w) {p:Addr} (hp:a.heap.size≤p.block) (u:Value):Kp S a (w.setCell p u):=
 ⟨h.os,h.tape,h.output,by simpa [World.setCell] using h.size,fun k hk hn=>(Below.heap_setCell _ _ _ _ (by omega)).trans (h.block k hk hn)⟩
theorem Kp.rb {b:Nat} {S:List Nat} {a w:World} (h:Kp (b::S) a w) (o:Nat) (u:Value):Kp (b::S) a (w.setCell ⟨b,o,none⟩ u):=h.setCell (List.mem_cons_self) u
theorem Kp.nb {b:Nat} {S:List Nat} {a w:World} (h:Kp S a w) (hb:a.heap.size≤b) (o:Nat) (u:Value):Kp S a (w.setCell ⟨b,o,none⟩ u):=h.set_new (p:=⟨b,o,none⟩) hb u
theorem Kp.of_below {S:List Nat} {w w':World} (h:Below w.heap.size w w'):Kp S w w':=⟨h.os,h.tape,h.output,h.size,fun k hk _=>h.block k hk⟩
theorem Kp.grown {S:List Nat} {a w w':World} {row:Option Nat} (h:Kp S a w) (hg:w.grownBy w' row) (hr: ∀ k,row=some k→a.heap.size≤k∨k ∈ S):Kp S a w':=
 ⟨hg.os.trans h.os,hg.tape.trans h.tape,hg.output.trans h.output,Nat.le_trans h.size hg.size,fun k hk hn=>(hg.block k (Nat.lt_of_lt_of_le hk h.size) (fun e=>by
  rcases hr k e.symm with h1|h1
  ·omega
  ·exact hn h1)).trans (h.block k hk hn)⟩
theorem Kp.cell {S:List Nat} {w w':World} (h:Kp S w w') {p:Addr} (hp:p.block<w.heap.size) (hn:p.block ∉ S):w'.cell? p=w.cell? p:=World.cell?_of_block (w:=w) (h.block p.block hp hn)
theorem Kp.frozen {S:List Nat} {w w':World} (h:Kp S w w') {p:Addr} (hp:p.block<w.heap.size) (hn:p.block ∉ S):w'.frozen? p=w.frozen? p:=World.frozen?_of_block (w:=w) (h.block p.block hp hn)
theorem Kp.some {S:List Nat} {w w':World} (h:Kp S w w') {p:Addr} {v:Value} (hv:w.cell? p= .some v) (hn:p.block ∉ S):w'.cell? p= .some v:=
 (h.cell (World.block_lt_of_cell? w p hv) hn).trans hv
theorem Kp.below {w w':World} (h:Kp [] w w'):Below w.heap.size w w':=⟨h.os,h.tape,h.output,h.size,fun k hk=>h.block k hk (by simp)⟩
structure Cx where
 rb:Nat
 tb:Nat
 cap:Nat
 a:Option Addr
 full:List Tk.Tok
 e:Nat
structure RD (c:Cx) (w:World) (n:Nat) (s:Sx.St):Prop where
 hn:n≤c.full.length
 hm:c.full.length≤12000
 he:c.e≤12000
 rlt:c.rb<w.heap.size
 c0:w.cell? ⟨c.rb,0,none⟩=some (.slice c.a c.full.length c.cap)
 c1:w.cell? ⟨c.rb,1,none⟩=some (.int .i64 n)
 c2:w.cell? ⟨c.rb,2,none⟩=some (.int .i64 c.e)
 c3:w.cell? ⟨c.rb,3,none⟩=some (.int .i64 s.stmts)
 c4:w.cell? ⟨c.rb,4,none⟩=some (.int .i64 s.dep)
 c5:w.cell? ⟨c.rb,5,none⟩=some (.int .i64 s.opn)
 c6:w.cell? ⟨c.rb,6,none⟩=some (.int .i64 s.parts)
 b3:s.stmts≤300
 b4:s.dep≤8
 b5:s.opn≤60
 b6:s.parts+(c.full.length - n)≤12000
 fz: ∀ o,w.frozen? ⟨c.rb,o,none⟩=false
 ne:c.full ≠ []→c.a=some ⟨c.tb,0,none⟩∧c.tb ≠ c.rb
 tk: ∀ (i:Nat) t,c.full[i]? =some t→w.cell? ⟨c.tb,i * 4,none⟩=some (.int .i64 t.kind)∧w.cell? ⟨c.tb,i * 4+1,none⟩=some (.int .i64 (t.at':Int))∧
  w.cell? ⟨c.tb,i * 4+2,none⟩=some (.string (bs t.text))∧w.cell? ⟨c.tb,i * 4+3,none⟩=some (.int .i64 t.n)∧t.at'≤12000
theorem RD.keep {c:Cx} {w w':World} {n:Nat} {s:Sx.St} {S:List Nat} (h:RD c w n s) (k:Kp S w w') (hr:c.rb ∉ S) (ht:c.full ≠ []→c.tb ∉ S):RD c w' n s:=
 { h with
  rlt:=Nat.lt_of_lt_of_le h.rlt k.size
  c0:=k.some h.c0 hr
  c1:=k.some h.c1 hr
  c2:=k.some h.c2 hr
  c3:=k.some h.c3 hr
  c4:=k.some h.c4 hr
  c5:=k.some h.c5 hr
  c6:=k.some h.c6 hr
  fz:=fun o=>(k.frozen (p:=⟨c.rb,o,none⟩) h.rlt hr).trans (h.fz o)
  tk:=fun i t ht'=>by
   obtain ⟨h1,h2,h3,h4,h5⟩:=h.tk i t ht'
   have hne:c.tb ∉ S:=ht (fun e=>by rw [e] at ht';simp at ht')
   exact ⟨k.some h1 hne,k.some h2 hne,k.some h3 hne,k.some h4 hne,h5⟩ }
end Go.Proofs.YtagblibbngmbdaaGreatDoor
namespace Go.Proofs.YtagblibbngmbdaaGreatDoor
open Go.RowKit
theorem drew2 (w:World) (a b:Nat):(w.drewN a).drewN b=w.drewN (a+b):=by simp [World.drewN,Nat.add_assoc]
theorem zcf (l:List Tk.Tok) (n:Nat) (h:n≤l.length) (hn: ¬ n<l.length):l.drop n=[]:=by simp;omega
theorem zby (l:List Tk.Tok) (n:Nat) (h:n<l.length): ∃ t,l[n]? =some t∧l.drop n=t::l.drop (n+1):=
 ⟨l[n],by simp [h],List.drop_eq_getElem_cons h⟩
theorem zc1 (c:Cx) (w:World) (n:Nat) (s:Sx.St) (h:RD c w n s):
  Calls Tryz.prog 78 #[.pointer (some ⟨c.rb,0,none⟩)] w fun e w'=>e= .returned (.bool (c.full.drop n).isEmpty)∧ ∃ k,w'=w.drewN k:=by
 have c0:=h.c0
 have c1:=h.c1
 have hE:(c.full.drop n).isEmpty=((n:Int) == (c.full.length:Int)):=by
  have:=h.hn
  rw [Bool.eq_iff_iff]
  simp
  omega
 rw [hE]
 clear hE
 go_enter Tryz.func78,Tryz.ntmps78
 go_wp2
 go_quiet (fail)
 go_wp2
 go_ret
 exact ⟨rfl,_,rfl⟩
theorem RD.drewN {c:Cx} {w:World} {n:Nat} {s:Sx.St} (h:RD c w n s) (k:Nat):RD c (w.drewN k) n s:=
 h.keep ((Kp.refl [] w).drewN k) (by simp) (by simp)
theorem at_any (c:Cx) (w:World) (n:Nat) (s:Sx.St) (h:RD c w n s):
  Calls Tryz.prog 104 #[.pointer (some ⟨c.rb,0,none⟩)] w fun e w'=>e= .returned (.int .i64 (Sx.place c.e (c.full.drop n)))∧ ∃ k,w'=w.drewN k:=by
 have HO:=hide (fun w h=>zc1 c w n s h)
 have HH:=hide h
 by_cases hlt:n<c.full.length
 ·obtain ⟨t,ht,hd⟩:=zby c.full n hlt
  obtain ⟨ha,_⟩:=h.ne (fun e=>by rw [e] at hlt;simp at hlt)
  have hE:(c.full.drop n).isEmpty=false:=by rw [hd];rfl
  have HE:=hide hE
  have HP:Hid (Sx.place c.e (c.full.drop n)=(t.at':Int)):=by rw [hd];rfl
  obtain ⟨_,k1,_,_,_⟩:=h.tk n t ht
  have c0:=h.c0
  have c1:=h.c1
  clear h hE hd ht
  rw [ha] at c0
  clear ha
  go_enter Tryz.func104,Tryz.ntmps104
  go_wp2_with fail
  refine (HO.out _ HH.out).mono ?_
  rintro e w1 ⟨rfl,k,rfl⟩
  rw [HE.out]
  go_wp2
  go_quiet (fail)
  go_wp2
  go_ret
  rw [HP.out]
  exact ⟨rfl,_,drew2 _ _ _⟩
 ·have hd:=zcf c.full n h.hn hlt
  have hE:(c.full.drop n).isEmpty=true:=by rw [hd];rfl
  have HE:=hide hE
  have HP:Hid (Sx.place c.e (c.full.drop n)=(c.e:Int)):=by rw [hd];rfl
  have c2:=h.c2
  clear h hE hd
  go_enter Tryz.func104,Tryz.ntmps104
  go_wp2_with fail
  refine (HO.out _ HH.out).mono ?_
  rintro e w1 ⟨rfl,k,rfl⟩
  rw [HE.out]
  go_wp2
  go_ret
  rw [HP.out]
  exact ⟨rfl,_,rfl⟩
end Go.Proofs.YtagblibbngmbdaaGreatDoor
namespace Go.Proofs.YtagblibbngmbdaaGreatDoor
open Go.RowKit
theorem zhq:bs []=⟨#[]⟩:=rfl
theorem zat (l:List UInt8):(bs l).data.toList=l:=by simp [bs]
theorem zbg (c:Cx) (w:World) (n:Nat) (s:Sx.St) (h:RD c w n s):
  Calls Tryz.prog 111 #[.pointer (some ⟨c.rb,0,none⟩)] w fun e w'=>e= .returned (.string (bs (Sx.txt (c.full.drop n))))∧ ∃ k,w'=w.drewN k:=by
 have HO:=hide (fun w h=>zc1 c w n s h)
 have HH:=hide h
 by_cases hlt:n<c.full.length
 ·obtain ⟨t,ht,hd⟩:=zby c.full n hlt
  obtain ⟨ha,_⟩:=h.ne (fun e=>by rw [e] at hlt;simp at hlt)
  have hE:(c.full.drop n).isEmpty=false:=by rw [hd];rfl
  have HE:=hide hE
  have HP:Hid (Sx.txt (c.full.drop n)=t.text):=by rw [hd];rfl
  obtain ⟨_,_,k1,_,_⟩:=h.tk n t ht
  have c0:=h.c0
  have c1:=h.c1
  clear h hE hd ht
  rw [ha] at c0
  clear ha
  go_enter Tryz.func111,Tryz.ntmps111
  go_wp2_with fail
  refine (HO.out _ HH.out).mono ?_
  rintro e w1 ⟨rfl,k,rfl⟩
  rw [HE.out]
  go_wp2
  go_quiet (fail)
  go_wp2
  go_ret
  rw [HP.out]
  exact ⟨rfl,_,drew2 _ _ _⟩
 ·have hd:=zcf c.full n h.hn hlt
  have hE:(c.full.drop n).isEmpty=true:=by rw [hd];rfl
  have HE:=hide hE
  have HP:Hid (Sx.txt (c.full.drop n)=[]):=by rw [hd];rfl
  clear h hE hd
  go_enter Tryz.func111,Tryz.ntmps111
  go_wp2_with fail
  refine (HO.out _ HH.out).mono ?_
  rintro e w1 ⟨rfl,k,rfl⟩
  rw [HE.out]
  go_wp2
  go_ret
  rw [HP.out]
  exact ⟨rfl,_,rfl⟩
theorem bs_eq (l:List UInt8) (x:ByteArray):((bs l).toList == x.toList)=decide (l=x.data.toList):=by
 rw [Lib.toList_data,Lib.toList_data,zat,Bool.eq_iff_iff]
 simp
theorem zek (x:ByteArray) (c:Cx) (w:World) (n:Nat) (s:Sx.St) (h:RD c w n s):
  Calls Tryz.prog 79 #[.pointer (some ⟨c.rb,0,none⟩),.string x] w fun e w'=>e= .returned (.bool (decide (Sx.txt (c.full.drop n)=x.data.toList)))∧ ∃ k,w'=w.drewN k:=by
 have HO:=hide (zbg c w n s h)
 have HQ:=hide (bs_eq (Sx.txt (c.full.drop n)) x)
 clear h
 generalize Sx.txt (c.full.drop n)=tx at *
 go_enter Tryz.func79,Tryz.ntmps79
 go_wp2_with fail
 refine HO.out.mono ?_
 rintro e w1 ⟨rfl,k,rfl⟩
 go_wp2
 go_ret
 rw [←HQ.out]
 exact ⟨rfl,_,rfl⟩
def gv (code at':Int):List PanicEntry:=[{ v:= .iface 108 (.agg #[.int .i64 code,.int .i64 at']),recovered:=false }]
theorem za9 (code:Int) (c:Cx) (w:World) (n:Nat) (s:Sx.St) (h:RD c w n s):
  Calls Tryz.prog 80 #[.pointer (some ⟨c.rb,0,none⟩),.int .i64 code] w fun e w'=>e= .returned (.agg #[.int .i64 code,.int .i64 (Sx.place c.e (c.full.drop n))])∧Below w.heap.size w w':=by
 have HO:=hide (fun w h=>at_any c w n s h)
 have HH:=hide h
 clear h
 generalize Sx.place c.e (c.full.drop n)=p at *
 go_enter Tryz.func80,Tryz.ntmps80
 go_wp2_with fail
 refine (HO.out _ ?_).mono ?_
 ·exact HH.out.keep (Kp.of_below (S:=[]) ((Below.refl _ _).alloc (Nat.le_refl _) _)) (by simp) (by simp)
 rintro e w1 ⟨rfl,k,rfl⟩
 go_wp2
 refine bodyPost_ret (v:= .agg #[.int .i64 code,.int .i64 p]) (by simp [results,Tryz.results80,go_sem]) rfl ⟨rfl,?_⟩
 exact ((below_drewN ((Below.refl _ _).alloc (Nat.le_refl _) _) _).setCell (by simp) _).setCell (by simp) _
theorem zc9 (c:Cx) (w:World) (n:Nat) (s:Sx.St) (h:RD c w n s):
  Calls Tryz.prog 128 #[.pointer (some ⟨c.rb,0,none⟩)] w fun e w'=>e= .returned (.agg #[.int .i64 (Sx.ucode (c.full.drop n)),.int .i64 (Sx.place c.e (c.full.drop n))])∧Below w.heap.size w w':=by
 have HO:=hide (fun w h=>zc1 c w n s h)
 have HF:=hide (fun code w h=>za9 code c w n s h)
 have HH:=hide h
 by_cases hlt:n<c.full.length
 ·obtain ⟨t,ht,hd⟩:=zby c.full n hlt
  have HE:Hid ((c.full.drop n).isEmpty=false):=by rw [hd];rfl
  have HP:Hid (Sx.ucode (c.full.drop n)=5):=by rw [hd];rfl
  clear h hd ht
  generalize Sx.place c.e (c.full.drop n)=p at *
  go_enter Tryz.func128,Tryz.ntmps128
  go_wp2_with fail
  refine (HO.out _ ?_).mono ?_
  ·exact HH.out.keep (Kp.of_below (S:=[]) ((Below.refl _ _).alloc (Nat.le_refl _) _)) (by simp) (by simp)
  rintro e w1 ⟨rfl,k,rfl⟩
  rw [HE.out]
  go_wp2_with fail
  refine (HF.out _ _ ?_).mono ?_
  ·exact (HH.out.keep (Kp.of_below (S:=[]) ((Below.refl _ _).alloc (Nat.le_refl _) _)) (by simp) (by simp)).drewN k
  rintro e w2 ⟨rfl,hb⟩
  have hb':=hb
  simp at hb'
  have f0:=hb'.frozen (p:=⟨w.heap.size,0,none⟩) (by simp)
  have f1:=hb'.frozen (p:=⟨w.heap.size,1,none⟩) (by simp)
  have g0:=hb'.cell (p:=⟨w.heap.size,0,none⟩) (by simp)
  have g1:=hb'.cell (p:=⟨w.heap.size,1,none⟩) (by simp)
  simp [go_sem] at f0 f1 g0 g1
  go_wp2
  refine bodyPost_ret (v:= .agg #[.int .i64 5,.int .i64 p]) (by simp [results,Tryz.results128,go_sem,g0,g1]) rfl ⟨by rw [HP.out],?_⟩
  exact (((below_drewN ((Below.refl _ _).alloc (Nat.le_refl _) _) _).trans (hb.mono (by simp))).setCell (by simp) _).setCell (by simp) _
 ·have hd:=zcf c.full n h.hn hlt
  have HE:Hid ((c.full.drop n).isEmpty=true):=by rw [hd];rfl
  have HP:Hid (Sx.ucode (c.full.drop n)=6):=by rw [hd];rfl
  clear h hd
  generalize Sx.place c.e (c.full.drop n)=p at *
  go_enter Tryz.func128,Tryz.ntmps128
  go_wp2_with fail
  refine (HO.out _ ?_).mono ?_
  ·exact HH.out.keep (Kp.of_below (S:=[]) ((Below.refl _ _).alloc (Nat.le_refl _) _)) (by simp) (by simp)
  rintro e w1 ⟨rfl,k,rfl⟩
  rw [HE.out]
  go_wp2_with fail
  refine (HF.out _ _ ?_).mono ?_
  ·exact (HH.out.keep (Kp.of_below (S:=[]) ((Below.refl _ _).alloc (Nat.le_refl _) _)) (by simp) (by simp)).drewN k
  rintro e w2 ⟨rfl,hb⟩
  have hb':=hb
  simp at hb'
  have f0:=hb'.frozen (p:=⟨w.heap.size,0,none⟩) (by simp)
  have f1:=hb'.frozen (p:=⟨w.heap.size,1,none⟩) (by simp)
  have g0:=hb'.cell (p:=⟨w.heap.size,0,none⟩) (by simp)
  have g1:=hb'.cell (p:=⟨w.heap.size,1,none⟩) (by simp)
  simp [go_sem] at f0 f1 g0 g1
  go_wp2
  refine bodyPost_ret (v:= .agg #[.int .i64 6,.int .i64 p]) (by simp [results,Tryz.results128,go_sem,g0,g1]) rfl ⟨by rw [HP.out],?_⟩
  exact (((below_drewN ((Below.refl _ _).alloc (Nat.le_refl _) _) _).trans (hb.mono (by simp))).setCell (by simp) _).setCell (by simp) _
end Go.Proofs.YtagblibbngmbdaaGreatDoor
namespace Go.Proofs.YtagblibbngmbdaaGreatDoor
open Go.RowKit
def Post {α:Type} (c:Cx) (S:List Nat) (w:World) (enc:World→α→Value→Prop) (r:Sx.Rs α) (e:Ending) (w':World):Prop:=match r with
 | .inl (x,s,ts)=> ∃ v n,e= .returned v∧enc w' x v∧ts=c.full.drop n∧RD c w' n s∧Kp S w w'
 | .inr (code,p,_)=>e= .panicked (gv code p)∧Kp S w w'
def encU (_:World) (_:Unit) (v:Value):Prop:=v= .tuple #[]
def encT (_:World) (x:List UInt8) (v:Value):Prop:=v= .string (bs x)
def encN (_:World) (x:Int) (v:Value):Prop:=v= .int .i64 x
theorem zab (w:World) (b o o':Nat) (v:Value) (h:o ≠ o'):(w.setCell ⟨b,o,none⟩ v).cell? ⟨b,o',none⟩=w.cell? ⟨b,o',none⟩:=by
 refine World.cell?_setCell_other _ _ _ _ (fun he=>h ?_)
 injection he
theorem RD.step {c:Cx} {w:World} {n:Nat} {s:Sx.St} (h:RD c w n s) (hlt:n<c.full.length):RD c (w.setCell ⟨c.rb,1,none⟩ (.int .i64 ((n:Int)+1))) (n+1) s:=
 { h with
  rlt:=by simpa [World.setCell] using h.rlt
  c0:=(zab _ _ _ _ _ (by decide)).trans h.c0
  c1:=by rw [World.cell?_setCell_same (h:=h.c1)];simp
  c2:=(zab _ _ _ _ _ (by decide)).trans h.c2
  c3:=(zab _ _ _ _ _ (by decide)).trans h.c3
  c4:=(zab _ _ _ _ _ (by decide)).trans h.c4
  c5:=(zab _ _ _ _ _ (by decide)).trans h.c5
  c6:=(zab _ _ _ _ _ (by decide)).trans h.c6
  hn:=hlt
  b6:=by have:=h.b6;omega
  fz:=fun o=>by simpa using h.fz o
  tk:=fun i t ht=>by
   obtain ⟨h1,h2,h3,h4,h5⟩:=h.tk i t ht
   have hne:=(h.ne (fun e=>by rw [e] at ht;simp at ht)).2
   exact ⟨(World.cell?_setCell_far _ _ _ _ hne.symm).trans h1,(World.cell?_setCell_far _ _ _ _ hne.symm).trans h2,(World.cell?_setCell_far _ _ _ _ hne.symm).trans h3,(World.cell?_setCell_far _ _ _ _ hne.symm).trans h4,h5⟩ }
theorem RD.stmt {c:Cx} {w:World} {n:Nat} {s:Sx.St} (h:RD c w n s) (hlt:s.stmts<300):RD c (w.setCell ⟨c.rb,3,none⟩ (.int .i64 ((s.stmts:Int)+1))) n s.stmt:=
 { h with
  rlt:=by simpa [World.setCell] using h.rlt
  c0:=(zab _ _ _ _ _ (by decide)).trans h.c0
  c1:=(zab _ _ _ _ _ (by decide)).trans h.c1
  c2:=(zab _ _ _ _ _ (by decide)).trans h.c2
  c3:=by rw [World.cell?_setCell_same (h:=h.c3)];simp [Sx.St.stmt]
  c4:=(zab _ _ _ _ _ (by decide)).trans h.c4
  c5:=(zab _ _ _ _ _ (by decide)).trans h.c5
  c6:=(zab _ _ _ _ _ (by decide)).trans h.c6
  b3:=hlt
  fz:=fun o=>by simpa using h.fz o
  tk:=fun i t ht=>by
   obtain ⟨h1,h2,h3,h4,h5⟩:=h.tk i t ht
   have hne:=(h.ne (fun e=>by rw [e] at ht;simp at ht)).2
   exact ⟨(World.cell?_setCell_far _ _ _ _ hne.symm).trans h1,(World.cell?_setCell_far _ _ _ _ hne.symm).trans h2,(World.cell?_setCell_far _ _ _ _ hne.symm).trans h3,(World.cell?_setCell_far _ _ _ _ hne.symm).trans h4,h5⟩ }
theorem RD.up {c:Cx} {w:World} {n:Nat} {s:Sx.St} (h:RD c w n s) (hlt:s.dep<8):RD c (w.setCell ⟨c.rb,4,none⟩ (.int .i64 ((s.dep:Int)+1))) n s.up:=
 { h with
  rlt:=by simpa [World.setCell] using h.rlt
  c0:=(zab _ _ _ _ _ (by decide)).trans h.c0
  c1:=(zab _ _ _ _ _ (by decide)).trans h.c1
  c2:=(zab _ _ _ _ _ (by decide)).trans h.c2
  c3:=(zab _ _ _ _ _ (by decide)).trans h.c3
  c4:=by rw [World.cell?_setCell_same (h:=h.c4)];simp [Sx.St.up]
  c5:=(zab _ _ _ _ _ (by decide)).trans h.c5
  c6:=(zab _ _ _ _ _ (by decide)).trans h.c6
  b4:=hlt
  fz:=fun o=>by simpa using h.fz o
  tk:=fun i t ht=>by
   obtain ⟨h1,h2,h3,h4,h5⟩:=h.tk i t ht
   have hne:=(h.ne (fun e=>by rw [e] at ht;simp at ht)).2
   exact ⟨(World.cell?_setCell_far _ _ _ _ hne.symm).trans h1,(World.cell?_setCell_far _ _ _ _ hne.symm).trans h2,(World.cell?_setCell_far _ _ _ _ hne.symm).trans h3,(World.cell?_setCell_far _ _ _ _ hne.symm).trans h4,h5⟩ }
theorem RD.down {c:Cx} {w:World} {n:Nat} {s:Sx.St} (h:RD c w n s) (hlt:0<s.dep):RD c (w.setCell ⟨c.rb,4,none⟩ (.int .i64 ((s.dep:Int) - 1))) n s.down:=
 { h with
  rlt:=by simpa [World.setCell] using h.rlt
  c0:=(zab _ _ _ _ _ (by decide)).trans h.c0
  c1:=(zab _ _ _ _ _ (by decide)).trans h.c1
  c2:=(zab _ _ _ _ _ (by decide)).trans h.c2
  c3:=(zab _ _ _ _ _ (by decide)).trans h.c3
  c4:=by rw [World.cell?_setCell_same (h:=h.c4)];simp only [Sx.St.down];rw [show ((s.dep:Int) - 1)=((s.dep - 1:Nat):Int) from by omega]
  c5:=(zab _ _ _ _ _ (by decide)).trans h.c5
  c6:=(zab _ _ _ _ _ (by decide)).trans h.c6
  b4:=by have:=h.b4;simp only [Sx.St.down];omega
  fz:=fun o=>by simpa using h.fz o
  tk:=fun i t ht=>by
   obtain ⟨h1,h2,h3,h4,h5⟩:=h.tk i t ht
   have hne:=(h.ne (fun e=>by rw [e] at ht;simp at ht)).2
   exact ⟨(World.cell?_setCell_far _ _ _ _ hne.symm).trans h1,(World.cell?_setCell_far _ _ _ _ hne.symm).trans h2,(World.cell?_setCell_far _ _ _ _ hne.symm).trans h3,(World.cell?_setCell_far _ _ _ _ hne.symm).trans h4,h5⟩ }
theorem RD.ent {c:Cx} {w:World} {n:Nat} {s:Sx.St} (h:RD c w n s) (hlt:s.opn<60):RD c (w.setCell ⟨c.rb,5,none⟩ (.int .i64 ((s.opn:Int)+1))) n { s with opn:=s.opn+1 }:=
 { h with
  rlt:=by simpa [World.setCell] using h.rlt
  c0:=(zab _ _ _ _ _ (by decide)).trans h.c0
  c1:=(zab _ _ _ _ _ (by decide)).trans h.c1
  c2:=(zab _ _ _ _ _ (by decide)).trans h.c2
  c3:=(zab _ _ _ _ _ (by decide)).trans h.c3
  c4:=(zab _ _ _ _ _ (by decide)).trans h.c4
  c5:=by rw [World.cell?_setCell_same (h:=h.c5)];simp
  c6:=(zab _ _ _ _ _ (by decide)).trans h.c6
  b5:=hlt
  fz:=fun o=>by simpa using h.fz o
  tk:=fun i t ht=>by
   obtain ⟨h1,h2,h3,h4,h5⟩:=h.tk i t ht
   have hne:=(h.ne (fun e=>by rw [e] at ht;simp at ht)).2
   exact ⟨(World.cell?_setCell_far _ _ _ _ hne.symm).trans h1,(World.cell?_setCell_far _ _ _ _ hne.symm).trans h2,(World.cell?_setCell_far _ _ _ _ hne.symm).trans h3,(World.cell?_setCell_far _ _ _ _ hne.symm).trans h4,h5⟩ }
theorem RD.shut {c:Cx} {w:World} {n:Nat} {s:Sx.St} (h:RD c w n s) (hlt:0<s.opn):RD c (w.setCell ⟨c.rb,5,none⟩ (.int .i64 ((s.opn:Int) - 1))) n s.shut:=
 { h with
  rlt:=by simpa [World.setCell] using h.rlt
  c0:=(zab _ _ _ _ _ (by decide)).trans h.c0
  c1:=(zab _ _ _ _ _ (by decide)).trans h.c1
  c2:=(zab _ _ _ _ _ (by decide)).trans h.c2
  c3:=(zab _ _ _ _ _ (by decide)).trans h.c3
  c4:=(zab _ _ _ _ _ (by decide)).trans h.c4
  c5:=by rw [World.cell?_setCell_same (h:=h.c5)];simp only [Sx.St.shut];rw [show ((s.opn:Int) - 1)=((s.opn - 1:Nat):Int) from by omega]
  c6:=(zab _ _ _ _ _ (by decide)).trans h.c6
  b5:=by have:=h.b5;simp only [Sx.St.shut];omega
  fz:=fun o=>by simpa using h.fz o
  tk:=fun i t ht=>by
   obtain ⟨h1,h2,h3,h4,h5⟩:=h.tk i t ht
   have hne:=(h.ne (fun e=>by rw [e] at ht;simp at ht)).2
   exact ⟨(World.cell?_setCell_far _ _ _ _ hne.symm).trans h1,(World.cell?_setCell_far _ _ _ _ hne.symm).trans h2,(World.cell?_setCell_far _ _ _ _ hne.symm).trans h3,(World.cell?_setCell_far _ _ _ _ hne.symm).trans h4,h5⟩ }
theorem RD.part {c:Cx} {w:World} {n:Nat} {s:Sx.St} (h:RD c w n s) (hlt:s.parts+1+(c.full.length - n)≤12000):RD c (w.setCell ⟨c.rb,6,none⟩ (.int .i64 ((s.parts:Int)+1))) n s.part:=
 { h with
  rlt:=by simpa [World.setCell] using h.rlt
  c0:=(zab _ _ _ _ _ (by decide)).trans h.c0
  c1:=(zab _ _ _ _ _ (by decide)).trans h.c1
  c2:=(zab _ _ _ _ _ (by decide)).trans h.c2
  c3:=(zab _ _ _ _ _ (by decide)).trans h.c3
  c4:=(zab _ _ _ _ _ (by decide)).trans h.c4
  c5:=(zab _ _ _ _ _ (by decide)).trans h.c5
  c6:=by rw [World.cell?_setCell_same (h:=h.c6)];simp [Sx.St.part]
  b6:=hlt
  fz:=fun o=>by simpa using h.fz o
  tk:=fun i t ht=>by
   obtain ⟨h1,h2,h3,h4,h5⟩:=h.tk i t ht
   have hne:=(h.ne (fun e=>by rw [e] at ht;simp at ht)).2
   exact ⟨(World.cell?_setCell_far _ _ _ _ hne.symm).trans h1,(World.cell?_setCell_far _ _ _ _ hne.symm).trans h2,(World.cell?_setCell_far _ _ _ _ hne.symm).trans h3,(World.cell?_setCell_far _ _ _ _ hne.symm).trans h4,h5⟩ }
def Cx.below (c:Cx) (B:Nat):Prop:=c.rb<B∧(c.full ≠ []→c.tb<B)
theorem RD.lt {c:Cx} {w:World} {n:Nat} {s:Sx.St} (h:RD c w n s):c.below w.heap.size:=⟨h.rlt,fun hne=>by
 obtain ⟨t,ht⟩: ∃ t,c.full[0]? =some t:=by
  cases hf:c.full with
  |nil=>exact absurd hf hne
  |cons a l=>exact ⟨a,by simp⟩
 exact World.block_lt_of_cell? w _ (h.tk 0 t ht).1⟩
theorem RD.set_new {c:Cx} {w:World} {n:Nat} {s:Sx.St} {B:Nat} (h:RD c w n s) (hB:c.below B) {p:Addr} (hp:B≤p.block) (v:Value):RD c (w.setCell p v) n s:=
 h.keep (S:=[p.block]) ((Kp.refl _ _).setCell (by simp) _) (by simp;have:=hB.1;omega) (fun hne=>by simp;have:=hB.2 hne;omega)
theorem RD.alloc {c:Cx} {w:World} {n:Nat} {s:Sx.St} (h:RD c w n s) (o:Obj):RD c (w.alloc o) n s:=h.keep (S:=[]) ((Kp.refl _ _).alloc _) (by simp) (by simp)
theorem RD.drew {c:Cx} {w:World} {n:Nat} {s:Sx.St} (h:RD c w n s):RD c w.drew n s:=h.keep (S:=[]) ((Kp.refl _ _).drew) (by simp) (by simp)
end Go.Proofs.YtagblibbngmbdaaGreatDoor
set_option maxRecDepth 100000
set_option maxHeartbeats 1000000
namespace Go.Proofs.YtagblibbngmbdaaGreatDoor
open Go.RowKit
theorem zbv {c:Cx} {n:Nat} {x:List UInt8} (h:Sx.txt (c.full.drop n)=x) (hx:x ≠ []):n<c.full.length:=by
 rcases Nat.lt_or_ge n c.full.length with h1|h1
 ·exact h1
 ·rw [List.drop_eq_nil_of_le h1] at h
  exact absurd h.symm hx
theorem zak (x:ByteArray) (hx:x.data.toList ≠ []) (c:Cx) (w:World) (n:Nat) (s:Sx.St) (h:RD c w n s):
  Calls Tryz.prog 105 #[.pointer (some ⟨c.rb,0,none⟩),.string x] w (Post c [c.rb] w encU (Sx.skp c.e x.data.toList s (c.full.drop n))):=by
 have HO:=hide (zek x c w n s h)
 have HU:=hide (fun w h=>zc9 c w n s h)
 have HH:=hide h
 by_cases ht:Sx.txt (c.full.drop n)=x.data.toList
 ·have hlt:=zbv ht hx
  have HP:Hid (Sx.skp c.e x.data.toList s (c.full.drop n)= .inl ((),s,c.full.drop (n+1))):=by
   show _=_
   unfold Sx.skp
   rw [if_pos ht];simp
  have HD:Hid (decide (Sx.txt (c.full.drop n)=x.data.toList)=true):=decide_eq_true ht
  have c1:=h.c1
  have fz:=h.fz 1
  have hm:=h.hm
  clear h ht hx
  go_enter Tryz.func105,Tryz.ntmps105
  go_wp2_with fail
  refine HO.out.mono ?_
  rintro e w1 ⟨rfl,k,rfl⟩
  rw [HD.out]
  go_wp2
  rw [HP.out]
  go_end0
  exact ⟨_,n+1,rfl,rfl,rfl,(HH.out.drewN k).step hlt,((Kp.refl _ _).drewN k).setCell (by simp) _⟩
 ·have HP:Hid (Sx.skp c.e x.data.toList s (c.full.drop n)= .inr (Sx.ucode (c.full.drop n),Sx.place c.e (c.full.drop n),c.full.drop n)):=by
   show _=_
   unfold Sx.skp
   rw [if_neg ht];rfl
  have HD:Hid (decide (Sx.txt (c.full.drop n)=x.data.toList)=false):=decide_eq_false ht
  clear h ht hx
  go_enter Tryz.func105,Tryz.ntmps105
  go_wp2_with fail
  refine HO.out.mono ?_
  rintro e w1 ⟨rfl,k,rfl⟩
  rw [HD.out]
  go_wp2_with fail
  refine (HU.out _ (HH.out.drewN k)).mono ?_
  rintro e w2 ⟨rfl,hb⟩
  go_wp2
  rw [HP.out]
  exact ⟨rfl,rfl,((Kp.refl _ _).drewN k).trans (Kp.of_below hb)⟩
theorem zcr {c:Cx} {w:World} {n:Nat} {s:Sx.St} {b:Bool} (hE:(c.full.drop n).isEmpty=b) (h:RD c w n s):
  Calls Tryz.prog 78 #[.pointer (some ⟨c.rb,0,none⟩)] w fun e w'=>e= .returned (.bool b)∧ ∃ k,w'=w.drewN k:=by
 have:=zc1 c w n s h
 rwa [hE] at this
theorem zbz (k:Int) (c:Cx) (w:World) (n:Nat) (s:Sx.St) (h:RD c w n s):
  Calls Tryz.prog 147 #[.pointer (some ⟨c.rb,0,none⟩),.int .i64 k] w fun e w'=>e= .returned (.bool (Sx.hasKind k (c.full.drop n)))∧ ∃ k,w'=w.drewN k:=by
 have HH:=hide h
 by_cases hlt:n<c.full.length
 ·obtain ⟨t,ht,hd⟩:=zby c.full n hlt
  obtain ⟨ha,_⟩:=h.ne (fun e=>by rw [e] at hlt;simp at hlt)
  have HE:Hid ((c.full.drop n).isEmpty=false):=by rw [hd];rfl
  have HP:Hid (Sx.hasKind k (c.full.drop n)=(t.kind == k)):=by rw [hd];rfl
  obtain ⟨k0,_,_,_,_⟩:=h.tk n t ht
  have c0:=h.c0
  have c1:=h.c1
  clear h hd ht
  rw [ha] at c0
  clear ha
  go_enter Tryz.func147,Tryz.ntmps147
  go_wp2
  go_quiet ((go_at_call 78;exact Calls.quiet_of (zcr HE.out (HH.out.drewN _))))
  go_wp2
  go_ret
  rw [HP.out]
  exact ⟨rfl,_,rfl⟩
 ·have hd:=zcf c.full n h.hn hlt
  have HE:Hid ((c.full.drop n).isEmpty=true):=by rw [hd];rfl
  have HP:Hid (Sx.hasKind k (c.full.drop n)=false):=by rw [hd];rfl
  clear h hd
  go_enter Tryz.func147,Tryz.ntmps147
  go_wp2
  go_quiet ((go_at_call 78;exact Calls.quiet_of (zcr HE.out (HH.out.drewN _))))
  go_wp2
  go_ret
  rw [HP.out]
  exact ⟨rfl,_,rfl⟩
def encK (_:World) (t:Tk.Tok) (v:Value):Prop:=v= .agg #[.int .i64 t.kind,.int .i64 (t.at':Int),.string (bs t.text),.int .i64 t.n]
theorem zda (k:Int) (c:Cx) (w:World) (n:Nat) (s:Sx.St) (h:RD c w n s):
  Calls Tryz.prog 129 #[.pointer (some ⟨c.rb,0,none⟩),.int .i64 k] w (Post c [c.rb] w encK (Sx.tokOf c.e k s (c.full.drop n))):=by
 have HO:=hide (fun w h=>zbz k c w n s h)
 have HU:=hide (fun w h=>zc9 c w n s h)
 have HH:=hide h
 cases hk:Sx.hasKind k (c.full.drop n) with
 |true=>
  have hlt:n<c.full.length:=by
   rcases Nat.lt_or_ge n c.full.length with h1|h1
   ·exact h1
   ·rw [List.drop_eq_nil_of_le h1] at hk;cases hk
  obtain ⟨t,ht,hd⟩:=zby c.full n hlt
  have HP:Hid (Sx.tokOf c.e k s (c.full.drop n)= .inl (t,s,c.full.drop (n+1))):=by
   show _=_
   rw [hd] at hk ⊢
   simp only [Sx.hasKind] at hk
   simp only [Sx.tokOf,hk,if_true]
  obtain ⟨ha,hne⟩:=h.ne (fun e=>by rw [e] at hlt;simp at hlt)
  have HK:=hide hk
  obtain ⟨k0,k1,k2,k3,_⟩:=h.tk n t ht
  have c0:=h.c0
  have c1:=h.c1
  have fz:=h.fz 1
  have hm:=h.hm
  have hr:=h.rlt
  have htb:c.tb<w.heap.size:=World.block_lt_of_cell? w _ k0
  have htb': ¬ c.tb=w.heap.size:=by omega
  have hne':c.rb ≠ c.tb:=fun e=>hne e.symm
  clear h hd ht hk
  rw [ha] at c0
  clear ha
  go_enter Tryz.func129,Tryz.ntmps129
  go_wp2_with fail
  refine (HO.out _ ?_).mono ?_
  ·exact HH.out.keep (Kp.of_below (S:=[]) ((Below.refl _ _).alloc (Nat.le_refl _) _)) (by simp) (by simp)
  rintro e w1 ⟨rfl,k,rfl⟩
  rw [HK.out]
  go_wp2
  go_region
  go_wp2
  have HB:=HH.out.lt
  refine bodyPost_ret (v:= .agg #[.int .i64 t.kind,.int .i64 (t.at':Int),.string (bs t.text),.int .i64 t.n]) (by simp [results,Tryz.results129,go_sem]) rfl ?_
  rw [HP.out]
  refine ⟨_,n+1,rfl,rfl,rfl,?_,?_⟩
  ·exact (((((((HH.out.alloc _).drewN k).step hlt).set_new HB (Nat.le_refl _) _).set_new HB (Nat.le_refl _) _).set_new HB (Nat.le_refl _) _).set_new HB (Nat.le_refl _) _).drew
  ·refine Kp.drew (Kp.nb (Kp.nb (Kp.nb (Kp.nb ?_ (Nat.le_refl _) _ _) (Nat.le_refl _) _ _) (Nat.le_refl _) _ _) (Nat.le_refl _) _ _)
   refine Kp.rb ?_ _ _
   exact ((Kp.refl _ _).alloc _).drewN k
 |false=>
  have HP:Hid (Sx.tokOf c.e k s (c.full.drop n)= .inr (Sx.ucode (c.full.drop n),Sx.place c.e (c.full.drop n),c.full.drop n)):=by
   show _=_
   generalize c.full.drop n=ts at *
   cases ts with
   |nil=>rfl
   |cons t r=>
    simp only [Sx.hasKind] at hk
    simp only [Sx.tokOf,hk]
    rfl
  have HK:=hide hk
  clear h hk
  go_enter Tryz.func129,Tryz.ntmps129
  go_wp2_with fail
  refine (HO.out _ ?_).mono ?_
  ·exact HH.out.keep (Kp.of_below (S:=[]) ((Below.refl _ _).alloc (Nat.le_refl _) _)) (by simp) (by simp)
  rintro e w1 ⟨rfl,k,rfl⟩
  rw [HK.out]
  go_wp2_with fail
  refine (HU.out _ ?_).mono ?_
  ·exact (HH.out.keep (Kp.of_below (S:=[]) ((Below.refl _ _).alloc (Nat.le_refl _) _)) (by simp) (by simp)).drewN k
  rintro e w2 ⟨rfl,hb⟩
  go_wp2
  rw [HP.out]
  exact ⟨rfl,rfl,(((Kp.refl _ _).alloc _).drewN k).trans (Kp.of_below hb)⟩
theorem zh4 (a b d:Value) (x:Value) (w:World):(Instr.field 103 (.agg #[a,b,x,d]) 2).run Tryz.prog w= .ok x w:=by kernel_rfl
theorem zmv (a b d:Value) (x:Value) (w:World):(Instr.field 103 (.agg #[a,b,d,x]) 3).run Tryz.prog w= .ok x w:=by kernel_rfl
theorem zay (c:Cx) (w:World) (n:Nat) (s:Sx.St) (h:RD c w n s):
  Calls Tryz.prog 106 #[.pointer (some ⟨c.rb,0,none⟩)] w (Post c [c.rb] w encT (Sx.nameOf c.e s (c.full.drop n))):=by
 have HO:=hide (zda 2 c w n s h)
 unfold Sx.nameOf
 clear h
 generalize Sx.tokOf c.e 2 s (c.full.drop n)=m at *
 go_enter Tryz.func106,Tryz.ntmps106
 go_wp2_with fail
 refine HO.out.mono ?_
 intro e w1 hp
 rcases m with ⟨t,s1,r1⟩|⟨code,p,rest⟩
 ·obtain ⟨v,n1,rfl,hv,hr,hd,hk⟩:=hp
  unfold encK at hv
  rw [hv]
  have HR:=hide hr
  have HD:=hide hd
  clear hv hr hd
  have hfd:=zh4 (.int .i64 t.kind) (.int .i64 (t.at':Int)) (.int .i64 t.n) (.string (bs t.text))
  go_wp2
  go_ret
  exact ⟨_,n1,rfl,rfl,HR.out,HD.out,hk⟩
 ·obtain ⟨rfl,hk⟩:=hp
  exact ⟨rfl,rfl,hk⟩
theorem zfg (c:Cx) (w:World) (n:Nat) (s:Sx.St) (h:RD c w n s):
  Calls Tryz.prog 171 #[.pointer (some ⟨c.rb,0,none⟩)] w (Post c [c.rb] w encN (Sx.numOf c.e s (c.full.drop n))):=by
 have HO:=hide (zda 3 c w n s h)
 unfold Sx.numOf
 clear h
 generalize Sx.tokOf c.e 3 s (c.full.drop n)=m at *
 go_enter Tryz.func171,Tryz.ntmps171
 go_wp2_with fail
 refine HO.out.mono ?_
 intro e w1 hp
 rcases m with ⟨t,s1,r1⟩|⟨code,p,rest⟩
 ·obtain ⟨v,n1,rfl,hv,hr,hd,hk⟩:=hp
  unfold encK at hv
  rw [hv]
  have HR:=hide hr
  have HD:=hide hd
  clear hv hr hd
  have hfd:=zmv (.int .i64 t.kind) (.int .i64 (t.at':Int)) (.string (bs t.text)) (.int .i64 t.n)
  go_wp2
  go_ret
  exact ⟨_,n1,rfl,rfl,HR.out,HD.out,hk⟩
 ·obtain ⟨rfl,hk⟩:=hp
  exact ⟨rfl,rfl,hk⟩
theorem zfh (c:Cx) (w:World) (n:Nat) (s:Sx.St) (h:RD c w n s) (hlt:n<c.full.length):
  Calls Tryz.prog 206 #[.pointer (some ⟨c.rb,0,none⟩)] w (Post c [c.rb] w encU (Sx.ent c.e s (c.full.drop n))):=by
 have HF:=hide (za9 7 c w n s h)
 have HH:=hide h
 have c1:=h.c1
 have c5:=h.c5
 have f1:=h.fz 1
 have f5:=h.fz 5
 have hm:=h.hm
 have b5:=h.b5
 by_cases h60:s.opn=60
 ·have HP:Hid (Sx.ent c.e s (c.full.drop n)= .inr (7,Sx.place c.e (c.full.drop n),c.full.drop n)):=by
   show _=_
   unfold Sx.ent
   rw [if_pos h60];rfl
  rw [h60] at c5
  clear h60
  go_enter Tryz.func206,Tryz.ntmps206
  go_wp2_with fail
  refine HF.out.mono ?_
  rintro e w2 ⟨rfl,hb⟩
  go_wp2
  rw [HP.out]
  exact ⟨rfl,rfl,Kp.of_below hb⟩
 ·have HP:Hid (Sx.ent c.e s (c.full.drop n)= .inl ((),{ s with opn:=s.opn+1 },c.full.drop (n+1))):=by
   show _=_
   unfold Sx.ent
   rw [if_neg h60];simp
  have d1:((s.opn:Int) == 60)=false:=by simp;omega
  have hl:s.opn<60:=by omega
  clear h60 h
  go_enter Tryz.func206,Tryz.ntmps206
  go_wp2
  rw [HP.out]
  go_end0
  refine ⟨_,n+1,rfl,rfl,rfl,(HH.out.ent hl).step hlt,?_⟩
  refine Kp.rb ?_ _ _
  refine Kp.rb ?_ _ _
  exact Kp.refl _ _
end Go.Proofs.YtagblibbngmbdaaGreatDoor
namespace Go.Proofs.YtagblibbngmbdaaGreatDoor
open Go.RowKit
def EL (w:World) (P:Nat→Prop):Nat→List Sx.Tr→Value→Prop
 |0,_,_=>False
 |n+1,l,v=> ∃ a cap,v= .slice a l.length cap∧(l=[]∨ ∃ b off,a=some ⟨b,off,none⟩∧P b∧ ∀ (i:Nat) d,l[i]? =some d→ ∃ op nm k L u,d=Sx.tE op nm k L∧w.cell? ⟨b,off+i * 4,none⟩=some (.int .i64 op)∧w.cell? ⟨b,off+i * 4+1,none⟩=some (.string (bs nm))∧
    w.cell? ⟨b,off+i * 4+2,none⟩=some (.int .i64 k)∧w.cell? ⟨b,off+i * 4+3,none⟩=some u∧EL w P n L u)
theorem EL.slice {w:World} {P:Nat→Prop} {n:Nat} {l:List Sx.Tr} {v:Value} (h:EL w P n l v): ∃ a cap,v= .slice a l.length cap:=by
 cases n with
 |zero=>cases h
 |succ n=>obtain ⟨a,cap,hv,_⟩:=h;exact ⟨a,cap,hv⟩
theorem EL.keep {w w':World} {S:List Nat} {P:Nat→Prop} {n:Nat} {l:List Sx.Tr} {v:Value} (h:EL w P n l v) (hk:Kp S w w') (hS: ∀ k,k ∈ S→ ¬ P k):EL w' P n l v:=by
 induction n generalizing l v with
 |zero=>cases h
 |succ n ih=>
  obtain ⟨a,cap,hv,h⟩:=h
  refine ⟨a,cap,hv,h.imp id ?_⟩
  rintro ⟨b,off,ha,hB,hc⟩
  refine ⟨b,off,ha,hB,fun i d hd=> ?_⟩
  obtain ⟨op,nm,k,L,u,h1,h2,h3,h4,h5,h6⟩:=hc i d hd
  have hn:b ∉ S:=fun hm=>hS b hm hB
  exact ⟨op,nm,k,L,u,h1,hk.some h2 hn,hk.some h3 hn,hk.some h4 hn,hk.some h5 hn,ih h6⟩
theorem EL.base {w:World} {P P':Nat→Prop} {n:Nat} {l:List Sx.Tr} {v:Value} (h:EL w P n l v) (hP: ∀ b,b<w.heap.size→P b→P' b):EL w P' n l v:=by
 induction n generalizing l v with
 |zero=>cases h
 |succ n ih=>
  obtain ⟨a,cap,hv,h⟩:=h
  refine ⟨a,cap,hv,?_⟩
  rcases h with h|⟨b,off,ha,hb,hc⟩
  ·exact .inl h
  ·cases l with
   |nil=>exact .inl rfl
   |cons d0 l0=>
    refine .inr ⟨b,off,ha,?_,fun i d hd=> ?_⟩
    ·obtain ⟨op,nm,k,L,u,h1,h2,_⟩:=hc 0 d0 rfl
     exact hP b (World.block_lt_of_cell? w _ h2) hb
    ·obtain ⟨op,nm,k,L,u,h1,h2,h3,h4,h5,h6⟩:=hc i d hd
     exact ⟨op,nm,k,L,u,h1,h2,h3,h4,h5,ih h6⟩
theorem EL.more {w:World} {P:Nat→Prop} {n:Nat} {l:List Sx.Tr} {v:Value} (m:Nat) (h:EL w P n l v):EL w P (n+m) l v:=by
 induction n generalizing l v with
 |zero=>cases h
 |succ n ih=>
  rw [show n+1+m=n+m+1 from by omega]
  obtain ⟨a,cap,hv,h⟩:=h
  refine ⟨a,cap,hv,h.imp id ?_⟩
  rintro ⟨b,off,ha,hb,hc⟩
  refine ⟨b,off,ha,hb,fun i d hd=> ?_⟩
  obtain ⟨op,nm,k,L,u,h1,h2,h3,h4,h5,h6⟩:=hc i d hd
  exact ⟨op,nm,k,L,u,h1,h2,h3,h4,h5,ih h6⟩
def EV (w:World) (P:Nat→Prop) (d:Sx.Tr) (v:Value):Prop:= ∃ n op nm k L a cap,d=Sx.tE op nm k L∧v= .agg #[.int .i64 op,.string (bs nm),.int .i64 k,.slice a L.length cap]∧EL w P n L (.slice a L.length cap)
theorem EV.keep {w w':World} {S:List Nat} {P:Nat→Prop} {d:Sx.Tr} {v:Value} (h:EV w P d v) (hk:Kp S w w') (hS: ∀ k,k ∈ S→ ¬ P k):EV w' P d v:=by
 obtain ⟨n,op,nm,k,L,a,cap,h1,h2,h3⟩:=h
 exact ⟨n,op,nm,k,L,a,cap,h1,h2,h3.keep hk hS⟩
theorem EV.base {w:World} {P P':Nat→Prop} {d:Sx.Tr} {v:Value} (h:EV w P d v) (hB: ∀ b,b<w.heap.size→P b→P' b):EV w P' d v:=by
 obtain ⟨n,op,nm,k,L,a,cap,h1,h2,h3⟩:=h
 exact ⟨n,op,nm,k,L,a,cap,h1,h2,h3.base hB⟩
theorem EL.nil (w:World) (P:Nat→Prop) (a:Option Addr) (cap:Nat):EL w P 1 [] (.slice a 0 cap):=⟨a,cap,rfl,.inl rfl⟩
theorem EV.leaf (w:World) (P:Nat→Prop) (op:Int) (nm:List UInt8) (k:Int):EV w P (Sx.tE op nm k []) (.agg #[.int .i64 op,.string (bs nm),.int .i64 k,.slice none 0 0]):=
 ⟨1,op,nm,k,[],none,0,rfl,rfl,EL.nil _ _ _ _⟩
theorem EV.open {w:World} {P:Nat→Prop} {d:Sx.Tr} {v:Value} (h:EV w P d v): ∃ n op nm k L a len cap,len=L.length∧d=Sx.tE op nm k L∧v= .agg #[.int .i64 op,.string (bs nm),.int .i64 k,.slice a len cap]∧EL w P n L (.slice a len cap):=by
 obtain ⟨n,op,nm,k,L,a,cap,h1,h2,h3⟩:=h
 exact ⟨n,op,nm,k,L,a,_,cap,rfl,h1,h2,h3⟩
theorem EL.one {w:World} {P:Nat→Prop} {n b off cap:Nat} {O K:Int} {nm:List UInt8} {L:List Sx.Tr} {u:Value} (hB:P b)
  (h0:w.cell? ⟨b,off,none⟩=some (.int .i64 O)) (h1:w.cell? ⟨b,off+1,none⟩=some (.string (bs nm))) (h2:w.cell? ⟨b,off+2,none⟩=some (.int .i64 K)) (h3:w.cell? ⟨b,off+3,none⟩=some u)
  (h:EL w P n L u):EL w P (n+1) [Sx.tE O nm K L] (.slice (some ⟨b,off,none⟩) 1 cap):=by
 refine ⟨_,cap,rfl,.inr ⟨b,off,rfl,hB,fun i d hd=> ?_⟩⟩
 match i,hd with
 |0,hd=>
  simp at hd
  exact ⟨O,nm,K,L,u,hd.symm,by simpa using h0,by simpa using h1,by simpa using h2,by simpa using h3,h⟩
theorem EL.two {w:World} {P:Nat→Prop} {n b cap:Nat} {O1 K1 O2 K2:Int} {nm1 nm2:List UInt8} {L1 L2:List Sx.Tr} {u1 u2:Value} (hB:P b)
  (h0:w.cell? ⟨b,0,none⟩=some (.int .i64 O1)) (h1:w.cell? ⟨b,1,none⟩=some (.string (bs nm1))) (h2:w.cell? ⟨b,2,none⟩=some (.int .i64 K1)) (h3:w.cell? ⟨b,3,none⟩=some u1)
  (h4:w.cell? ⟨b,4,none⟩=some (.int .i64 O2)) (h5:w.cell? ⟨b,5,none⟩=some (.string (bs nm2))) (h6:w.cell? ⟨b,6,none⟩=some (.int .i64 K2)) (h7:w.cell? ⟨b,7,none⟩=some u2)
  (h:EL w P n L1 u1) (h':EL w P n L2 u2):EL w P (n+1) [Sx.tE O1 nm1 K1 L1,Sx.tE O2 nm2 K2 L2] (.slice (some ⟨b,0,none⟩) 2 cap):=by
 refine ⟨_,cap,rfl,.inr ⟨b,0,rfl,hB,fun i d hd=> ?_⟩⟩
 match i,hd with
 |0,hd=>
  simp at hd
  exact ⟨O1,nm1,K1,L1,u1,hd.symm,by simpa using h0,by simpa using h1,by simpa using h2,by simpa using h3,h⟩
 |1,hd=>
  simp at hd
  exact ⟨O2,nm2,K2,L2,u2,hd.symm,by simpa using h4,by simpa using h5,by simpa using h6,by simpa using h7,h'⟩
theorem zb4 (op:Int) (nm:ByteArray) (k:Int) (a:Option Addr) (len cap:Nat) (c:Cx) (w:World) (n:Nat) (s:Sx.St) (h:RD c w n s) (hp:s.parts+1+(c.full.length - n)≤12000):
  Calls Tryz.prog 199 #[.pointer (some ⟨c.rb,0,none⟩),.agg #[.int .i64 op,.string nm,.int .i64 k,.slice a len cap]] w fun e w'=>
   e= .returned (.agg #[.int .i64 op,.string nm,.int .i64 k,.slice a len cap])∧RD c w' n s.part∧Kp [c.rb] w w':=by
 have HH:=hide h
 have c6:=h.c6
 have f6:=h.fz 6
 have hr:=h.rlt
 have hr': ¬ c.rb=w.heap.size:=by omega
 have hr2: ¬ c.rb=w.heap.size+1:=by omega
 have hs:s.parts≤12000:=by omega
 clear h
 go_enter Tryz.func199,Tryz.ntmps199
 go_wp2
 refine bodyPost_ret (v:= .agg #[.int .i64 op,.string nm,.int .i64 k,.slice a len cap]) (by simp [results,Tryz.results199,go_sem]) rfl ⟨rfl,?_,?_⟩
 ·exact ((HH.out.part hp).alloc _).alloc _
 ·exact ((Kp.rb (Kp.refl _ _) _ _).alloc _).alloc _
end Go.Proofs.YtagblibbngmbdaaGreatDoor
