import Derived.Test.YtagblibbngmbdaaGreatDoorMaq
import Derived.Test.YtagblibbngmbdaaGreatDoorMai
set_option maxRecDepth 100000
set_option maxHeartbeats 4000000
namespace Go.Proofs.YtagblibbngmbdaaGreatDoor
open Go.RowKit
theorem za1 {R:World→(Nat→Prop)→Sx.Tr→List Value→Prop} (hkeep: ∀ (w w':World) (S:List Nat) (P:Nat→Prop) d c,R w P d c→Kp S w w'→(∀ k,k ∈ S→ ¬ P k)→R w' P d c)
  (hbase: ∀ (w:World) (P P':Nat→Prop) d c,R w P d c→(∀ b,b<w.heap.size→P b→P' b)→R w P' d c) {B g:Nat} {W w3:World} {v:Value} {l:List Sx.Tr} {cs:List Value}
  (h:Rw (R W (fun b=>B≤b∧some b ≠ v.ownBlock)) l cs) (hg:W.grownBy w3 v.ownBlock) (hat:v.ownBlock=some g∨g=W.heap.size):Rw (R w3 (fun b=>B≤b∧some b ≠ some g)) l cs:=by
 refine h.mono (fun d c hd=> ?_)
 have h1:=hbase W _ (fun b=>B≤b∧some b ≠ v.ownBlock∧b ≠ g) d c hd (fun b hb hP=>⟨hP.1,hP.2,fun e=>by
  rcases hat with ha|ha
  ·exact hP.2 (by rw [ha,e])
  ·omega⟩)
 have h2:=hkeep W w3 _ _ d c h1 (Kp.of_grown hg) (fun k hk hP=>hP.2.1 (Option.mem_toList.1 hk).symm)
 exact hbase w3 _ _ d c h2 (fun b _ hP=>⟨hP.1,fun e=>hP.2.2 (by simpa using e)⟩)
theorem zb7 (w:World) (n:Nat) (hn:n=w.heap.size) (a b c d e f g h i:Value) (t:TypeId): ∀ (j:Nat) (v:Value),[a,b,c,d,e,f,g,h,i][j]? =some v→(w.alloc (.cells #[a,b,c,d,e,f,g,h,i] t)).cell? ((⟨n,0,none⟩:Addr).add j)=some v:=by
 intro j v hj
 subst hn
 rw [Addr.add_mid]
 match j,hj with
 |0,hj=>simp at hj;subst hj;simp [go_sem]
 |1,hj=>simp at hj;subst hj;simp [go_sem]
 |2,hj=>simp at hj;subst hj;simp [go_sem]
 |3,hj=>simp at hj;subst hj;simp [go_sem]
 |4,hj=>simp at hj;subst hj;simp [go_sem]
 |5,hj=>simp at hj;subst hj;simp [go_sem]
 |6,hj=>simp at hj;subst hj;simp [go_sem]
 |7,hj=>simp at hj;subst hj;simp [go_sem]
 |8,hj=>simp at hj;subst hj;simp [go_sem]
theorem zb8 {w:World} {B t z n:Nat} {v:Value} {xs:List Value} (h:w.ownsRow B t z v n xs): ∀ k,some k=v.ownBlock→k<w.heap.size:=by
 intro k hk
 rcases h.2 with ⟨rfl,_⟩|⟨g,cap,cur,rfl,hB,hg,_⟩
 ·simp [Value.ownBlock] at hk
 ·simp [Value.ownBlock] at hk
  rw [hk]
  rcases Nat.lt_or_ge g w.heap.size with h'|h'
  ·exact h'
  ·rw [Array.getElem?_eq_none h'] at hg;cases hg
theorem zkj (e f:Nat) (acc l:List Sx.Tr) (s s':Sx.St) (ts r:List Tk.Tok) (h:Sx.ps e f 1 acc s ts= .inl (l,s',r)):r.length<ts.length:=by
 cases f with
 |zero=>cases h
 |succ f=>
  rw [Sx.ps_1] at h
  split at h
  ·cases h
  ·rename_i h0
   have hne:=zlu h0
   have hl:ts.tail.length+1=ts.length:=by
    cases ts with
    |nil=>exact absurd rfl hne
    |cons a b=>rfl
   split at h
   ·cases h
   ·split at h
    ·obtain ⟨x,s1,r1,h1,h2⟩:=Sx.bnd_ok h
     obtain ⟨u3,s3,r3,h5,h6⟩:=Sx.bnd_ok h2
     obtain ⟨_,_,rfl⟩:=Sx.inl_ok h6
     have k:=((Sx.plain_keeps _ _ _ _ _ _ _ _ h1).trans (Sx.skp_keeps h5)).len
     omega
    ·obtain ⟨x,s1,r1,h1,h2⟩:=Sx.bnd_ok h
     obtain ⟨body,s2,r2,h3,h4⟩:=Sx.bnd_ok h2
     obtain ⟨els,s3,r3,h5,h6⟩:=Sx.bnd_ok h4
     obtain ⟨_,_,rfl⟩:=Sx.inl_ok h6
     have k1:=(Sx.nestA_keeps _ _ _ _ _ _ _ _ h1).len
     have k2:=(Sx.ps_keeps _ _ _ _ _ _ _ _ _ h3).kp.len
     have k3:r3.length≤r2.length:=by
      split at h5
      ·obtain ⟨u7,s7,r7,h7,h8⟩:=Sx.bnd_ok h5
       exact ((Sx.skp_keeps h7).trans (Sx.ps_keeps _ _ _ _ _ _ _ _ _ h8).kp).len
      ·obtain ⟨_,_,rfl⟩:=Sx.inl_ok h5
       exact Nat.le_refl _
     omega
theorem zif (f:Nat) (hS: ∀ f',f'≤f→CS f'):CB (f+1):=by
 intro c w n s h hf
 obtain ⟨i0,hi0,hz0,hz1,hz2⟩:=info_parts Tryz.infoStmt
 have hP:=Sx.ps_0 c.e f [] s (c.full.drop n)
 have HF:=hide hf
 have HH:=hide h
 have HB:=hide h.lt
 have HCS:=hide hS
 have hr:=h.rlt
 have c4:=h.c4
 have f4:=h.fz 4
 have b4:=h.b4
 by_cases ht:Sx.txt (c.full.drop n)=[123]
 ·by_cases h8:s.dep=8
  ·rw [if_pos ⟨ht,h8⟩] at hP
   have HP:Hid (Sx.ps c.e (f+1) 0 [] s (c.full.drop n)= .inr (7,Sx.place c.e (c.full.drop n),c.full.drop n)):=hP
   have HT:=hide ht
   rw [h8] at c4
   clear h hf hS hP ht h8
   go_enter Tryz.func110,Tryz.ntmps110
   go_wp2_with fail
   refine (zal ⟨#[123]⟩ HT.out HH.out).mono ?_
   rintro e w1 ⟨rfl,k1,rfl⟩
   go_wp2_with fail
   refine (za9 7 c _ n s (by exact HH.out.drewN _)).mono ?_
   rintro e w2 ⟨rfl,hb⟩
   go_wp2
   rw [HP.out]
   exact ⟨rfl,rfl,((Kp.refl _ _).drewN _).trans (Kp.of_below hb)⟩
  ·have hsk:Sx.skp c.e [123] s (c.full.drop n)= .inl ((),s,c.full.drop (n+1)):=by
    unfold Sx.skp
    rw [if_pos ht,List.tail_drop]
   rw [if_neg (fun h=>h8 h.2),hsk] at hP
   have HP:Hid (Sx.ps c.e (f+1) 0 [] s (c.full.drop n)=Sx.bnd (Sx.ps c.e f 2 [] s.up (c.full.drop (n+1))) fun l s r=>Sx.bnd (Sx.skp c.e [125] s r) fun _ s r=> .inl (l,s.down,r)):=hP
   have HT:=hide ht
   have HSK:=hide hsk
   have d8:((s.dep:Int) == 8)=false:=by simp;omega
   have hl8:s.dep<8:=by omega
   have HF1:Hid (¬ Dry (Sx.ps c.e f 2 [] s.up (c.full.drop (n+1)))):=by
    have h1:=HF.out
    rw [HP.out] at h1
    exact Dry.bnd h1
   clear h hf hS hP ht h8 hsk
   go_enter Tryz.func110,Tryz.ntmps110
   go_wp2_with fail
   refine (zal ⟨#[123]⟩ HT.out HH.out).mono ?_
   rintro e w1 ⟨rfl,k1,rfl⟩
   go_wp2_with fail
   refine (zak ⟨#[123]⟩ (by simp) c _ n s (by exact HH.out.drewN _)).mono ?_
   intro e w2 hp
   rw [show (⟨#[123]⟩:ByteArray).data.toList=[123] from rfl,HSK.out] at hp
   obtain ⟨v2,n2,rfl,hv2,hr2,hd2,hk2⟩:=hp
   rw [hr2] at HP HF1
   have HD2:=hide hd2
   have K2:Hid (Kp [c.rb] w w2):=((Kp.refl _ _).drewN _).trans hk2
   have g4:=hd2.c4
   have gf:=hd2.fz 4
   clear hr2 hd2 hk2 hv2 c4 f4
   go_wp2
   go_loopw [3] (fun v wr=> ∃ (f2 n3 m:Nat) (acc:List Sx.Tr) (s3:Sx.St) (cs:List Value),f2≤f∧Hid (Sx.ps c.e f 2 [] s.up (c.full.drop n2)=Sx.ps c.e f2 2 acc s3 (c.full.drop n3))∧Hid (RD c wr n3 s3)∧Hid (Kp [c.rb] w wr)∧Hid (wr.ownsRow w.heap.size 51 9 v acc.length cs)∧
    Hid (Rw (RS wr (fun b=>w.heap.size≤b∧some b ≠ v.ownBlock) m) acc cs)∧acc.length≤s3.stmts∧0<s3.dep) (fun _ wr=>c.full.length - zcj c wr)
   case atStart=>exact ⟨f,n2,0,[],s.up,[],Nat.le_refl _,rfl,HD2.out.up hl8,Kp.rb K2.out _ _,World.ownsRow_nil _ _ _ _,rfl,by simp,by simp only [Sx.St.up];omega⟩
   case round=>
    obtain ⟨f2,n3,m,acc,s3,cs,hf2,HQ,HD,HK,HO,HR,hlen,hdep⟩:=hrel
    have HFr:Hid (¬ Dry (Sx.ps c.e f2 2 acc s3 (c.full.drop n3))):=by rw [←HQ.out];exact HF1.out
    obtain ⟨f3,rfl⟩: ∃ f3,f2=f3+1:=by
     cases f2 with
     |zero=>exact absurd ⟨_,_,rfl⟩ HFr.out
     |succ f3=>exact ⟨f3,rfl⟩
    have hE:=Sx.ps_2 c.e f3 2 acc s3 (c.full.drop n3) (Nat.le_refl _)
    have hz:=HK.out.size
    by_cases ht:Sx.txt (c.full.drop n3)=[125]
    ·rw [if_pos ht] at hE
     have HE:=hide hE
     have HT:=hide ht
     have hsk:Sx.skp c.e [125] s3 (c.full.drop n3)= .inl ((),s3,c.full.drop (n3+1)):=by
      unfold Sx.skp
      rw [if_pos ht,List.tail_drop]
     have HSK3:=hide hsk
     clear hE ht hsk
     go_wp2_with fail
     refine (zal ⟨#[125]⟩ HT.out HD.out).mono ?_
     rintro e w4 ⟨rfl,k4,rfl⟩
     go_wp2_with fail
     refine (zak ⟨#[125]⟩ (by simp) c _ n3 s3 (by exact HD.out.drewN _)).mono ?_
     intro e w5 hp
     rw [show (⟨#[125]⟩:ByteArray).data.toList=[125] from rfl,HSK3.out] at hp
     obtain ⟨v5,n5,rfl,hv5,hr5,hd5,hk5⟩:=hp
     have HD5:=hide hd5
     have HR5:=hide hr5
     have HK5:=hide hk5
     have j4:=hd5.c4
     have jf:=hd5.fz 4
     have jb:=hd5.b4
     clear hd5 hr5 hk5 hv5
     go_wp2
     go_ret
     rw [HP.out,HQ.out,HE.out]
     show Post c [c.rb] w _ (Sx.bnd (Sx.skp c.e [125] s3 (c.full.drop n3)) _) _ _
     rw [HSK3.out,HR5.out]
     have kz:Kp [c.rb] wr (w5.setCell ⟨c.rb,4,none⟩ (.int .i64 ((s3.dep:Int) - 1))):=Kp.rb (((Kp.refl _ _).drewN _).trans HK5.out) _ _
     refine ⟨_,n5,rfl,⟨m+1,?_⟩,rfl,HD5.out.down hdep,HK.out.trans kz⟩
     show Sl (RS _ _ m) _ _ _ _
     refine Sl.of_own (B:=w.heap.size) (zam HO.out kz (by simpa using hr)) rfl (fun b hb=>hb) ?_
     exact HR.out.mono (fun d cc hd=>(hd.keep kz (by simp;omega)).base (fun b _ hb=>hb.1))
    ·rw [if_neg ht] at hE
     have HE:=hide hE
     have HT:=hide ht
     have HFs:Hid (¬ Dry (Sx.ps c.e f3 1 [] s3 (c.full.drop n3))):=by
      have h1:=HFr.out
      rw [hE] at h1
      exact Dry.bnd h1
     clear hE ht
     go_wp2_with fail
     refine (zan ⟨#[125]⟩ HT.out HD.out).mono ?_
     rintro e w4 ⟨rfl,k4,rfl⟩
     go_wp2_with fail
     refine (HCS.out f3 (by omega) c _ n3 s3 (by exact HD.out.drewN _) HFs.out).mono ?_
     intro e w5 hp
     rcases hm5:Sx.ps c.e f3 1 [] s3 (c.full.drop n3) with ⟨l,s5,r5⟩|⟨code,p,rest⟩
     rotate_left
     ·rw [hm5] at hp
      obtain ⟨rfl,hk⟩:=hp
      refine ⟨rfl,?_⟩
      rw [HP.out,HQ.out,HE.out,hm5]
      exact ⟨rfl,(HK.out.drewN _).trans hk⟩
     rw [hm5] at hp
     obtain ⟨v5,n5,rfl,⟨m5,d,D,at',A,B,T,N,u0,u1,u2,hl5,hv5,⟨a0,x0,y0,hu0⟩,⟨a1,x1,y1,hu1⟩,⟨a2,x2,y2,hu2⟩,hRS⟩,hr5,hd5,hk5⟩:=hp
     subst hu0 hu1 hu2
     have hkp:=Sx.ps_keeps _ _ _ _ _ _ _ _ _ hm5
     have hone:=(hkp.one rfl).2
     have hkl:=hkp.kp.len
     have hkd:=hkp.kp.dep
     rw [hr5] at hkl
     simp only [List.length_drop] at hkl
     have hb3:=hd5.b3
     have hE5:Hid (Sx.ps c.e f 2 [] s.up (c.full.drop n2)=Sx.ps c.e f3 2 (acc++[d]) s5 (c.full.drop n5)):=by
      show _=_
      rw [HQ.out,HE.out,hm5,hr5,hl5]
      rfl
     rw [hv5]
     have HD5:=hide hd5
     have K5:Hid (Kp [c.rb] wr w5):=((Kp.refl _ _).drewN _).trans hk5
     have HO5:=hide (zam HO.out K5.out (by simpa using hr))
     have HR5:=hide (HR.out.mono (fun d cc hd=>hd.keep K5.out (by simp;omega)))
     have HRS:=hide hRS
     have HOL:=hide (zb8 HO.out)
     have hsz5:=hk5.size
     simp at hsz5
     have hdep5:0<s5.dep:=by omega
     have hnlt:n3<n5:=by
      have h1:=zkj _ _ _ _ _ _ _ _ hm5
      rw [hr5] at h1
      simp only [List.length_drop] at h1
      have h2:=hd5.hn
      omega
     clear hm5 hr5 hd5 hk5 hl5 hv5 hRS hkp
     go_wp2_with (at_builtin;refine wpList_append_lies _ rfl _ _ 41 rfl w.heap.size 51 i0 (.agg #[.int .i64 0,.int .i64 0,.string ⟨#[]⟩,.string ⟨#[]⟩,.string ⟨#[]⟩,.int .i64 0,.slice none 0 0,.slice none 0 0,.slice none 0 0]) 9 144 Tryz.underlying41 hi0 hz0 hz1 hz2 rfl (by decide) _ _ _ rfl (by exact HO5.out.alloc _) ⟨w5.heap.size,0,none⟩ 1 1 [.int .i64 D,.int .i64 at',.string A,.string B,.string T,.int .i64 N,.slice a0 x0 y0,.slice a1 x1 y1,.slice a2 x2 y2] rfl rfl ?c1 ?c2 ?c3 ?c4 ?c5 ?c6 _ rfl ?_)
     case c1=>exact zb7 _ _ rfl _ _ _ _ _ _ _ _ _ _
     case c2=>intro u hu;simp at hu;rcases hu with rfl|rfl|rfl|rfl|rfl|rfl|rfl|rfl|rfl<;> rfl
     case c3=>decide
     case c4=>unfold maxLen;omega
     case c5=>omega
     case c6=>simp;omega
     ·intro g cap w6 hown hgrow hat hlt
      have hblk:=zau HO5.out
      have hR:Rw (RS (w5.alloc (.cells #[.int .i64 D,.int .i64 at',.string A,.string B,.string T,.int .i64 N,.slice a0 x0 y0,.slice a1 x1 y1,.slice a2 x2 y2] 51)) (fun b=>w.heap.size≤b∧some b ≠ Value.ownBlock u3) (m+m5)) (acc++[d]) (cs++[.int .i64 D,.int .i64 at',.string A,.string B,.string T,.int .i64 N,.slice a0 x0 y0,.slice a1 x1 y1,.slice a2 x2 y2]):=by
       refine Rw.snoc (HR5.out.mono (fun d cc hd=>(hd.keep (S:=[]) ((Kp.refl _ _).alloc _) (by simp)).more m5)) ?_
       rw [Nat.add_comm m m5]
       refine ((HRS.out.base (P':=fun b=>w.heap.size≤b∧some b ≠ Value.ownBlock u3) (fun b _ hb=> ?_)).keep (S:=[]) ((Kp.refl _ _).alloc _) (by simp)).more m
       simp at hb
       exact ⟨by omega,fun e=>by have:=HOL.out b e;omega⟩
      have hR6:=za1 (R:=fun w P d c=>RS w P (m+m5) d c) (fun w w' S P d c h hk hS=>h.keep hk hS) (fun w P P' d c h hP=>h.base hP) hR hgrow (by simpa using hat)
      have HR6:=hide hR6
      have HO6:Hid (w6.ownsRow w.heap.size 51 9 (.slice (some ⟨g,0,none⟩) (acc.length+1) cap) (acc++[d]).length (cs++[.int .i64 D,.int .i64 at',.string A,.string B,.string T,.int .i64 N,.slice a0 x0 y0,.slice a1 x1 y1,.slice a2 x2 y2])):=by
       rw [List.length_append]
       exact hown
      have HD6:=hide ((HD5.out.alloc (.cells #[.int .i64 D,.int .i64 at',.string A,.string B,.string T,.int .i64 N,.slice a0 x0 y0,.slice a1 x1 y1,.slice a2 x2 y2] 51)).grown hgrow hblk HB.out)
      have HK6:=hide ((((HK.out.trans K5.out).alloc (.cells #[.int .i64 D,.int .i64 at',.string A,.string B,.string T,.int .i64 N,.slice a0 x0 y0,.slice a1 x1 y1,.slice a2 x2 y2] 51)).grown hgrow (fun k hk=> .inl (hblk k (by rw [hk];simp)))))
      clear hR hR6 hown hgrow hat
      go_wp2
      refine ⟨⟨f3,n5,m+m5,acc++[d],s5,_,by omega,hE5.out,HD6.out,HK6.out,HO6.out,HR6.out,by simp;omega,hdep5⟩,?_⟩
      rw [HD6.out.nx,HD.out.nx]
      have h1:=HD6.out.hn
      omega
 ·have hsk:Sx.skp c.e [123] s (c.full.drop n)= .inr (Sx.ucode (c.full.drop n),Sx.place c.e (c.full.drop n),c.full.drop n):=by
   unfold Sx.skp
   rw [if_neg ht]
   rfl
  rw [if_neg (fun h=>ht h.1),hsk] at hP
  have HP:Hid (Sx.ps c.e (f+1) 0 [] s (c.full.drop n)= .inr (Sx.ucode (c.full.drop n),Sx.place c.e (c.full.drop n),c.full.drop n)):=hP
  have HT:=hide ht
  have HSK:=hide hsk
  clear h hf hS hP ht hsk
  go_enter Tryz.func110,Tryz.ntmps110
  go_wp2_with fail
  refine (zan ⟨#[123]⟩ HT.out HH.out).mono ?_
  rintro e w1 ⟨rfl,k1,rfl⟩
  go_wp2_with fail
  refine (zak ⟨#[123]⟩ (by simp) c _ n s (by exact HH.out.drewN _)).mono ?_
  intro e w2 hp
  rw [show (⟨#[123]⟩:ByteArray).data.toList=[123] from rfl,HSK.out] at hp
  obtain ⟨rfl,hk⟩:=hp
  refine ⟨rfl,?_⟩
  rw [HP.out]
  exact ⟨rfl,((Kp.refl _ _).drewN _).trans hk⟩
theorem zoh (h10: ∀ f,CP 10 f) (f:Nat):CB f∧CS f:=by
 induction f using Nat.strongRecOn with
 |ind f ih=>
  cases f with
  |zero=>
   refine ⟨?_,?_⟩
   all_goals
    intro c w n s h hf
    exact absurd ⟨_,_,rfl⟩ hf
  |succ f=>exact ⟨zif f (fun f' hf'=>(ih f' (by omega)).2),zki f (h10 f) (ih f (Nat.lt_succ_self _)).1⟩
end Go.Proofs.YtagblibbngmbdaaGreatDoor
namespace Go.Proofs.YtagblibbngmbdaaGreatDoor
open Go.RowKit
def RE (w:World) (P:Nat→Prop) (n:Nat) (d:Sx.Tr) (c:List Value):Prop:= ∃ op nm k L u,d=Sx.tE op nm k L∧c=[.int .i64 op,.string (bs nm),.int .i64 k,u]∧EL w P n L u
theorem zmk {w:World} {P:Nat→Prop} {n:Nat} (d:Sx.Tr) (c:List Value) (h:RE w P n d c):c.length=4:=by
 obtain ⟨op,nm,k,L,u,_,rfl,_⟩:=h;rfl
theorem EL.of_sl {w:World} {P:Nat→Prop} {n:Nat} {l:List Sx.Tr} {v:Value} (h:Sl (RE w P n) w P l v):EL w P (n+1) l v:=by
 obtain ⟨a,cap,hv,h⟩:=h
 refine ⟨a,cap,hv,h.imp id ?_⟩
 rintro ⟨b,off,cs,ha,hb,hr,hc⟩
 refine ⟨b,off,ha,hb,fun i d hd=> ?_⟩
 obtain ⟨c,⟨op,nm,k,L,u,h1,rfl,h3⟩,hcc⟩:=hr.at (z:=4) zmk i d hd
 refine ⟨op,nm,k,L,u,h1,?_,?_,?_,?_,h3⟩
 ·simpa using hc _ _ (hcc 0 _ rfl)
 ·simpa [Nat.add_assoc] using hc _ _ (hcc 1 _ rfl)
 ·simpa [Nat.add_assoc] using hc _ _ (hcc 2 _ rfl)
 ·simpa [Nat.add_assoc] using hc _ _ (hcc 3 _ rfl)
structure AB (c:Cx) (w0 w:World) (bx sb:Nat) (D at':Int) (A:ByteArray) (uE:Value) (acc:List Sx.Tr) (cs:List Value):Prop where
 s9:S9 w sb D at' A ⟨#[]⟩ ⟨#[]⟩ 0 uE (.slice none 0 0) (.slice none 0 0)
 b0:w.cell? ⟨bx,0,none⟩=some (.pointer (some ⟨c.rb,0,none⟩))
 b1:w.cell? ⟨bx+1,0,none⟩=some (.pointer (some ⟨sb,0,none⟩))
 own:w.ownsRow w0.heap.size 49 4 uE acc.length cs
 rw: ∃ m,Rw (RE w (fun b=>w0.heap.size≤b∧some b ≠ uE.ownBlock) m) acc cs
 sl: ∃ a n cap,uE= .slice a n cap
 bxs:bx ≠ sb∧bx+1 ≠ sb
 bxr:bx ≠ c.rb∧bx+1 ≠ c.rb
 sbr:sb ≠ c.rb
 blt:bx+1<w0.heap.size
 slt:sb<w0.heap.size
 blw:c.below w0.heap.size
theorem RE.keep {w w':World} {S:List Nat} {P:Nat→Prop} {n:Nat} {d:Sx.Tr} {c:List Value} (h:RE w P n d c) (hk:Kp S w w') (hS: ∀ k,k ∈ S→ ¬ P k):RE w' P n d c:=by
 obtain ⟨op,nm,k,L,u,h1,h2,h3⟩:=h
 exact ⟨op,nm,k,L,u,h1,h2,h3.keep hk hS⟩
theorem AB.go {c:Cx} {w0 w w1:World} {bx sb:Nat} {D at':Int} {A:ByteArray} {uE:Value} {acc:List Sx.Tr} {cs:List Value} (h:AB c w0 w bx sb D at' A uE acc cs) (hk:Kp [c.rb] w w1):AB c w0 w1 bx sb D at' A uE acc cs:=
 { h with
  s9:=h.s9.keep hk (by simpa using h.sbr)
  b0:=zaa hk h.b0 (by simpa using h.bxr.1)
  b1:=zaa hk h.b1 (by simpa using h.bxr.2)
  own:=zam h.own hk (by simpa using h.blw.1)
  rw:=by
   obtain ⟨m,hm⟩:=h.rw
   exact ⟨m,hm.mono (fun d c hd=>hd.keep hk (by have:=h.blw.1;simp;omega))⟩ }
theorem RE.base {w:World} {P P':Nat→Prop} {n:Nat} {d:Sx.Tr} {c:List Value} (h:RE w P n d c) (hP: ∀ b,b<w.heap.size→P b→P' b):RE w P' n d c:=by
 obtain ⟨op,nm,k,L,u,h1,h2,h3⟩:=h
 exact ⟨op,nm,k,L,u,h1,h2,h3.base hP⟩
theorem RE.more {w:World} {P:Nat→Prop} {n:Nat} {d:Sx.Tr} {c:List Value} (m:Nat) (h:RE w P n d c):RE w P (n+m) d c:=by
 obtain ⟨op,nm,k,L,u,h1,h2,h3⟩:=h
 exact ⟨op,nm,k,L,u,h1,h2,h3.more m⟩
theorem AB.add {c:Cx} {w0 w w3:World} {bx sb:Nat} {D at':Int} {A:ByteArray} {uE:Value} {acc:List Sx.Tr} {cs:List Value} (h:AB c w0 w bx sb D at' A uE acc cs) {g cap m:Nat} {x:Sx.Tr} {ns:List Value} (hg:w.grownBy w3 uE.ownBlock) (hat:uE.ownBlock=some g∨g=w.heap.size)
  (hx:RE w (fun b=>w0.heap.size≤b∧some b ≠ uE.ownBlock) m x ns) (hown:w3.ownsRow w0.heap.size 49 4 (.slice (some ⟨g,0,none⟩) (acc.length+1) cap) (acc.length+1) (cs++ns)):
  AB c w0 (w3.setCell ⟨sb,6,none⟩ (.slice (some ⟨g,0,none⟩) (acc.length+1) cap)) bx sb D at' A (.slice (some ⟨g,0,none⟩) (acc.length+1) cap) (acc++[x]) (cs++ns):=by
 have hrow:=zau h.own
 have hk:=Kp.of_grown hg
 have ks:Kp [sb] w3 (w3.setCell ⟨sb,6,none⟩ (.slice (some ⟨g,0,none⟩) (acc.length+1) cap)):=Kp.rb (Kp.refl _ _) _ _
 obtain ⟨m0,hm0⟩:=h.rw
 have hR:Rw (RE w (fun b=>w0.heap.size≤b∧some b ≠ uE.ownBlock) (m0+m)) (acc++[x]) (cs++ns):=by
  refine Rw.snoc (hm0.mono (fun d cc hd=>hd.more m)) ?_
  rw [Nat.add_comm]
  exact hx.more m0
 have hR3:=za1 (R:=fun w P d c=>RE w P (m0+m) d c) (fun w w' S P d c h hk hS=>h.keep hk hS) (fun w P P' d c h hP=>h.base hP) hR hg hat
 exact { h with
  s9:=(h.s9.keep hk (fun hm=>by have:=hrow _ hm;have:=h.slt;omega)).setE _
  b0:=(World.cell?_setCell_far _ _ _ _ h.bxs.1.symm).trans (zaa hk h.b0 (fun hm=>by have:=hrow _ hm;have:=h.blt;omega))
  b1:=(World.cell?_setCell_far _ _ _ _ h.bxs.2.symm).trans (zaa hk h.b1 (fun hm=>by have:=hrow _ hm;have:=h.blt;omega))
  own:=by
   rw [List.length_append]
   exact zam hown ks (by simpa using h.slt)
  rw:=⟨m0+m,hR3.mono (fun d cc hd=>hd.keep ks (fun k hk hP=>by simp at hk;have:=h.slt;omega))⟩
  sl:=⟨_,_,_,rfl⟩ }
theorem zc2 {w:World} {B t z n g cap:Nat} {xs:List Value} (h:w.ownsRow B t z (.slice (some ⟨g,0,none⟩) n cap) n xs):(∀ (j:Nat) u,xs[j]? =some u→w.cell? ⟨g,j,none⟩=some u)∧(∀ o,w.frozen? ⟨g,o,none⟩=false)∧g<w.heap.size:=by
 refine ⟨fun j u hu=> ?_,fun o=> ?_,zb8 h g rfl⟩
 ·have:=h.cells (g:=g) rfl j u hu
  rwa [Addr.add_mid,Nat.zero_add] at this
 ·rcases h.2 with ⟨hv,_⟩|⟨g',cap',cur,hv,hB,hg,_⟩
  ·cases hv
  ·cases hv
   simp [World.frozen?,hg]
theorem zer {w:World} {B t z n g cap:Nat} {xs:List Value} (h:w.ownsRow B t z (.slice (some ⟨g,0,none⟩) n cap) n xs) (j:Nat) (u:Value):(w.setCell ⟨g,j,none⟩ u).ownsRow B t z (.slice (some ⟨g,0,none⟩) n cap) n (xs.set j u):=by
 refine ⟨by rw [List.length_set];exact h.1,?_⟩
 rcases h.2 with ⟨hv,_⟩|⟨g',cap',cur,hv,hB,hg,h1,h2,h3,h4⟩
 ·cases hv
 ·cases hv
  refine .inr ⟨g,cap,cur.setIfInBounds j u,rfl,hB,?_,h1,h2,by simpa using h3,?_⟩
  ·simp [World.setCell,Array.getElem?_modify,hg]
  ·rw [←h4]
   apply List.ext_getElem?
   intro k
   simp only [Array.toList_setIfInBounds,List.getElem?_take,List.getElem?_set,List.length_take]
   by_cases hk:k<n * z
   ·rw [if_pos hk]
    by_cases hjk:j=k
    ·subst hjk
     rw [if_pos rfl,if_pos rfl]
     by_cases hl:j<cur.toList.length
     ·rw [if_pos hl,if_pos (by omega)]
     ·rw [if_neg hl,if_neg (by omega)]
    ·rw [if_neg hjk,if_neg hjk,if_pos hk]
   ·rw [if_neg hk,if_neg hk]
    by_cases hjk:j=k
    ·subst hjk
     rw [if_pos rfl,if_neg (by omega)]
    ·rw [if_neg hjk]
theorem zlv (cs:List Value) (a b c d z0 z1 z2 z3:Value) (n:Nat) (h:cs.length=n):((((cs++[z0,z1,z2,z3]).set n a).set (n+1) b).set (n+2) c).set (n+3) d=cs++[a,b,c,d]:=by
 subst h
 simp
theorem zg3 (cs:List Value) (z0 z1 z2 z3:Value) (n:Nat) (h:cs.length=n * 4):(cs++[z0,z1,z2,z3])[n * 4]? =some z0∧(cs++[z0,z1,z2,z3])[n * 4+1]? =some z1∧(cs++[z0,z1,z2,z3])[n * 4+2]? =some z2∧(cs++[z0,z1,z2,z3])[n * 4+3]? =some z3:=by
 rw [←h]
 simp
theorem AB.put {c:Cx} {w0 w1 wc:World} {bx sb:Nat} {D at':Int} {A:ByteArray} {uE uX:Value} {acc:List Sx.Tr} {cs:List Value} (h:AB c w0 w1 bx sb D at' A uE acc cs) {g cap m:Nat} {x:Sx.Tr} {a b d e z0 z1 z2 z3:Value}
  (hs:S9 wc sb D at' A ⟨#[]⟩ ⟨#[]⟩ 0 uX (.slice none 0 0) (.slice none 0 0)) (h0:wc.cell? ⟨bx,0,none⟩=some (.pointer (some ⟨c.rb,0,none⟩))) (h1:wc.cell? ⟨bx+1,0,none⟩=some (.pointer (some ⟨sb,0,none⟩)))
  (hown:wc.ownsRow w0.heap.size 49 4 (.slice (some ⟨g,0,none⟩) (acc.length+1) cap) (acc.length+1) (cs++[z0,z1,z2,z3])) (hcs:cs.length=acc.length * 4)
  (hrw:Rw (RE wc (fun b=>w0.heap.size≤b∧some b ≠ some g) m) (acc++[x]) (cs++[a,b,d,e])):
  AB c w0 (((((wc.setCell ⟨sb,6,none⟩ (.slice (some ⟨g,0,none⟩) (acc.length+1) cap)).setCell ⟨g,acc.length * 4,none⟩ a).setCell ⟨g,acc.length * 4+1,none⟩ b).setCell ⟨g,acc.length * 4+2,none⟩ d).setCell ⟨g,acc.length * 4+3,none⟩ e) bx sb D at' A (.slice (some ⟨g,0,none⟩) (acc.length+1) cap) (acc++[x]) (cs++[a,b,d,e]):=by
 have hgB:w0.heap.size≤g:=zau hown g (by simp [Value.ownBlock])
 have hgs:g ≠ sb:=by have:=h.slt;omega
 have k1:Kp [sb] wc (wc.setCell ⟨sb,6,none⟩ (.slice (some ⟨g,0,none⟩) (acc.length+1) cap)):=Kp.rb (Kp.refl _ _) _ _
 have k2:Kp [g] (wc.setCell ⟨sb,6,none⟩ (.slice (some ⟨g,0,none⟩) (acc.length+1) cap)) (((((wc.setCell ⟨sb,6,none⟩ (.slice (some ⟨g,0,none⟩) (acc.length+1) cap)).setCell ⟨g,acc.length * 4,none⟩ a).setCell ⟨g,acc.length * 4+1,none⟩ b).setCell ⟨g,acc.length * 4+2,none⟩ d).setCell ⟨g,acc.length * 4+3,none⟩ e):=
  Kp.rb (Kp.rb (Kp.rb (Kp.rb (Kp.refl _ _) _ _) _ _) _ _) _ _
 have k3:Kp [g,sb] wc (((((wc.setCell ⟨sb,6,none⟩ (.slice (some ⟨g,0,none⟩) (acc.length+1) cap)).setCell ⟨g,acc.length * 4,none⟩ a).setCell ⟨g,acc.length * 4+1,none⟩ b).setCell ⟨g,acc.length * 4+2,none⟩ d).setCell ⟨g,acc.length * 4+3,none⟩ e):=(k1.mono (by simp)).trans (k2.mono (by simp))
 have hb:=h.blt
 have hb2:=h.bxs
 exact { h with
  s9:=(hs.setE _).keep k2 (by simpa using hgs.symm)
  b0:=zaa k3 h0 (by simp;omega)
  b1:=zaa k3 h1 (by simp;omega)
  own:=by
   rw [List.length_append,←zlv cs a b d e z0 z1 z2 z3 (acc.length * 4) hcs]
   exact zer (zer (zer (zer (zam hown k1 (by simpa using h.slt)) _ _) _ _) _ _) _ _
  rw:=⟨m,hrw.mono (fun dd cc hd=>hd.keep k3 (fun k hk hP=>by
   simp at hk
   rcases hk with rfl|rfl
   ·exact hP.2 rfl
   ·have:=h.slt;omega))⟩
  sl:=⟨_,_,_,rfl⟩ }
end Go.Proofs.YtagblibbngmbdaaGreatDoor
namespace Go.Proofs.YtagblibbngmbdaaGreatDoor
open Go.RowKit
def CE (n:Nat):Prop:= ∀ (w:World) (P:Nat→Prop) (l:List Sx.Tr) (v:Value),EL w P n l v→Sx.wE n l≤1000000→
 Calls Tryz.prog 35 #[v] w fun e w'=> ∃ a cap,e= .returned (.slice a l.length cap)∧EL w' (fun b=>w.heap.size≤b) n l (.slice a l.length cap)∧Kp [] w w'
theorem wE_nth (n:Nat) (l:List Sx.Tr) (hw:Sx.wE (n+1) l≤1000000): ∀ (i:Nat) d,l[i]? =some d→Sx.wE n (Sx.eL d)≤1000000:=fun i d hd=>by
 have h1:Sx.sum (fun d=>Sx.wE n (Sx.eL d)) (l.take (i+1))=Sx.sum (fun d=>Sx.wE n (Sx.eL d)) (l.take i)+Sx.wE n (Sx.eL d):=Sx.sum_take (fun d=>Sx.wE n (Sx.eL d)) l i d hd
 have h2:=Sx.sum_take_le (fun d=>Sx.wE n (Sx.eL d)) l (i+1)
 have:l.length+Sx.sum (fun d=>Sx.wE n (Sx.eL d)) l=Sx.wE (n+1) l:=rfl
 omega
theorem zb1 {l:List Sx.Tr} {k:Nat} {d:Sx.Tr} (h:l[k]? =some d):l.take (k+1)=l.take k++[d]:=by
 rw [List.take_add_one,h]
 rfl
theorem zdu (n:Nat) (ih:CE n):CE (n+1):=by
 intro w P l v h hw
 obtain ⟨a,cap,rfl⟩:=h.slice
 obtain ⟨i0,hi0,hz0,hz1,hz2⟩:=info_parts Tryz.infoExpr
 have HS:=hide h
 have IH:=hide ih
 have hl:l.length≤1000000:=by have:l.length+_=Sx.wE (n+1) l:=rfl;omega
 have HWT:=hide (wE_nth n l hw)
 clear h ih hw
 go_enter Tryz.func35,Tryz.ntmps35
 go_wp2
 go_loopw [3,4] (fun v iv wr=> ∃ (k:Nat) (cs:List Value),k≤l.length∧iv= .int .i64 k∧Hid (Kp [] w wr)∧Hid (wr.ownsRow w.heap.size 49 4 v k cs)∧Hid (Rw (RE wr (fun b=>w.heap.size≤b∧some b ≠ v.ownBlock) n) (l.take k) cs)) (fun _ iv _=>l.length - (intOf iv).toNat)
 case atStart=>exact ⟨0,[],Nat.zero_le _,rfl,Kp.refl _ _,World.ownsRow_nil _ _ _ _,by show Rw _ _ _;rw [List.take_zero];rfl⟩
 case round=>
  obtain ⟨k,cs,hk,rfl,HK,HO,HR⟩:=hrel
  have hz:=HK.out.size
  by_cases hlt:k<l.length
  ·obtain ⟨b,off,op,nm,z,L,aL,cL,rfl,-,hd,m0,m1,m2,m3,hL⟩:=(HS.out.keep HK.out (by simp)).nth k hlt
   have hwt:Sx.wE n L≤1000000:=HWT.out k _ hd
   have HD:=hide hd
   have HL:=hide hL
   have HOL:=hide (zb8 HO.out)
   have hk0:(0:Int)≤(k:Int):=by omega
   have hk1:(k:Int)<(l.length:Int):=by omega
   have hblt:=World.block_lt_of_cell? _ _ m0
   clear hL hd
   go_wp2_with fail
   refine (IH.out _ P L _ (HL.out.keep ((Kp.refl [] _).alloc _) (by simp)) hwt).mono ?_
   rintro e w1 ⟨a5,cap5,rfl,hEL,hk5⟩
   have c0:w1.cell? ⟨wr.heap.size,0,none⟩=some (.int .i64 op):=hk5.some (by simp [go_sem]) (by simp)
   have c1:w1.cell? ⟨wr.heap.size,1,none⟩=some (.string (bs nm)):=hk5.some (by simp [go_sem]) (by simp)
   have c2:w1.cell? ⟨wr.heap.size,2,none⟩=some (.int .i64 z):=hk5.some (by simp [go_sem]) (by simp)
   have c3:w1.cell? ⟨wr.heap.size,3,none⟩=some (.slice aL L.length cL):=hk5.some (by simp [go_sem]) (by simp)
   have f3:w1.frozen? ⟨wr.heap.size,3,none⟩=false:=(hk5.frozen (p:=⟨wr.heap.size,3,none⟩) (by simp) (by simp)).trans (by simp [go_sem])
   have K5:Hid (Kp [] wr (w1.setCell ⟨wr.heap.size,3,none⟩ (.slice a5 L.length cap5))):=(((Kp.refl [] _).alloc _).trans hk5).nb (Nat.le_refl _) _ _
   have hs5:wr.heap.size<w1.heap.size:=World.block_lt_of_cell? _ _ c0
   have HRE:Hid (RE (w1.setCell ⟨wr.heap.size,3,none⟩ (.slice a5 L.length cap5)) (fun b=>wr.heap.size<b) n (Sx.tE op nm z L) [.int .i64 op,.string (bs nm),.int .i64 z,.slice a5 L.length cap5]):=
    ⟨op,nm,z,L,_,rfl,rfl,(hEL.base (P':=fun b=>wr.heap.size<b) (fun b _ hb=>by simp at hb;omega)).keep (Kp.rb (S:=[]) (Kp.refl _ _) _ _) (by simp)⟩
   have HO5:=hide (zam HO.out K5.out (by simp))
   have HR5:=hide (HR.out.mono (fun d cc hd=>hd.keep K5.out (by simp)))
   clear hEL hk5
   go_wp2_with (at_builtin;refine wpList_append_lies _ rfl _ _ 47 rfl w.heap.size 49 i0 (.agg #[.int .i64 0,.string ⟨#[]⟩,.int .i64 0,.slice none 0 0]) 4 56 Tryz.underlying47 hi0 hz0 hz1 hz2 rfl (by decide) _ _ _ rfl (by exact HO5.out.alloc _) ⟨w1.heap.size,0,none⟩ 1 1 [.int .i64 op,.string (bs nm),.int .i64 z,.slice a5 L.length cap5] rfl rfl ?c1 ?c2 ?c3 ?c4 ?c5 ?c6 _ rfl ?_)
   case c1=>exact zap _ _ (by simp [World.setCell]) _ _ _ _ _
   case c2=>intro u hu;simp at hu;rcases hu with rfl|rfl|rfl|rfl<;> rfl
   case c3=>decide
   case c4=>unfold maxLen;omega
   case c5=>omega
   case c6=>simp [World.setCell];omega
   ·intro g cap6 w6 hown hgrow hat hlt6
    have hblk:=zau HO5.out
    have hR:Rw (RE ((w1.setCell ⟨wr.heap.size,3,none⟩ (.slice a5 L.length cap5)).alloc (.cells #[.int .i64 op,.string (bs nm),.int .i64 z,.slice a5 L.length cap5] 49)) (fun b=>w.heap.size≤b∧some b ≠ Value.ownBlock u3) n) (l.take k++[Sx.tE op nm z L]) (cs++[.int .i64 op,.string (bs nm),.int .i64 z,.slice a5 L.length cap5]):=by
     refine Rw.snoc (HR5.out.mono (fun d cc hd=>hd.keep (S:=[]) ((Kp.refl _ _).alloc _) (by simp))) ?_
     refine (HRE.out.base (P':=fun b=>w.heap.size≤b∧some b ≠ Value.ownBlock u3) (fun b _ hb=> ?_)).keep (S:=[]) ((Kp.refl _ _).alloc _) (by simp)
     exact ⟨by omega,fun e=>by have:=HOL.out b e;omega⟩
    have hR6:=za1 (R:=fun w P d c=>RE w P n d c) (fun w w' S P d c h hk hS=>h.keep hk hS) (fun w P P' d c h hP=>h.base hP) hR hgrow (by simpa [World.setCell] using hat)
    rw [←zb1 HD.out] at hR6
    have HR6:=hide hR6
    have HO6:=hide hown
    have HK6:=hide (((HK.out.trans K5.out).alloc (.cells #[.int .i64 op,.string (bs nm),.int .i64 z,.slice a5 L.length cap5] 49)).grown hgrow (fun k hk=> .inl (hblk k (by rw [hk];simp))))
    clear hR hR6 hown hgrow hat
    go_wp2
    go_roundw
    case rel=>exact ⟨k+1,_,by omega,by go_num,HK6.out,HO6.out,HR6.out⟩
    case measure=>simp [intOf];omega
  ·obtain rfl:k=l.length:=by omega
   have hR:=HR.out
   rw [List.take_length] at hR
   have hSl:Sl (RE wr (fun b=>w.heap.size≤b) n) wr (fun b=>w.heap.size≤b) l u3:=Sl.of_own HO.out rfl (fun b hb=>hb) (hR.mono (fun d cc hd=>hd.base (fun b _ hb=>hb.1)))
   obtain ⟨a5,c5,rfl,-⟩:=id hSl
   have HSl:=hide hSl
   clear hR hSl
   go_wp2
   go_ret
   exact ⟨a5,c5,rfl,EL.of_sl HSl.out,HK.out⟩
theorem zes (n:Nat):CE n:=by
 induction n with
 |zero=>intro w P l v h;cases h
 |succ n ih=>exact zdu n ih
end Go.Proofs.YtagblibbngmbdaaGreatDoor
namespace Go.Proofs.YtagblibbngmbdaaGreatDoor
open Go.RowKit
def CSt (n:Nat):Prop:= ∀ (w:World) (P:Nat→Prop) (l:List Sx.Tr) (v:Value),SL w P n l v→Sx.wS n l≤1000000→
 Calls Tryz.prog 18 #[v] w fun e w'=> ∃ a cap,e= .returned (.slice a l.length cap)∧SL w' (fun b=>w.heap.size≤b) n l (.slice a l.length cap)∧Kp [] w w'
theorem znc (n:Nat) (l:List Sx.Tr) (hw:Sx.wS (n+1) l≤1000000): ∀ (i:Nat) d,l[i]? =some d→Sx.wE n (Sx.sE d)+Sx.wS n (Sx.sB d)+Sx.wS n (Sx.sO d)≤1000000:=fun i d hd=>by
 have h1:Sx.sum (fun d=>Sx.wE n (Sx.sE d)+Sx.wS n (Sx.sB d)+Sx.wS n (Sx.sO d)) (l.take (i+1))=Sx.sum (fun d=>Sx.wE n (Sx.sE d)+Sx.wS n (Sx.sB d)+Sx.wS n (Sx.sO d)) (l.take i)+(Sx.wE n (Sx.sE d)+Sx.wS n (Sx.sB d)+Sx.wS n (Sx.sO d)):=Sx.sum_take _ l i d hd
 have h2:=Sx.sum_take_le (fun d=>Sx.wE n (Sx.sE d)+Sx.wS n (Sx.sB d)+Sx.wS n (Sx.sO d)) l (i+1)
 have:l.length+Sx.sum (fun d=>Sx.wE n (Sx.sE d)+Sx.wS n (Sx.sB d)+Sx.wS n (Sx.sO d)) l=Sx.wS (n+1) l:=rfl
 omega
theorem zdv (n:Nat) (ih:CSt n):CSt (n+1):=by
 intro w P l v h hw
 obtain ⟨a,cap,rfl⟩:=h.slice
 obtain ⟨i0,hi0,hz0,hz1,hz2⟩:=info_parts Tryz.infoStmt
 have HS:=hide h
 have IH:=hide ih
 have IHE:=hide (zes n)
 have hl:l.length≤1000000:=by have:l.length+_=Sx.wS (n+1) l:=rfl;omega
 have HWT:=hide (znc n l hw)
 clear h ih hw
 go_enter Tryz.func18,Tryz.ntmps18
 go_wp2
 go_loopw [3,4] (fun v iv wr=> ∃ (k:Nat) (cs:List Value),k≤l.length∧iv= .int .i64 k∧Hid (Kp [] w wr)∧Hid (wr.ownsRow w.heap.size 51 9 v k cs)∧Hid (Rw (RS wr (fun b=>w.heap.size≤b∧some b ≠ v.ownBlock) n) (l.take k) cs)) (fun _ iv _=>l.length - (intOf iv).toNat)
 case atStart=>exact ⟨0,[],Nat.zero_le _,rfl,Kp.refl _ _,World.ownsRow_nil _ _ _ _,by show Rw _ _ _;rw [List.take_zero];rfl⟩
 case round=>
  obtain ⟨k,cs,hk,rfl,HK,HO,HR⟩:=hrel
  have hz:=HK.out.size
  by_cases hlt:k<l.length
  ·obtain ⟨b,off,D,at',A,B,T,N,E,body,els,uE,uB,uL,rfl,-,hd,m0,m1,m2,m3,m4,m5,m6,m7,m8,hE,hB,hL⟩:=(HS.out.keep HK.out (by simp)).nth k hlt
   obtain ⟨aE,cE,rfl⟩:=hE.slice
   obtain ⟨aB,cB,rfl⟩:=hB.slice
   obtain ⟨aL,cL,rfl⟩:=hL.slice
   have hwt:Sx.wE n E+Sx.wS n body+Sx.wS n els≤1000000:=HWT.out k _ hd
   have HD:=hide hd
   have HE:=hide hE
   have HB:=hide hB
   have HL:=hide hL
   have HOL:=hide (zb8 HO.out)
   have hk0:(0:Int)≤(k:Int):=by omega
   have hk1:(k:Int)<(l.length:Int):=by omega
   have hblt:=World.block_lt_of_cell? _ _ m0
   have HN:=hide (S9.new wr D at' (bs A) (bs B) (bs T) N (.slice aE E.length cE) (.slice aB body.length cB) (.slice aL els.length cL) 51)
   clear hE hB hL hd
   go_wp2_with fail
   refine (IHE.out _ P E _ (HE.out.keep ((Kp.refl [] _).alloc _) (by simp)) (by omega)).mono ?_
   rintro e w1 ⟨a5,cap5,rfl,hE5,hk5⟩
   have hs1:=HN.out.keep hk5 (by simp)
   have HS1:=hide (hs1.setE (.slice a5 E.length cap5))
   have K1:Hid (Kp [] wr (w1.setCell ⟨wr.heap.size,6,none⟩ (.slice a5 E.length cap5))):=(((Kp.refl [] _).alloc _).trans hk5).nb (Nat.le_refl _) _ _
   have HE5:=hide ((hE5.base (P':=fun b=>wr.heap.size<b) (fun b _ hb=>by simp at hb;omega)).keep (Kp.rb (b:=wr.heap.size) (S:=[]) (Kp.refl _ _) 6 (.slice a5 E.length cap5)) (by simp))
   have hsz1:=hs1.lt
   obtain ⟨-,-,-,-,-,-,x6,x7,x8,xf⟩:=hs1
   have xf6:=xf 6
   clear hE5 hk5 xf
   go_wp2_with fail
   refine (IH.out _ P body _ (HB.out.keep K1.out (by simp)) (by omega)).mono ?_
   rintro e w2 ⟨a6,cap6,rfl,hB6,hk6⟩
   have hs2:=HS1.out.keep hk6 (by simp)
   have HS2:=hide (hs2.setBody (.slice a6 body.length cap6))
   have K2:Hid (Kp [] wr (w2.setCell ⟨wr.heap.size,7,none⟩ (.slice a6 body.length cap6))):=(K1.out.trans hk6).nb (Nat.le_refl _) _ _
   have kr2:=Kp.rb (b:=wr.heap.size) (S:=[]) (Kp.refl _ w2) 7 (.slice a6 body.length cap6)
   have HE6:=hide ((HE5.out.keep hk6 (by simp)).keep kr2 (by simp))
   have HB6:=hide ((hB6.base (P':=fun b=>wr.heap.size<b) (fun b _ hb=>by simp [World.setCell] at hb;omega)).keep kr2 (by simp))
   have hsz2:=hs2.lt
   obtain ⟨-,-,-,-,-,-,-,y7,y8,yf⟩:=hs2
   have yf7:=yf 7
   clear hB6 hk6 yf x6 x7 x8 xf6 kr2
   go_wp2_with fail
   refine (IH.out _ P els _ (HL.out.keep K2.out (by simp)) (by omega)).mono ?_
   rintro e w3 ⟨a7,cap7,rfl,hL7,hk7⟩
   have hs3:=HS2.out.keep hk7 (by simp)
   have K3:Hid (Kp [] wr (w3.setCell ⟨wr.heap.size,8,none⟩ (.slice a7 els.length cap7))):=(K2.out.trans hk7).nb (Nat.le_refl _) _ _
   have kr3:=Kp.rb (b:=wr.heap.size) (S:=[]) (Kp.refl _ w3) 8 (.slice a7 els.length cap7)
   have hE7:=(HE6.out.keep hk7 (by simp)).keep kr3 (by simp)
   have hB7:=(HB6.out.keep hk7 (by simp)).keep kr3 (by simp)
   have hL8:=(hL7.base (P':=fun b=>wr.heap.size<b) (fun b _ hb=>by simp [World.setCell] at hb;omega)).keep kr3 (by simp)
   have HRE:Hid (RS (w3.setCell ⟨wr.heap.size,8,none⟩ (.slice a7 els.length cap7)) (fun b=>wr.heap.size<b) n (Sx.tS D at' A B T N E body els) [.int .i64 D,.int .i64 at',.string (bs A),.string (bs B),.string (bs T),.int .i64 N,.slice a5 E.length cap5,.slice a6 body.length cap6,.slice a7 els.length cap7]):=
    ⟨D,at',A,B,T,N,E,body,els,_,_,_,rfl,rfl,hE7,hB7,hL8⟩
   have hsz3:=hs3.lt
   obtain ⟨z0,z1,z2,z3,z4,z5,z6,z7,z8,zf⟩:=hs3
   have zf8:=zf 8
   have HO5:=hide (zam HO.out K3.out (by simp))
   have HR5:=hide (HR.out.mono (fun d cc hd=>hd.keep K3.out (by simp)))
   clear hL7 hk7 zf y7 y8 yf7 kr3 hE7 hB7 hL8
   go_wp2_with (at_builtin;refine wpList_append_lies _ rfl _ _ 41 rfl w.heap.size 51 i0 (.agg #[.int .i64 0,.int .i64 0,.string ⟨#[]⟩,.string ⟨#[]⟩,.string ⟨#[]⟩,.int .i64 0,.slice none 0 0,.slice none 0 0,.slice none 0 0]) 9 144 Tryz.underlying41 hi0 hz0 hz1 hz2 rfl (by decide) _ _ _ rfl (by exact HO5.out.alloc _) ⟨w3.heap.size,0,none⟩ 1 1 [.int .i64 D,.int .i64 at',.string (bs A),.string (bs B),.string (bs T),.int .i64 N,.slice a5 E.length cap5,.slice a6 body.length cap6,.slice a7 els.length cap7] rfl rfl ?c1 ?c2 ?c3 ?c4 ?c5 ?c6 _ rfl ?_)
   case c1=>exact zb7 _ _ (by simp [World.setCell]) _ _ _ _ _ _ _ _ _ _
   case c2=>intro u hu;simp at hu;rcases hu with rfl|rfl|rfl|rfl|rfl|rfl|rfl|rfl|rfl<;> rfl
   case c3=>decide
   case c4=>unfold maxLen;omega
   case c5=>omega
   case c6=>simp [World.setCell];omega
   ·intro g cap9 w6 hown hgrow hat hlt6
    have hblk:=zau HO5.out
    have hR:Rw (RS ((w3.setCell ⟨wr.heap.size,8,none⟩ (.slice a7 els.length cap7)).alloc (.cells #[.int .i64 D,.int .i64 at',.string (bs A),.string (bs B),.string (bs T),.int .i64 N,.slice a5 E.length cap5,.slice a6 body.length cap6,.slice a7 els.length cap7] 51)) (fun b=>w.heap.size≤b∧some b ≠ Value.ownBlock u3) n) (l.take k++[Sx.tS D at' A B T N E body els]) (cs++[.int .i64 D,.int .i64 at',.string (bs A),.string (bs B),.string (bs T),.int .i64 N,.slice a5 E.length cap5,.slice a6 body.length cap6,.slice a7 els.length cap7]):=by
     refine Rw.snoc (HR5.out.mono (fun d cc hd=>hd.keep (S:=[]) ((Kp.refl _ _).alloc _) (by simp))) ?_
     refine (HRE.out.base (P':=fun b=>w.heap.size≤b∧some b ≠ Value.ownBlock u3) (fun b _ hb=> ?_)).keep (S:=[]) ((Kp.refl _ _).alloc _) (by simp)
     exact ⟨by omega,fun e=>by have:=HOL.out b e;omega⟩
    have hR6:=za1 (R:=fun w P d c=>RS w P n d c) (fun w w' S P d c h hk hS=>h.keep hk hS) (fun w P P' d c h hP=>h.base hP) hR hgrow (by simpa [World.setCell] using hat)
    rw [←zb1 HD.out] at hR6
    have HR6:=hide hR6
    have HO6:=hide hown
    have HK6:=hide (((HK.out.trans K3.out).alloc (.cells #[.int .i64 D,.int .i64 at',.string (bs A),.string (bs B),.string (bs T),.int .i64 N,.slice a5 E.length cap5,.slice a6 body.length cap6,.slice a7 els.length cap7] 51)).grown hgrow (fun k hk=> .inl (hblk k (by rw [hk];simp))))
    clear hR hR6 hown hgrow hat
    go_wp2
    go_roundw
    case rel=>exact ⟨k+1,_,by omega,by go_num,HK6.out,HO6.out,HR6.out⟩
    case measure=>simp [intOf];omega
  ·obtain rfl:k=l.length:=by omega
   have hR:=HR.out
   rw [List.take_length] at hR
   have hSl:Sl (RS wr (fun b=>w.heap.size≤b) n) wr (fun b=>w.heap.size≤b) l u3:=Sl.of_own HO.out rfl (fun b hb=>hb) (hR.mono (fun d cc hd=>hd.base (fun b _ hb=>hb.1)))
   obtain ⟨a5,c5,rfl,-⟩:=id hSl
   have HSl:=hide hSl
   clear hR hSl
   go_wp2
   go_ret
   exact ⟨a5,c5,rfl,HSl.out,HK.out⟩
theorem zet (n:Nat):CSt n:=by
 induction n with
 |zero=>intro w P l v h;cases h
 |succ n ih=>exact zdv n ih
end Go.Proofs.YtagblibbngmbdaaGreatDoor
namespace Go.Proofs.YtagblibbngmbdaaGreatDoor
open Go.RowKit
theorem znd (n:Nat) (l:List Sx.Tr) (hw:Sx.wG n l≤1000000): ∀ (i:Nat) d,l[i]? =some d→Sx.wS n (Sx.gB d)≤1000000:=fun i d hd=>by
 have h1:Sx.sum (fun d=>Sx.wS n (Sx.gB d)) (l.take (i+1))=Sx.sum (fun d=>Sx.wS n (Sx.gB d)) (l.take i)+Sx.wS n (Sx.gB d):=Sx.sum_take _ l i d hd
 have h2:=Sx.sum_take_le (fun d=>Sx.wS n (Sx.gB d)) l (i+1)
 have:Sx.sum (fun d=>Sx.wS n (Sx.gB d)) l=Sx.wG n l:=rfl
 omega
structure G4 (w:World) (b:Nat) (nm:ByteArray) (at':Int) (uP uB:Value):Prop where
 c0:w.cell? ⟨b,0,none⟩=some (.string nm)
 c1:w.cell? ⟨b,1,none⟩=some (.int .i64 at')
 c2:w.cell? ⟨b,2,none⟩=some uP
 c3:w.cell? ⟨b,3,none⟩=some uB
 fz: ∀ o,w.frozen? ⟨b,o,none⟩=false
section
variable {w w':World} {S:List Nat} {b:Nat} {nm:ByteArray} {at':Int} {uP uB:Value}
theorem G4.lt (h:G4 w b nm at' uP uB):b<w.heap.size:=World.block_lt_of_cell? w ⟨b,0,none⟩ h.c0
theorem G4.keep (h:G4 w b nm at' uP uB) (k:Kp S w w') (hn:b ∉ S):G4 w' b nm at' uP uB:=
 ⟨k.some h.c0 hn,k.some h.c1 hn,k.some h.c2 hn,k.some h.c3 hn,fun o=>(k.frozen (p:=⟨b,o,none⟩) h.lt hn).trans (h.fz o)⟩
theorem G4.setP (h:G4 w b nm at' uP uB) (x:Value):G4 (w.setCell ⟨b,2,none⟩ x) b nm at' x uB:=by
 have h0:=h.c0
 have h1:=h.c1
 have h2:=h.c2
 have h3:=h.c3
 have hf:=h.fz
 constructor<;> simp [go_sem, *]
theorem G4.new (w:World) (nm:ByteArray) (at':Int) (uP uB:Value) (t:TypeId):G4 (w.alloc (.cells #[.string nm,.int .i64 at',uP,uB] t)) w.heap.size nm at' uP uB:=by
 constructor<;> simp [go_sem]
end
theorem zoi {l:List Sx.Tr} {cs:List Value} (h:Rw RP l cs): ∀ u ∈ cs,u.oneCell'=true:=by
 induction l generalizing cs with
 |nil=>cases h;simp
 |cons d r ih=>
  obtain ⟨c1,c2,rfl,⟨nm,T,-,rfl⟩,h3⟩:=h
  intro u hu
  simp at hu
  rcases hu with rfl|rfl|hu
  ·rfl
  ·rfl
  ·exact ih h3 u hu
end Go.Proofs.YtagblibbngmbdaaGreatDoor
