import Derived.Test.YtagblibbngmbdaaGreatDoorMar
set_option maxRecDepth 100000
set_option maxHeartbeats 4000000
namespace Go.Proofs.YtagblibbngmbdaaGreatDoor
open Go.RowKit
def CO (n:Nat) (l:List Sx.Tr) (w:World) (e:Ending) (w':World):Prop:= ∃ a' cap' cs,e= .returned (.agg #[.slice a' l.length cap'])∧w'.ownsRow (w.heap.size+3) 43 4 (.slice a' l.length cap') l.length cs∧Rw (RG w' (fun b=>w.heap.size+3≤b∧some b ≠ Value.ownBlock (.slice a' l.length cap')) n) l cs∧Kp [] w w'
theorem zb2 (n:Nat) (w:World) (P:Nat→Prop) (l:List Sx.Tr) (a:Option Addr) (cap:Nat) (h:Sl (RG w P n) w P l (.slice a l.length cap)) (hs:Sm n l):
  Calls Tryz.prog 8 #[.agg #[.slice a l.length cap]] w (CO n l w):=by
 obtain ⟨i0,hi0,hz0,hz1,hz2⟩:=info_parts Tryz.infoStage
 obtain ⟨j0,hj0,gz0,gz1,gz2⟩:=info_parts Tryz.infoParam
 have HS:=hide h
 have IH:=hide (zet n)
 have hl:=hs.len
 have HWT:=hide (znd n l hs.w)
 have HPS:=hide hs.ps
 clear h hs
 go_enter Tryz.func8,Tryz.ntmps8
 go_wp2
 go_loopw [4] (fun iv wr=> ∃ (k:Nat) (cs:List Value) (av:Option Addr) (nv cv:Nat),k≤l.length∧iv= .int .i64 k∧Hid (Kp [] w wr)∧Hid (wr.ownsRow (w.heap.size+3) 43 4 (.slice av nv cv) k cs)∧Hid (Rw (RG wr (fun b=>w.heap.size+3≤b∧some b ≠ Value.ownBlock (.slice av nv cv)) n) (l.take k) cs)∧
  wr.cell? ⟨w.heap.size,0,none⟩=some (.slice a l.length cap)∧wr.cell? ⟨w.heap.size+1+1,0,none⟩=some (.slice av nv cv)∧wr.cell? ⟨w.heap.size+1,0,none⟩=some (.slice none 0 0)∧wr.frozen? ⟨w.heap.size+1+1,0,none⟩=false∧wr.frozen? ⟨w.heap.size+1,0,none⟩=false) (fun iv _=>l.length - (intOf iv).toNat)
 case atStart=>exact ⟨0,[],none,0,0,Nat.zero_le _,rfl,((((Kp.refl _ _).alloc _).alloc _).alloc _),World.ownsRow_nil _ _ _ _,(by show Rw _ _ _;rw [List.take_zero];rfl),by simp [go_sem],by simp [go_sem],by simp [go_sem],by simp [go_sem],by simp [go_sem]⟩
 case round=>
  obtain ⟨k,cs,av,nv,cv,hk,rfl,HK,HO,HR,p0,o0,r0,of0,rf0⟩:=hrel
  have hz:=World.block_lt_of_cell? _ _ o0
  simp only at hz
  by_cases hlt:k<l.length
  ·obtain ⟨b,off,nm,at',ps,body,uP,uB,rfl,-,hd,m0,m1,m2,m3,hP,hB⟩:=GL.nth (HS.out.keep HK.out (by simp) (fun d c h=>h.keep HK.out (by simp))) k hlt
   obtain ⟨aP,cP,rfl,hPc⟩:=id hP
   obtain ⟨aB,cB,rfl⟩:=hB.slice
   have hwt:Sx.wS n body≤1000000:=HWT.out k _ hd
   have hps:ps.length≤1000000:=HPS.out k _ hd
   have HD:=hide hd
   have HB:=hide hB
   have HPC:=hide hPc
   have HOL:=hide (zb8 HO.out)
   have hk0:(0:Int)≤(k:Int):=by omega
   have hk1:(k:Int)<(l.length:Int):=by omega
   have hblt:=World.block_lt_of_cell? _ _ m0
   clear hP hB hd hPc
   by_cases hpn:ps=[]
   ·subst hpn
    cases aP with
    |none=>
     have HG6:=hide (G4.new wr (bs nm) at' (.slice none 0 0) (.slice aB body.length cB) 43)
     have K6:Hid (Kp [] wr (wr.alloc (.cells #[.string (bs nm),.int .i64 at',.slice none 0 0,.slice aB body.length cB] 43))):=(Kp.refl [] _).alloc _
     have HQ6:Hid (Sl RP (wr.alloc (.cells #[.string (bs nm),.int .i64 at',.slice none 0 0,.slice aB body.length cB] 43)) (fun b=>wr.heap.size<b) [] (.slice none 0 0)):=Sl.nil _ _ _ _ _
     go_wp2_with fail
     refine (IH.out _ P body _ (HB.out.keep K6.out (by simp)) hwt).mono ?_
     rintro e w7 ⟨a7,cap7,rfl,hB7,hk7⟩
     have hG7:=HG6.out.keep hk7 (by simp)
     have K7:Hid (Kp [] wr (w7.setCell ⟨wr.heap.size,3,none⟩ (.slice a7 body.length cap7))):=(K6.out.trans hk7).nb (Nat.le_refl _) _ _
     have kr:=Kp.rb (b:=wr.heap.size) (S:=[]) (Kp.refl _ w7) 3 (.slice a7 body.length cap7)
     have hs6:=HG6.out.lt
     have HRE:Hid (RG (w7.setCell ⟨wr.heap.size,3,none⟩ (.slice a7 body.length cap7)) (fun b=>wr.heap.size<b) n (Sx.tG nm at' [] body) [.string (bs nm),.int .i64 at',.slice none 0 0,.slice a7 body.length cap7]):=
      ⟨nm,at',[],body,_,_,rfl,rfl,(HQ6.out.keep hk7 (by simp) (fun _ _ h=>h)).keep kr (by simp) (fun _ _ h=>h),(hB7.base (P':=fun b=>wr.heap.size<b) (fun b _ hb=>Nat.lt_of_lt_of_le hs6 hb)).keep kr (by simp)⟩
     have hsz7:=hG7.lt
     obtain ⟨y0,y1,y2,y3,yf⟩:=hG7
     have yf3:=yf 3
     have k57:=K6.out.trans hk7
     have p7:=k57.some p0 (by simp)
     have o7:=k57.some o0 (by simp)
     have r7:=k57.some r0 (by simp)
     have of7:w7.frozen? ⟨w.heap.size+1+1,0,none⟩=false:=(k57.frozen (p:=⟨w.heap.size+1+1,0,none⟩) (by dsimp only;omega) (by simp)).trans of0
     have rf7:w7.frozen? ⟨w.heap.size+1,0,none⟩=false:=(k57.frozen (p:=⟨w.heap.size+1,0,none⟩) (by dsimp only;omega) (by simp)).trans rf0
     have HO5:=hide (zam HO.out K7.out (by simp))
     have HR5:=hide (HR.out.mono (fun d cc hd=>hd.keep K7.out (by simp)))
     have kr2:=(Kp.rb (b:=wr.heap.size) (S:=[]) (Kp.refl _ w7) 3 (.slice a7 body.length cap7)).alloc (.cells #[.string (bs nm),.int .i64 at',.slice none 0 0,.slice a7 body.length cap7] 43)
     have KR:=hide kr2
     clear hB7 hk7 yf kr k57 kr2
     go_wp2_with (at_builtin;refine wpList_append_lies _ rfl _ _ 22 rfl (w.heap.size+3) 43 i0 (.agg #[.string ⟨#[]⟩,.int .i64 0,.slice none 0 0,.slice none 0 0]) 4 72 Tryz.underlying22 hi0 hz0 hz1 hz2 rfl (by decide) _ _ _ rfl (by exact HO5.out.alloc _) ⟨w7.heap.size,0,none⟩ 1 1 [.string (bs nm),.int .i64 at',.slice none 0 0,.slice a7 body.length cap7] rfl rfl ?c1 ?c2 ?c3 ?c4 ?c5 ?c6 _ rfl ?_)
     case c1=>exact zap _ _ (by simp [World.setCell]) _ _ _ _ _
     case c2=>intro u hu;simp at hu;rcases hu with rfl|rfl|rfl|rfl<;> rfl
     case c3=>decide
     case c4=>unfold maxLen;omega
     case c5=>omega
     case c6=>simp [World.setCell];omega
     intro g cap9 w9 hown hgrow hat hlt9
     have hblk:=zau HO5.out
     have hR:Rw (RG ((w7.setCell ⟨wr.heap.size,3,none⟩ (.slice a7 body.length cap7)).alloc (.cells #[.string (bs nm),.int .i64 at',.slice none 0 0,.slice a7 body.length cap7] 43)) (fun b=>w.heap.size+3≤b∧some b ≠ Value.ownBlock (.slice av nv cv)) n) (l.take k++[Sx.tG nm at' [] body]) (cs++[.string (bs nm),.int .i64 at',.slice none 0 0,.slice a7 body.length cap7]):=by
      refine Rw.snoc (HR5.out.mono (fun d cc hd=>hd.keep (S:=[]) ((Kp.refl _ _).alloc _) (by simp))) ?_
      refine (HRE.out.base (P':=fun b=>w.heap.size+3≤b∧some b ≠ Value.ownBlock (.slice av nv cv)) (fun b _ hb=> ?_)).keep (S:=[]) ((Kp.refl _ _).alloc _) (by simp)
      exact ⟨by omega,fun e=>by have:=HOL.out b e;omega⟩
     have hR6:=za1 (R:=fun w P d c=>RG w P n d c) (fun w w' S P d c h hk hS=>h.keep hk hS) (fun w P P' d c h hP=>h.base hP) hR hgrow (by simpa [World.setCell] using hat)
     rw [←zb1 HD.out] at hR6
     have kg:=Kp.of_grown hgrow
     have hno: ∀ j,j<w.heap.size+3→j ∉ (Value.ownBlock (.slice av nv cv)).toList:=fun j hj hm=>by have:=hblk j hm;omega
     have hzk:=KR.out.size
     have p8:=KR.out.some p7 (by simp;omega)
     have o8:=KR.out.some o7 (by simp;omega)
     have r8:=KR.out.some r7 (by simp;omega)
     have of8:=(KR.out.frozen (p:=⟨w.heap.size+1+1,0,none⟩) (by dsimp only;omega) (by simp;omega)).trans of7
     have rf8:=(KR.out.frozen (p:=⟨w.heap.size+1,0,none⟩) (by dsimp only;omega) (by simp;omega)).trans rf7
     have p9:=kg.some p8 (hno _ (by dsimp only;omega))
     have o9:=kg.some o8 (hno _ (by dsimp only;omega))
     have r9:=kg.some r8 (hno _ (by dsimp only;omega))
     have of9:=(kg.frozen (p:=⟨w.heap.size+1+1,0,none⟩) (by dsimp only;omega) (hno _ (by dsimp only;omega))).trans of8
     have rf9:=(kg.frozen (p:=⟨w.heap.size+1,0,none⟩) (by dsimp only;omega) (hno _ (by dsimp only;omega))).trans rf8
     have hK9:=(((HK.out.trans K7.out).alloc (.cells #[.string (bs nm),.int .i64 at',.slice none 0 0,.slice a7 body.length cap7] 43)).grown hgrow (fun k hk=> .inl (by have:=hblk k (by rw [hk];simp);omega)))
     have kz:Kp [w.heap.size+1+1] w9 (w9.setCell ⟨w.heap.size+1+1,0,none⟩ (.slice (some ⟨g,0,none⟩) (k+1) cap9)):=Kp.rb (Kp.refl _ _) _ _
     have HK9:Hid (Kp [] w (w9.setCell ⟨w.heap.size+1+1,0,none⟩ (.slice (some ⟨g,0,none⟩) (k+1) cap9))):=hK9.nb (by omega) _ _
     have HO9:=hide (zam hown kz (by simp))
     have HR9:Hid (Rw (RG (w9.setCell ⟨w.heap.size+1+1,0,none⟩ (.slice (some ⟨g,0,none⟩) (k+1) cap9)) (fun b=>w.heap.size+3≤b∧some b ≠ some g) n) (l.take (k+1)) (cs++[.string (bs nm),.int .i64 at',.slice none 0 0,.slice a7 body.length cap7])):=hR6.mono (fun d cc hd=>hd.keep kz (fun k hk hP=>by have h5:w.heap.size+3≤k:=hP.1;simp at hk;omega))
     have X1:Hid _:=kz.some p9 (by simp;omega)
     have X2:Hid _:=kz.some r9 (by simp)
     have X3:Hid _:=(kz.frozen (p:=⟨w.heap.size+1,0,none⟩) (World.block_lt_of_cell? _ _ r9) (by simp)).trans rf9
     clear hR hR6 hown hgrow hat kg kz hK9 p8 o8 r8 of8 rf8
     go_wp2
     go_roundw
     case rel=>exact ⟨k+1,_,_,_,_,by omega,by go_num,HK9.out,HO9.out,HR9.out,X1.out,by simp [go_sem,o9],X2.out,by simp [go_sem,of9],X3.out⟩
     case measure=>simp [intOf];omega
    |some ad=>
     have HG6:=hide (G4.new wr (bs nm) at' (.slice none 0 0) (.slice aB body.length cB) 43)
     have K6:Hid (Kp [] wr (wr.alloc (.cells #[.string (bs nm),.int .i64 at',.slice none 0 0,.slice aB body.length cB] 43))):=(Kp.refl [] _).alloc _
     have HQ6:Hid (Sl RP (wr.alloc (.cells #[.string (bs nm),.int .i64 at',.slice none 0 0,.slice aB body.length cB] 43)) (fun b=>wr.heap.size<b) [] (.slice none 0 0)):=Sl.nil _ _ _ _ _
     go_wp2_with fail
     refine (IH.out _ P body _ (HB.out.keep K6.out (by simp)) hwt).mono ?_
     rintro e w7 ⟨a7,cap7,rfl,hB7,hk7⟩
     have hG7:=HG6.out.keep hk7 (by simp)
     have K7:Hid (Kp [] wr (w7.setCell ⟨wr.heap.size,3,none⟩ (.slice a7 body.length cap7))):=(K6.out.trans hk7).nb (Nat.le_refl _) _ _
     have kr:=Kp.rb (b:=wr.heap.size) (S:=[]) (Kp.refl _ w7) 3 (.slice a7 body.length cap7)
     have hs6:=HG6.out.lt
     have HRE:Hid (RG (w7.setCell ⟨wr.heap.size,3,none⟩ (.slice a7 body.length cap7)) (fun b=>wr.heap.size<b) n (Sx.tG nm at' [] body) [.string (bs nm),.int .i64 at',.slice none 0 0,.slice a7 body.length cap7]):=
      ⟨nm,at',[],body,_,_,rfl,rfl,(HQ6.out.keep hk7 (by simp) (fun _ _ h=>h)).keep kr (by simp) (fun _ _ h=>h),(hB7.base (P':=fun b=>wr.heap.size<b) (fun b _ hb=>Nat.lt_of_lt_of_le hs6 hb)).keep kr (by simp)⟩
     have hsz7:=hG7.lt
     obtain ⟨y0,y1,y2,y3,yf⟩:=hG7
     have yf3:=yf 3
     have k57:=K6.out.trans hk7
     have p7:=k57.some p0 (by simp)
     have o7:=k57.some o0 (by simp)
     have r7:=k57.some r0 (by simp)
     have of7:w7.frozen? ⟨w.heap.size+1+1,0,none⟩=false:=(k57.frozen (p:=⟨w.heap.size+1+1,0,none⟩) (by dsimp only;omega) (by simp)).trans of0
     have rf7:w7.frozen? ⟨w.heap.size+1,0,none⟩=false:=(k57.frozen (p:=⟨w.heap.size+1,0,none⟩) (by dsimp only;omega) (by simp)).trans rf0
     have HO5:=hide (zam HO.out K7.out (by simp))
     have HR5:=hide (HR.out.mono (fun d cc hd=>hd.keep K7.out (by simp)))
     have kr2:=(Kp.rb (b:=wr.heap.size) (S:=[]) (Kp.refl _ w7) 3 (.slice a7 body.length cap7)).alloc (.cells #[.string (bs nm),.int .i64 at',.slice none 0 0,.slice a7 body.length cap7] 43)
     have KR:=hide kr2
     clear hB7 hk7 yf kr k57 kr2
     go_wp2_with (at_builtin;refine wpList_append_lies _ rfl _ _ 22 rfl (w.heap.size+3) 43 i0 (.agg #[.string ⟨#[]⟩,.int .i64 0,.slice none 0 0,.slice none 0 0]) 4 72 Tryz.underlying22 hi0 hz0 hz1 hz2 rfl (by decide) _ _ _ rfl (by exact HO5.out.alloc _) ⟨w7.heap.size,0,none⟩ 1 1 [.string (bs nm),.int .i64 at',.slice none 0 0,.slice a7 body.length cap7] rfl rfl ?c1 ?c2 ?c3 ?c4 ?c5 ?c6 _ rfl ?_)
     case c1=>exact zap _ _ (by simp [World.setCell]) _ _ _ _ _
     case c2=>intro u hu;simp at hu;rcases hu with rfl|rfl|rfl|rfl<;> rfl
     case c3=>decide
     case c4=>unfold maxLen;omega
     case c5=>omega
     case c6=>simp [World.setCell];omega
     intro g cap9 w9 hown hgrow hat hlt9
     have hblk:=zau HO5.out
     have hR:Rw (RG ((w7.setCell ⟨wr.heap.size,3,none⟩ (.slice a7 body.length cap7)).alloc (.cells #[.string (bs nm),.int .i64 at',.slice none 0 0,.slice a7 body.length cap7] 43)) (fun b=>w.heap.size+3≤b∧some b ≠ Value.ownBlock (.slice av nv cv)) n) (l.take k++[Sx.tG nm at' [] body]) (cs++[.string (bs nm),.int .i64 at',.slice none 0 0,.slice a7 body.length cap7]):=by
      refine Rw.snoc (HR5.out.mono (fun d cc hd=>hd.keep (S:=[]) ((Kp.refl _ _).alloc _) (by simp))) ?_
      refine (HRE.out.base (P':=fun b=>w.heap.size+3≤b∧some b ≠ Value.ownBlock (.slice av nv cv)) (fun b _ hb=> ?_)).keep (S:=[]) ((Kp.refl _ _).alloc _) (by simp)
      exact ⟨by omega,fun e=>by have:=HOL.out b e;omega⟩
     have hR6:=za1 (R:=fun w P d c=>RG w P n d c) (fun w w' S P d c h hk hS=>h.keep hk hS) (fun w P P' d c h hP=>h.base hP) hR hgrow (by simpa [World.setCell] using hat)
     rw [←zb1 HD.out] at hR6
     have kg:=Kp.of_grown hgrow
     have hno: ∀ j,j<w.heap.size+3→j ∉ (Value.ownBlock (.slice av nv cv)).toList:=fun j hj hm=>by have:=hblk j hm;omega
     have hzk:=KR.out.size
     have p8:=KR.out.some p7 (by simp;omega)
     have o8:=KR.out.some o7 (by simp;omega)
     have r8:=KR.out.some r7 (by simp;omega)
     have of8:=(KR.out.frozen (p:=⟨w.heap.size+1+1,0,none⟩) (by dsimp only;omega) (by simp;omega)).trans of7
     have rf8:=(KR.out.frozen (p:=⟨w.heap.size+1,0,none⟩) (by dsimp only;omega) (by simp;omega)).trans rf7
     have p9:=kg.some p8 (hno _ (by dsimp only;omega))
     have o9:=kg.some o8 (hno _ (by dsimp only;omega))
     have r9:=kg.some r8 (hno _ (by dsimp only;omega))
     have of9:=(kg.frozen (p:=⟨w.heap.size+1+1,0,none⟩) (by dsimp only;omega) (hno _ (by dsimp only;omega))).trans of8
     have rf9:=(kg.frozen (p:=⟨w.heap.size+1,0,none⟩) (by dsimp only;omega) (hno _ (by dsimp only;omega))).trans rf8
     have hK9:=(((HK.out.trans K7.out).alloc (.cells #[.string (bs nm),.int .i64 at',.slice none 0 0,.slice a7 body.length cap7] 43)).grown hgrow (fun k hk=> .inl (by have:=hblk k (by rw [hk];simp);omega)))
     have kz:Kp [w.heap.size+1+1] w9 (w9.setCell ⟨w.heap.size+1+1,0,none⟩ (.slice (some ⟨g,0,none⟩) (k+1) cap9)):=Kp.rb (Kp.refl _ _) _ _
     have HK9:Hid (Kp [] w (w9.setCell ⟨w.heap.size+1+1,0,none⟩ (.slice (some ⟨g,0,none⟩) (k+1) cap9))):=hK9.nb (by omega) _ _
     have HO9:=hide (zam hown kz (by simp))
     have HR9:Hid (Rw (RG (w9.setCell ⟨w.heap.size+1+1,0,none⟩ (.slice (some ⟨g,0,none⟩) (k+1) cap9)) (fun b=>w.heap.size+3≤b∧some b ≠ some g) n) (l.take (k+1)) (cs++[.string (bs nm),.int .i64 at',.slice none 0 0,.slice a7 body.length cap7])):=hR6.mono (fun d cc hd=>hd.keep kz (fun k hk hP=>by have h5:w.heap.size+3≤k:=hP.1;simp at hk;omega))
     have X1:Hid _:=kz.some p9 (by simp;omega)
     have X2:Hid _:=kz.some r9 (by simp)
     have X3:Hid _:=(kz.frozen (p:=⟨w.heap.size+1,0,none⟩) (World.block_lt_of_cell? _ _ r9) (by simp)).trans rf9
     clear hR hR6 hown hgrow hat kg kz hK9 p8 o8 r8 of8 rf8
     go_wp2
     go_roundw
     case rel=>exact ⟨k+1,_,_,_,_,by omega,by go_num,HK9.out,HO9.out,HR9.out,X1.out,by simp [go_sem,o9],X2.out,by simp [go_sem,of9],X3.out⟩
     case measure=>simp [intOf];omega
   ·skip
    obtain ⟨g5,og5,cs5,rfl,-,hr5,hc5⟩:=HPC.out.resolve_left hpn
    have hl5:0<ps.length:=List.length_pos_iff.2 hpn
    have HR0:=hide hr5
    have HC0:=hide hc5
    have hln:=hr5.len RP_len
    clear hr5 hc5
    go_wp2_with (at_builtin;refine wpList_append_lies _ rfl _ _ 40 rfl (wr.heap.size+1) 44 j0 (.agg #[.string ⟨#[]⟩,.string ⟨#[]⟩]) 2 32 Tryz.underlying40 hj0 gz0 gz1 gz2 rfl (by decide) (.slice none 0 0) 0 [] rfl (World.ownsRow_nil _ _ _ _) ⟨g5,og5,none⟩ ps.length cP cs5 rfl hln ?e1 ?e2 ?e3 ?e4 ?e5 ?e6 _ rfl ?_)
    case e1=>
     intro j u hu
     exact ((Kp.refl [] _).alloc _).some (HC0.out j u hu) (by simp)
    case e2=>exact zoi HR0.out
    case e4=>unfold maxLen;omega
    case e5=>omega
    intro g6 cap6 w5 hown6 hgrow6 hat6 hlt6
    have kg6:Kp [] (wr.alloc (.cells #[.string (bs nm),.int .i64 at',.slice (some ⟨g5,og5,none⟩) ps.length cP,.slice aB body.length cB] 43)) w5:=Kp.of_grown hgrow6
    have hQ:Sl RP w5 (fun b=>wr.heap.size<b) ps (.slice (some ⟨g6,0,none⟩) ps.length cap6):=Sl.of_own hown6 rfl (fun b hb=>by omega) HR0.out
    have hG5:=(G4.new wr (bs nm) at' (.slice (some ⟨g5,og5,none⟩) ps.length cP) (.slice aB body.length cB) 43).keep kg6 (by simp)
    have HG6:=hide (hG5.setP (.slice (some ⟨g6,0,none⟩) ps.length cap6))
    have HQ6:=hide (hQ.keep (Kp.rb (b:=wr.heap.size) (S:=[]) (Kp.refl _ w5) 2 (.slice (some ⟨g6,0,none⟩) ps.length cap6)) (by simp) (fun _ _ h=>h))
    have K6:Hid (Kp [] wr (w5.setCell ⟨wr.heap.size,2,none⟩ (.slice (some ⟨g6,0,none⟩) ps.length cap6))):=(((Kp.refl [] _).alloc _).trans kg6).nb (Nat.le_refl _) _ _
    have hsz5:=hG5.lt
    obtain ⟨-,-,x2,x3,xf⟩:=hG5
    have xf2:=xf 2
    clear hQ xf hown6 hgrow6 hat6 kg6
    go_wp2_with fail
    refine (IH.out _ P body _ (HB.out.keep K6.out (by simp)) hwt).mono ?_
    rintro e w7 ⟨a7,cap7,rfl,hB7,hk7⟩
    have hG7:=HG6.out.keep hk7 (by simp)
    have K7:Hid (Kp [] wr (w7.setCell ⟨wr.heap.size,3,none⟩ (.slice a7 body.length cap7))):=(K6.out.trans hk7).nb (Nat.le_refl _) _ _
    have kr:=Kp.rb (b:=wr.heap.size) (S:=[]) (Kp.refl _ w7) 3 (.slice a7 body.length cap7)
    have hs6:=HG6.out.lt
    have HRE:Hid (RG (w7.setCell ⟨wr.heap.size,3,none⟩ (.slice a7 body.length cap7)) (fun b=>wr.heap.size<b) n (Sx.tG nm at' ps body) [.string (bs nm),.int .i64 at',.slice (some ⟨g6,0,none⟩) ps.length cap6,.slice a7 body.length cap7]):=
     ⟨nm,at',ps,body,_,_,rfl,rfl,(HQ6.out.keep hk7 (by simp) (fun _ _ h=>h)).keep kr (by simp) (fun _ _ h=>h),(hB7.base (P':=fun b=>wr.heap.size<b) (fun b _ hb=>Nat.lt_of_lt_of_le hs6 hb)).keep kr (by simp)⟩
    have hsz7:=hG7.lt
    obtain ⟨y0,y1,y2,y3,yf⟩:=hG7
    have yf3:=yf 3
    have k57:=K6.out.trans hk7
    have p7:=k57.some p0 (by simp)
    have o7:=k57.some o0 (by simp)
    have r7:=k57.some r0 (by simp)
    have of7:w7.frozen? ⟨w.heap.size+1+1,0,none⟩=false:=(k57.frozen (p:=⟨w.heap.size+1+1,0,none⟩) (by dsimp only;omega) (by simp)).trans of0
    have rf7:w7.frozen? ⟨w.heap.size+1,0,none⟩=false:=(k57.frozen (p:=⟨w.heap.size+1,0,none⟩) (by dsimp only;omega) (by simp)).trans rf0
    have HO5:=hide (zam HO.out K7.out (by simp))
    have HR5:=hide (HR.out.mono (fun d cc hd=>hd.keep K7.out (by simp)))
    have kr2:=(Kp.rb (b:=wr.heap.size) (S:=[]) (Kp.refl _ w7) 3 (.slice a7 body.length cap7)).alloc (.cells #[.string (bs nm),.int .i64 at',.slice (some ⟨g6,0,none⟩) ps.length cap6,.slice a7 body.length cap7] 43)
    have KR:=hide kr2
    clear hB7 hk7 yf kr k57 kr2
    go_wp2_with (at_builtin;refine wpList_append_lies _ rfl _ _ 22 rfl (w.heap.size+3) 43 i0 (.agg #[.string ⟨#[]⟩,.int .i64 0,.slice none 0 0,.slice none 0 0]) 4 72 Tryz.underlying22 hi0 hz0 hz1 hz2 rfl (by decide) _ _ _ rfl (by exact HO5.out.alloc _) ⟨w7.heap.size,0,none⟩ 1 1 [.string (bs nm),.int .i64 at',.slice (some ⟨g6,0,none⟩) ps.length cap6,.slice a7 body.length cap7] rfl rfl ?c1 ?c2 ?c3 ?c4 ?c5 ?c6 _ rfl ?_)
    case c1=>exact zap _ _ (by simp [World.setCell]) _ _ _ _ _
    case c2=>intro u hu;simp at hu;rcases hu with rfl|rfl|rfl|rfl<;> rfl
    case c3=>decide
    case c4=>unfold maxLen;omega
    case c5=>omega
    case c6=>simp [World.setCell];omega
    intro g cap9 w9 hown hgrow hat hlt9
    have hblk:=zau HO5.out
    have hR:Rw (RG ((w7.setCell ⟨wr.heap.size,3,none⟩ (.slice a7 body.length cap7)).alloc (.cells #[.string (bs nm),.int .i64 at',.slice (some ⟨g6,0,none⟩) ps.length cap6,.slice a7 body.length cap7] 43)) (fun b=>w.heap.size+3≤b∧some b ≠ Value.ownBlock (.slice av nv cv)) n) (l.take k++[Sx.tG nm at' ps body]) (cs++[.string (bs nm),.int .i64 at',.slice (some ⟨g6,0,none⟩) ps.length cap6,.slice a7 body.length cap7]):=by
     refine Rw.snoc (HR5.out.mono (fun d cc hd=>hd.keep (S:=[]) ((Kp.refl _ _).alloc _) (by simp))) ?_
     refine (HRE.out.base (P':=fun b=>w.heap.size+3≤b∧some b ≠ Value.ownBlock (.slice av nv cv)) (fun b _ hb=> ?_)).keep (S:=[]) ((Kp.refl _ _).alloc _) (by simp)
     exact ⟨by omega,fun e=>by have:=HOL.out b e;omega⟩
    have hR6:=za1 (R:=fun w P d c=>RG w P n d c) (fun w w' S P d c h hk hS=>h.keep hk hS) (fun w P P' d c h hP=>h.base hP) hR hgrow (by simpa [World.setCell] using hat)
    rw [←zb1 HD.out] at hR6
    have kg:=Kp.of_grown hgrow
    have hno: ∀ j,j<w.heap.size+3→j ∉ (Value.ownBlock (.slice av nv cv)).toList:=fun j hj hm=>by have:=hblk j hm;omega
    have hzk:=KR.out.size
    have p8:=KR.out.some p7 (by simp;omega)
    have o8:=KR.out.some o7 (by simp;omega)
    have r8:=KR.out.some r7 (by simp;omega)
    have of8:=(KR.out.frozen (p:=⟨w.heap.size+1+1,0,none⟩) (by dsimp only;omega) (by simp;omega)).trans of7
    have rf8:=(KR.out.frozen (p:=⟨w.heap.size+1,0,none⟩) (by dsimp only;omega) (by simp;omega)).trans rf7
    have p9:=kg.some p8 (hno _ (by dsimp only;omega))
    have o9:=kg.some o8 (hno _ (by dsimp only;omega))
    have r9:=kg.some r8 (hno _ (by dsimp only;omega))
    have of9:=(kg.frozen (p:=⟨w.heap.size+1+1,0,none⟩) (by dsimp only;omega) (hno _ (by dsimp only;omega))).trans of8
    have rf9:=(kg.frozen (p:=⟨w.heap.size+1,0,none⟩) (by dsimp only;omega) (hno _ (by dsimp only;omega))).trans rf8
    have hK9:=(((HK.out.trans K7.out).alloc (.cells #[.string (bs nm),.int .i64 at',.slice (some ⟨g6,0,none⟩) ps.length cap6,.slice a7 body.length cap7] 43)).grown hgrow (fun k hk=> .inl (by have:=hblk k (by rw [hk];simp);omega)))
    have kz:Kp [w.heap.size+1+1] w9 (w9.setCell ⟨w.heap.size+1+1,0,none⟩ (.slice (some ⟨g,0,none⟩) (k+1) cap9)):=Kp.rb (Kp.refl _ _) _ _
    have HK9:Hid (Kp [] w (w9.setCell ⟨w.heap.size+1+1,0,none⟩ (.slice (some ⟨g,0,none⟩) (k+1) cap9))):=hK9.nb (by omega) _ _
    have HO9:=hide (zam hown kz (by simp))
    have HR9:Hid (Rw (RG (w9.setCell ⟨w.heap.size+1+1,0,none⟩ (.slice (some ⟨g,0,none⟩) (k+1) cap9)) (fun b=>w.heap.size+3≤b∧some b ≠ some g) n) (l.take (k+1)) (cs++[.string (bs nm),.int .i64 at',.slice (some ⟨g6,0,none⟩) ps.length cap6,.slice a7 body.length cap7])):=hR6.mono (fun d cc hd=>hd.keep kz (fun k hk hP=>by have h5:w.heap.size+3≤k:=hP.1;simp at hk;omega))
    have X1:Hid _:=kz.some p9 (by simp;omega)
    have X2:Hid _:=kz.some r9 (by simp)
    have X3:Hid _:=(kz.frozen (p:=⟨w.heap.size+1,0,none⟩) (World.block_lt_of_cell? _ _ r9) (by simp)).trans rf9
    clear hR hR6 hown hgrow hat kg kz hK9 p8 o8 r8 of8 rf8
    go_wp2
    go_roundw
    case rel=>exact ⟨k+1,_,_,_,_,by omega,by go_num,HK9.out,HO9.out,HR9.out,X1.out,by simp [go_sem,o9],X2.out,by simp [go_sem,of9],X3.out⟩
    case measure=>simp [intOf];omega
  ·obtain rfl:k=l.length:=by omega
   have hR:=HR.out
   rw [List.take_length] at hR
   have hSl:Sl (RG wr (fun b=>w.heap.size+3≤b) n) wr (fun b=>w.heap.size+3≤b) l (.slice av nv cv):=Sl.of_own HO.out rfl (fun b hb=>hb) (hR.mono (fun d cc hd=>hd.base (fun b _ hb=>hb.1)))
   obtain ⟨a5,c5,hv5,-⟩:=id hSl
   cases hv5
   have HSl:=hide hSl
   have h01:=World.block_lt_of_cell? _ _ r0
   clear hR hSl
   go_wp2
   have kz:Kp [w.heap.size+1] wr (wr.setCell ⟨w.heap.size+1,0,none⟩ (.slice av l.length cv)):=Kp.rb (Kp.refl _ _) _ _
   refine bodyPost_ret (v:= .agg #[.slice av l.length cv]) (by simp [results,Tryz.results8,go_sem,r0]) rfl ⟨av,cv,cs,rfl,zam HO.out kz (by simp),?_,HK.out.nb (by omega) _ _⟩
   have h5:=HR.out
   rw [List.take_length] at h5
   exact h5.mono (fun d c h=>h.keep kz (fun k hk hP=>by have h6:w.heap.size+3≤k:=hP.1;simp at hk;omega))
end Go.Proofs.YtagblibbngmbdaaGreatDoor
