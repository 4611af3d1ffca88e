import Derived.Test.YtcdcoiobpbdmpaaGreatDoorMab
import Derived.Deep.QuietTactic
import Derived.BigQuiet
import Derived.Deep.RegionWith
import Derived.Test.YtcdcoiobpbdmpaaGreatDoorMaa
import Derived.Deep.RegionHeld
namespace Go.Proofs.YtcdcoiobpbdmpaaGreatDoor
open Go.RowKit
theorem Tryz.infoTok:(Tryz.prog.info? 103).map (fun i=>(i.zero,i.size,i.bytes))=some (some (.agg #[.int .i64 0,.int .i64 0,.string ⟨#[]⟩,.int .i64 0]),4,40):=by kernel_rfl
def tcells:List Tk.Tok→List Value
 |[]=>[]
 |x::r=> .int .i64 x.kind:: .int .i64 (x.at':Int):: .string (bs x.text):: .int .i64 x.n::tcells r
theorem tcells_app (a b:List Tk.Tok):tcells (a++b)=tcells a++tcells b:=by
 induction a with
 |nil=>rfl
 |cons x r ih=>simp [tcells,ih]
def scanV (v:Value) (r:List Tk.Tok × Int × Int):Value:= .tuple #[v,.agg #[.int .i64 r.2.1,.int .i64 r.2.2]]
structure FltAt (w:World) (b:Nat):Prop where
 c0:w.cell? ⟨b,0,none⟩=some (.int .i64 0)
 c1:w.cell? ⟨b,1,none⟩=some (.int .i64 0)
 f0:w.frozen? ⟨b,0,none⟩=false
 f1:w.frozen? ⟨b,1,none⟩=false
theorem fltAt_of {w w4:World} (hb:Below (w.heap.size+1) (w.alloc (.cells #[.int .i64 0,.int .i64 0] 31)) w4):FltAt w4 w.heap.size:=by
 constructor
 ·rw [hb.cell (p:=⟨w.heap.size,0,none⟩) (by show w.heap.size<_;omega)];simp [go_sem]
 ·rw [hb.cell (p:=⟨w.heap.size,1,none⟩) (by show w.heap.size<_;omega)];simp [go_sem]
 ·rw [hb.frozen (p:=⟨w.heap.size,0,none⟩) (by show w.heap.size<_;omega)];simp [go_sem]
 ·rw [hb.frozen (p:=⟨w.heap.size,1,none⟩) (by show w.heap.size<_;omega)];simp [go_sem]
theorem own_below {w w':World} {B t z n:Nat} {v:Value} {xs:List Value} (h:w.ownsRow B t z v n xs) (hb:Below w.heap.size w w'):w'.ownsRow B t z v n xs:=by
 refine ⟨h.1,h.2.imp id (fun ⟨g,cap,cur,hv,hB,hg,r⟩=>⟨g,cap,cur,hv,hB,?_,r⟩)⟩
 rw [hb.block g (by
  rcases Nat.lt_or_ge g w.heap.size with h'|h'
  ·exact h'
  ·rw [Array.getElem?_eq_none h'] at hg;cases hg)]
 exact hg
theorem cells_four_new (w:World) (n:Nat) (hn:n=w.heap.size) (x y z u:Value) (t:TypeId): ∀ (j:Nat) (v:Value),[x,y,z,u][j]? =some v→(w.alloc (.cells #[x,y,z,u] t)).cell? ((⟨n,0,none⟩:Addr).add j)=some v:=by
 intro j v hj
 subst hn
 rw [Addr.add_mid]
 match j,hj with
 |0,hj=>simp at hj;subst hj;simp [go_sem]
 |1,hj=>simp at hj;subst hj;simp [go_sem]
 |2,hj=>simp at hj;subst hj;simp [go_sem]
 |3,hj=>simp at hj;subst hj;simp [go_sem]
theorem own_down {w:World} {B B' t z n:Nat} {v:Value} {xs:List Value} (h:w.ownsRow B t z v n xs) (hB:B'≤B):w.ownsRow B' t z v n xs:=
 ⟨h.1,h.2.imp id (fun ⟨g,cap,cur,hv,hb,r⟩=>⟨g,cap,cur,hv,Nat.le_trans hB hb,r⟩)⟩
set_option maxRecDepth 100000 in
set_option maxHeartbeats 1000000 in
theorem scan_in (s:ByteArray) (w:World) (hw:WTab w) (hs:s.size≤12000):
  Calls Tryz.prog 19 #[.string s] w fun e w'=> ∃ v,e= .returned (scanV v (Tk.scan s.data.toList))∧w'.ownsRow w.heap.size 103 4 v (Tk.scan s.data.toList).1.length (tcells (Tk.scan s.data.toList).1)∧Below w.heap.size w w':=by
 obtain ⟨i0,hi,hz0,hz1,hz2⟩:=info_parts Tryz.infoTok
 have d1:decide ((12000:Int)<(s.size:Int))=false:=by simp;omega
 have HBE:=hide (fun k w hk=>blanksEnd_any s k w (by omega) hk)
 have HW:=hide hw
 clear hw
 have HTA:=hide (fun p w hw hp=>tokenAt_any s p w hw (by omega) hp)
 have hzn:=Lib.size_eq s
 have HN:=hide hzn
 clear hzn
 go_enter Tryz.func19,Tryz.ntmps19
 go_wp2_with fail
 refine (HBE.out 0 _ (by omega)).mono ?_
 rintro e w1 ⟨rfl,hw⟩
 subst hw
 have HSK:Hid (Tk.skip false s.data.toList≤s.size):=by
  have h1:=Tk.skip_le s.data.toList false
  have h2:=HN.out
  show _≤_
  omega
 go_wp2
 go_loopw [4,5] (fun v i wr=> ∃ (acc:List Tk.Tok) (p f:Nat),acc.length≤p∧p≤s.size∧i= .int .i64 p∧Hid (s.size - p<f)∧Hid (Tk.scan s.data.toList=Tk.comb acc (Tk.tl f p (s.data.toList.drop p)))∧
   Hid (wr.ownsRow (w.heap.size+1) 103 4 v acc.length (tcells acc))∧Hid (Below (w.heap.size+1) (w.alloc (Obj.cells #[Value.int IntKind.i64 0,Value.int IntKind.i64 0] 31)) wr)) (fun _ i _=>s.size - (intOf i).toNat)
 case atStart=>
  refine ⟨[],Tk.skip false s.data.toList,s.size+1,Nat.zero_le _,HSK.out,rfl,(by show _<_;omega),?_,World.ownsRow_nil _ _ _ _,Below.refl _ _⟩
  show _=_
  rw [Tk.comb_nil _ (Tk.tl_nofault _ _ _)]
  unfold Tk.scan
  rw [if_neg (by rw [←HN.out];omega),HN.out]
 case round=>
  obtain ⟨acc,p,f,hap,hps,rfl,HF,HR,HO,HB⟩:=hrel
  have hz:=HB.out.size
  simp only [World.size_alloc] at hz
  by_cases hlt:p<s.size
  ·have HWr:Hid (WTab wr):=(HW.out.below ((Below.refl _ w).alloc (Nat.le_refl _) _)).below (HB.out.mono (by simp))
   go_wp2_with fail
   refine (HTA.out p _ HWr.out hlt).mono ?_
   rintro e w2 ⟨rfl,hb2⟩
   have hl:=drop_ne s p hlt
   have hlen:(s.data.toList.drop p).length=s.size - p:=by rw [List.length_drop,←HN.out]
   obtain ⟨f,rfl⟩: ∃ f',f=f'+1:=⟨f - 1,by have:=HF.out;omega⟩
   have hzw:=hb2.size
   have HB2:=hide (HB.out.trans (hb2.mono (by omega)))
   by_cases hc:(Tk.tok (s.data.toList.drop p)).code=0
   ·obtain ⟨hn1,hn2⟩:=Tk.tok_len _ hc
    have hcs:=Tk.comb_step acc (s.data.toList.drop p) p f hl hc
    have hE:=HR.out.trans hcs
    have hv:ansV (Tk.tok (s.data.toList.drop p)) p (bs ((s.data.toList.drop p).take (Tk.tok (s.data.toList.drop p)).len))= .tuple #[.agg #[.int .i64 (Tk.tok (s.data.toList.drop p)).kind,.int .i64 (p:Int),.string (bs ((s.data.toList.drop p).take (Tk.tok (s.data.toList.drop p)).len)),.int .i64 (Tk.tok (s.data.toList.drop p)).n],.agg #[.int .i64 0,.int .i64 0]]:=by
     unfold ansV
     rw [if_pos hc]
    rw [hv]
    clear hv hc HR hl hcs
    have hbs:(bs ((s.data.toList.drop p).take (Tk.tok (s.data.toList.drop p)).len)).size=(Tk.tok (s.data.toList.drop p)).len:=by
     rw [Lib.size_eq]
     simp only [bs,List.toList_toArray,List.length_take]
     omega
    have hsk:=Tk.skip_le ((s.data.toList.drop p).drop (Tk.tok (s.data.toList.drop p)).len) false
    rw [List.length_drop,hlen] at hsk
    rw [hlen] at hn2
    simp only [List.drop_drop] at hE hsk
    generalize (Tk.tok (s.data.toList.drop p)).len=m at *
    generalize (Tk.tok (s.data.toList.drop p)).kind=kd at *
    generalize (Tk.tok (s.data.toList.drop p)).n=nn at *
    generalize (s.data.toList.drop p).take m=tx at *
    have HE:=hide hE
    have HBS:=hide hbs
    have HO2:Hid (w2.ownsRow (w.heap.size+1) 103 4 u4 acc.length (tcells acc)):=own_below HO.out hb2
    clear hE hlen hb2
    generalize hX:bs tx=X at *
    have HX:=hide hX
    clear hX
    go_wp2_with (at_builtin;refine wpList_append_own _ rfl _ _ 67 rfl (w.heap.size+1) 103 i0 (.agg #[.int .i64 0,.int .i64 0,.string ⟨#[]⟩,.int .i64 0]) 4 40 Tryz.underlying67 hi hz0 hz1 hz2 rfl (by decide) _ _ _ rfl (by exact ((HO2.out.alloc _).alloc _).alloc _) ⟨w2.heap.size+1+1,0,none⟩ 1 1 [.int .i64 kd,.int .i64 p,.string X,.int .i64 nn] rfl rfl ?c1 ?c2 ?c3 ?c4 ?c5 ?_)
    case c1=>exact cells_four_new _ _ (by simp) _ _ _ _ _
    case c2=>intro u hu;simp at hu;rcases hu with rfl|rfl|rfl|rfl<;> rfl
    case c3=>unfold maxLen;omega
    case c4=>omega
    case c5=>simp;omega
    ·intro v' w3 hown' hgrow _
     have HO3:Hid (w3.ownsRow (w.heap.size+1) 103 4 v' (acc++[(⟨kd,p,tx,nn⟩:Tk.Tok)]).length (tcells (acc++[⟨kd,p,tx,nn⟩]))):=by
      show World.ownsRow _ _ _ _ _ _ _
      rw [tcells_app]
      simpa [tcells,HX.out] using hown'
     have HB3:Hid (Below (w.heap.size+1) (w.alloc (Obj.cells #[Value.int IntKind.i64 0,Value.int IntKind.i64 0] 31)) w3):=
      (((HB2.out.alloc (by omega) _).alloc (by simp;omega) _).alloc (by simp;omega) _).grown hgrow (by simp;omega) (fun j hj=>(HO2.out.lt j hj).1)
     have HT3:Hid (w3.cell? ⟨w2.heap.size,2,none⟩=some (.string X)):=by
      have hne: ∀ j,u4.ownBlock=some j→j<w2.heap.size:=fun j hj=>(HO2.out.lt j hj).2
      refine hgrow.cell (a:=⟨w2.heap.size,2,none⟩) (by simp [go_sem]) (fun e=> ?_)
      exact absurd (hne _ e.symm) (Nat.lt_irrefl _)
     have hzw3:w.heap.size+1≤w3.heap.size:=by have:=HB3.out.size;simpa using this
     clear hown' hgrow
     have ct:=HT3.out
     have hXs:=HBS.out
     clear HBS
     go_wp2_with fail
     refine (HBE.out (p+m) _ (by omega)).mono ?_
     rintro e w4 ⟨rfl,hw⟩
     subst hw
     go_wp2
     go_roundw
     case rel=>exact ⟨acc++[⟨kd,p,tx,nn⟩],p+m+Tk.skip false (s.data.toList.drop (p+m)),f,by simp;omega,by omega,by go_num,(by have:=HF.out;show _<_;omega),(by have:=HE.out;show _=_;rw [this];simp only [Nat.add_assoc]),HO3,HB3⟩
     case measure=>simp [intOf];omega
   ·have hE:Tk.scan s.data.toList=([],(Tk.tok (s.data.toList.drop p)).code,(p:Int)):=by
     rw [HR.out,Tk.tok_bad _ _ _ hl hc]
     simp [Tk.comb,hc]
    have hv: ∀ T,ansV (Tk.tok (s.data.toList.drop p)) p T= .tuple #[.agg #[.int .i64 0,.int .i64 0,.string ⟨#[]⟩,.int .i64 0],.agg #[.int .i64 (Tk.tok (s.data.toList.drop p)).code,.int .i64 (p:Int)]]:=fun T=>by
     unfold ansV
     rw [if_neg hc]
    rw [hv]
    have d2:((Tk.tok (s.data.toList.drop p)).code !=0)=true:=by simpa using hc
    clear hv hc HR HF hl hlen
    generalize (Tk.tok (s.data.toList.drop p)).code=c at *
    have HE:=hide hE
    obtain ⟨c0,c1,f0,f1⟩:=fltAt_of HB2.out
    have hzz:w.heap.size<w2.heap.size:=by omega
    clear hE hb2
    go_wp2
    go_region
    all_goals go_wp2
    refine bodyPost_ret (v:=scanV (.slice none 0 0) ([],c,(p:Int))) (by simp [results,Tryz.results19,go_sem,scanV,c0,c1,hzz]) rfl ⟨.slice none 0 0,?_⟩
    rw [HE.out]
    refine ⟨rfl,World.ownsRow_nil _ _ _ _,?_⟩
    exact (((((((Below.refl _ w).alloc (Nat.le_refl _) _).trans (HB2.out.mono (by omega))).setCell (Nat.le_refl _) _).setCell (Nat.le_refl _) _).alloc (by simp [World.setCell];omega) _).alloc (by simp [World.setCell];omega) _).drew
  ·obtain rfl:p=s.size:=by omega
   have HE:Hid (Tk.scan s.data.toList=(acc,0,0)):=by
    have h1:=HR.out
    rw [List.drop_of_length_le (by rw [←HN.out];omega),Tk.tl_nil] at h1
    show _=_
    rw [h1]
    simp [Tk.comb]
   obtain ⟨c0,c1,f0,f1⟩:=fltAt_of HB.out
   go_wp2
   refine bodyPost_ret (v:=scanV u4 (acc,0,0)) (by simp [results,Tryz.results19,go_sem,scanV,c0,c1]) rfl ⟨u4,?_⟩
   rw [HE.out]
   refine ⟨rfl,?_,?_⟩
   ·exact own_down (ownsRow_setCell_below (ownsRow_setCell_below HO.out (a:=⟨w.heap.size,0,none⟩) (by simp) _) (a:=⟨w.heap.size,1,none⟩) (by simp) _) (by omega)
   ·exact ((((Below.refl _ w).alloc (Nat.le_refl _) _).trans (HB.out.mono (by omega))).setCell (Nat.le_refl _) _).setCell (Nat.le_refl _) _
end Go.Proofs.YtcdcoiobpbdmpaaGreatDoor
namespace Go.Proofs.YtcdcoiobpbdmpaaGreatDoor
open Go.RowKit
def Tk.isN (l:List UInt8):Bool:=decide (0<l.length) && decide (l.length≤12) && Tk.isL (l.headD 0) && decide (Tk.run l=l.length) && !Tk.isW l
theorem head_at (s:ByteArray) (h0:0<s.size):s[0]=s.data.toList.headD 0:=by
 have h1:=drop_at s 0 h0
 rw [List.drop_zero] at h1
 rw [h1];rfl
set_option maxHeartbeats 1000000 in
theorem name_any (s:ByteArray) (w:World) (hw:WTab w) (hs:s.size≤1099511627776):
  Calls Tryz.prog 128 #[.string s] w fun e w'=>e= .returned (.bool (Tk.isN s.data.toList))∧w'=w:=by
 have hz:=Lib.size_eq s
 by_cases h0:s.size=0
 ·have hE:Tk.isN s.data.toList=false:=by unfold Tk.isN;rw [←hz,h0];rfl
  have hse:s=⟨#[]⟩:=by
   apply ByteArray.ext
   exact Array.eq_empty_of_size_eq_zero h0
  have HE:=hide hE
  have HS:=hide hse
  clear hE hz hw
  have q2:s.toList=[]:=by rw [Lib.toList_data,hse]
  have q1:s.toList.isEmpty=true:=by rw [q2];rfl
  clear hse
  go_enter Tryz.func128,Tryz.ntmps128
  go_wp2
  all_goals
   go_ret
   rw [HE.out]
   exact ⟨rfl,rfl⟩
 ·have hp:0<s.size:=by omega
  have q2: ¬ s.toList=[]:=by
   rw [Lib.toList_data]
   intro h1
   rw [h1] at hz
   exact h0 hz
  have q1:s.toList.isEmpty=false:=by simpa using q2
  by_cases h12:12<s.size
  ·have hE:Tk.isN s.data.toList=false:=by
    unfold Tk.isN
    rw [←hz,show decide (s.size≤12)=false from by simp;omega]
    simp
   have HE:=hide hE
   clear hE hz hw
   have d1:decide ((12:Int)<(s.size:Int))=true:=by simp;omega
   go_enter Tryz.func128,Tryz.ntmps128
   go_wp2
   all_goals
    go_ret
    rw [HE.out]
    exact ⟨rfl,rfl⟩
  ·have d1:decide ((12:Int)<(s.size:Int))=false:=by simp;omega
   have hh:=head_at s hp
   have HL:=hide (fun w=>isLetter_any s[0] w)
   have HR:=hide (fun w=>runEnd_any s 0 w hs (Nat.zero_le _))
   have HW:=hide (fun w hw=>word_any s w hw)
   have HT:=hide hw
   have hE:Tk.isN s.data.toList=(Tk.isL s[0] && decide (Tk.run s.data.toList=s.size) && !Tk.isW s.data.toList):=by
    unfold Tk.isN
    rw [←hz,hh,show decide (0<s.size)=true from by simp;omega,show decide (s.size≤12)=true from by simp;omega]
    simp
   have HE:=hide hE
   clear hE hz hw hh h0
   cases hL:Tk.isL s[0]
   ·go_enter Tryz.func128,Tryz.ntmps128
    go_wp2_with (first|(go_at_call 86;refine (HL.out _).mono ?_;rintro e w' ⟨rfl,hw⟩;subst hw))
    go_ret
    rw [HE.out,hL]
    exact ⟨rfl,rfl⟩
   ·cases hr:decide (Tk.run s.data.toList=s.size)
    ·have q2:((Tk.run s.data.toList:Int) == (s.size:Int))=false:=by simp at hr ⊢;omega
     go_enter Tryz.func128,Tryz.ntmps128
     go_wp2_with (first|(go_at_call 86;refine (HL.out _).mono ?_;rintro e w' ⟨rfl,hw⟩;subst hw)|(go_at_call 58;refine (HR.out _).mono ?_;rintro e w' ⟨rfl,hw⟩;subst hw)|(go_at_call 88;refine (HW.out _ HT.out).mono ?_;rintro e w' ⟨rfl,hw⟩;subst hw))
     go_ret
     rw [HE.out,hL,hr]
     exact ⟨rfl,rfl⟩
    ·have q2:((Tk.run s.data.toList:Int) == (s.size:Int))=true:=by simp at hr ⊢;omega
     cases hWd:Tk.isW s.data.toList
     ·go_enter Tryz.func128,Tryz.ntmps128
      go_wp2_with (first|(go_at_call 86;refine (HL.out _).mono ?_;rintro e w' ⟨rfl,hw⟩;subst hw)|(go_at_call 58;refine (HR.out _).mono ?_;rintro e w' ⟨rfl,hw⟩;subst hw)|(go_at_call 88;refine (HW.out _ HT.out).mono ?_;rintro e w' ⟨rfl,hw⟩;subst hw))
      go_ret
      rw [HE.out,hL,hr,hWd]
      exact ⟨rfl,rfl⟩
     ·go_enter Tryz.func128,Tryz.ntmps128
      go_wp2_with (first|(go_at_call 86;refine (HL.out _).mono ?_;rintro e w' ⟨rfl,hw⟩;subst hw)|(go_at_call 58;refine (HR.out _).mono ?_;rintro e w' ⟨rfl,hw⟩;subst hw)|(go_at_call 88;refine (HW.out _ HT.out).mono ?_;rintro e w' ⟨rfl,hw⟩;subst hw))
      go_ret
      rw [HE.out,hL,hr,hWd]
      exact ⟨rfl,rfl⟩
theorem tcells_at (l:List Tk.Tok) (i:Nat) (x:Tk.Tok) (h:l[i]? =some x):(tcells l)[i * 4]? =some (.int .i64 x.kind)∧(tcells l)[i * 4+1]? =some (.int .i64 (x.at':Int))∧(tcells l)[i * 4+2]? =some (.string (bs x.text))∧(tcells l)[i * 4+3]? =some (.int .i64 x.n):=by
 induction l generalizing i with
 |nil=>simp at h
 |cons y r ih=>
  match i with
  |0=>simp at h;subst h;simp [tcells]
  |i+1=>
   have:=ih i (by simpa using h)
   rw [show (i+1) * 4=i * 4+1+1+1+1 from by omega]
   simpa [tcells] using this
structure Kp (S:List Nat) (w w':World):Prop where
 os:w'.os=w.os
 tape:w'.tape=w.tape
 output:w'.output=w.output
 size:w.heap.size≤w'.heap.size
 block: ∀ k,k<w.heap.size→k ∉ S→w'.heap[k]? =w.heap[k]?
theorem Kp.refl (S:List Nat) (w:World):Kp S w w:=⟨rfl,rfl,rfl,Nat.le_refl _,fun _ _ _=>rfl⟩
theorem Kp.trans {S:List Nat} {a b c:World} (h:Kp S a b) (k:Kp S b c):Kp S a c:=
 ⟨k.os.trans h.os,k.tape.trans h.tape,k.output.trans h.output,Nat.le_trans h.size k.size,fun i hi hn=>(k.block i (Nat.lt_of_lt_of_le hi h.size) hn).trans (h.block i hi hn)⟩
theorem Kp.mono {S S':List Nat} {a b:World} (h:Kp S a b) (hs: ∀ k,k ∈ S→k ∈ S'):Kp S' a b:=
 ⟨h.os,h.tape,h.output,h.size,fun i hi hn=>h.block i hi (fun hm=>hn (hs i hm))⟩
theorem Kp.new {S:List Nat} {b:Nat} {w w':World} (h:Kp (b::S) w w') (hb:w.heap.size≤b):Kp S w w':=
 ⟨h.os,h.tape,h.output,h.size,fun i hi hn=>h.block i hi (fun hm=>by
  rcases List.mem_cons.1 hm with rfl|hm
  ·omega
  ·exact hn hm)⟩
theorem Kp.drew {S:List Nat} {a w:World} (h:Kp S a w):Kp S a w.drew:=⟨h.os,h.tape,h.output,h.size,h.block⟩
theorem Kp.drewN {S:List Nat} {a w:World} (h:Kp S a w) (n:Nat):Kp S a (w.drewN n):=⟨h.os,h.tape,h.output,h.size,h.block⟩
theorem Kp.alloc {S:List Nat} {a w:World} (h:Kp S a w) (o:Obj):Kp S a (w.alloc o):=
 h.trans ⟨rfl,rfl,rfl,by simp,fun k hk _=>Below.heap_alloc _ _ _ hk⟩
theorem Kp.setCell {S:List Nat} {a w:World} (h:Kp S a w) {p:Addr} (hp:p.block ∈ S) (u:Value):Kp S a (w.setCell p u):=
 h.trans ⟨rfl,rfl,rfl,by simp [World.setCell],fun k _ hn=>Below.heap_setCell _ _ _ _ (fun he=>hn (he ▸ hp))⟩
theorem Kp.set_new {S:List Nat} {a w:World} (h:Kp S a w) {p:Addr} (hp:a.heap.size≤p.block) (u:Value):Kp S a (w.setCell p u):=
 ⟨h.os,h.tape,h.output,by simpa [World.setCell] using h.size,fun k hk hn=>(Below.heap_setCell _ _ _ _ (by omega)).trans (h.block k hk hn)⟩
theorem Kp.rb {b:Nat} {S:List Nat} {a w:World} (h:Kp (b::S) a w) (o:Nat) (u:Value):Kp (b::S) a (w.setCell ⟨b,o,none⟩ u):=h.setCell (List.mem_cons_self) u
theorem Kp.nb {b:Nat} {S:List Nat} {a w:World} (h:Kp S a w) (hb:a.heap.size≤b) (o:Nat) (u:Value):Kp S a (w.setCell ⟨b,o,none⟩ u):=h.set_new (p:=⟨b,o,none⟩) hb u
theorem Kp.of_below {S:List Nat} {w w':World} (h:Below w.heap.size w w'):Kp S w w':=⟨h.os,h.tape,h.output,h.size,fun k hk _=>h.block k hk⟩
theorem Kp.grown {S:List Nat} {a w w':World} {row:Option Nat} (h:Kp S a w) (hg:w.grownBy w' row) (hr: ∀ k,row=some k→a.heap.size≤k∨k ∈ S):Kp S a w':=
 ⟨hg.os.trans h.os,hg.tape.trans h.tape,hg.output.trans h.output,Nat.le_trans h.size hg.size,fun k hk hn=>(hg.block k (Nat.lt_of_lt_of_le hk h.size) (fun e=>by
  rcases hr k e.symm with h1|h1
  ·omega
  ·exact hn h1)).trans (h.block k hk hn)⟩
theorem Kp.cell {S:List Nat} {w w':World} (h:Kp S w w') {p:Addr} (hp:p.block<w.heap.size) (hn:p.block ∉ S):w'.cell? p=w.cell? p:=World.cell?_of_block (w:=w) (h.block p.block hp hn)
theorem Kp.frozen {S:List Nat} {w w':World} (h:Kp S w w') {p:Addr} (hp:p.block<w.heap.size) (hn:p.block ∉ S):w'.frozen? p=w.frozen? p:=World.frozen?_of_block (w:=w) (h.block p.block hp hn)
theorem Kp.some {S:List Nat} {w w':World} (h:Kp S w w') {p:Addr} {v:Value} (hv:w.cell? p= .some v) (hn:p.block ∉ S):w'.cell? p= .some v:=
 (h.cell (World.block_lt_of_cell? w p hv) hn).trans hv
theorem Kp.below {w w':World} (h:Kp [] w w'):Below w.heap.size w w':=⟨h.os,h.tape,h.output,h.size,fun k hk=>h.block k hk (by simp)⟩
structure Cx where
 rb:Nat
 tb:Nat
 cap:Nat
 a:Option Addr
 full:List Tk.Tok
 e:Nat
structure RD (c:Cx) (w:World) (n:Nat) (s:Sx.St):Prop where
 hn:n≤c.full.length
 hm:c.full.length≤12000
 he:c.e≤12000
 rlt:c.rb<w.heap.size
 c0:w.cell? ⟨c.rb,0,none⟩=some (.slice c.a c.full.length c.cap)
 c1:w.cell? ⟨c.rb,1,none⟩=some (.int .i64 n)
 c2:w.cell? ⟨c.rb,2,none⟩=some (.int .i64 c.e)
 c3:w.cell? ⟨c.rb,3,none⟩=some (.int .i64 s.stmts)
 c4:w.cell? ⟨c.rb,4,none⟩=some (.int .i64 s.dep)
 c5:w.cell? ⟨c.rb,5,none⟩=some (.int .i64 s.opn)
 c6:w.cell? ⟨c.rb,6,none⟩=some (.int .i64 s.parts)
 b3:s.stmts≤300
 b4:s.dep≤8
 b5:s.opn≤60
 b6:s.parts+(c.full.length - n)≤12000
 fz: ∀ o,w.frozen? ⟨c.rb,o,none⟩=false
 ne:c.full ≠ []→c.a=some ⟨c.tb,0,none⟩∧c.tb ≠ c.rb
 tk: ∀ (i:Nat) t,c.full[i]? =some t→w.cell? ⟨c.tb,i * 4,none⟩=some (.int .i64 t.kind)∧w.cell? ⟨c.tb,i * 4+1,none⟩=some (.int .i64 (t.at':Int))∧
  w.cell? ⟨c.tb,i * 4+2,none⟩=some (.string (bs t.text))∧w.cell? ⟨c.tb,i * 4+3,none⟩=some (.int .i64 t.n)∧t.at'≤12000
theorem RD.keep {c:Cx} {w w':World} {n:Nat} {s:Sx.St} {S:List Nat} (h:RD c w n s) (k:Kp S w w') (hr:c.rb ∉ S) (ht:c.full ≠ []→c.tb ∉ S):RD c w' n s:=
 { h with
   rlt:=Nat.lt_of_lt_of_le h.rlt k.size
   c0:=k.some h.c0 hr
   c1:=k.some h.c1 hr
   c2:=k.some h.c2 hr
   c3:=k.some h.c3 hr
   c4:=k.some h.c4 hr
   c5:=k.some h.c5 hr
   c6:=k.some h.c6 hr
   fz:=fun o=>(k.frozen (p:=⟨c.rb,o,none⟩) h.rlt hr).trans (h.fz o)
   tk:=fun i t ht'=>by
    obtain ⟨h1,h2,h3,h4,h5⟩:=h.tk i t ht'
    have hne:c.tb ∉ S:=ht (fun e=>by rw [e] at ht';simp at ht')
    exact ⟨k.some h1 hne,k.some h2 hne,k.some h3 hne,k.some h4 hne,h5⟩ }
end Go.Proofs.YtcdcoiobpbdmpaaGreatDoor
namespace Go.Proofs.YtcdcoiobpbdmpaaGreatDoor
open Go.RowKit
theorem drew2 (w:World) (a b:Nat):(w.drewN a).drewN b=w.drewN (a+b):=by simp [World.drewN,Nat.add_assoc]
theorem drop_last (l:List Tk.Tok) (n:Nat) (h:n≤l.length) (hn: ¬ n<l.length):l.drop n=[]:=by simp;omega
theorem drop_cons (l:List Tk.Tok) (n:Nat) (h:n<l.length): ∃ t,l[n]? =some t∧l.drop n=t::l.drop (n+1):=
 ⟨l[n],by simp [h],List.drop_eq_getElem_cons h⟩
set_option maxHeartbeats 400000 in
theorem over_any (c:Cx) (w:World) (n:Nat) (s:Sx.St) (h:RD c w n s):
  Calls Tryz.prog 64 #[.pointer (some ⟨c.rb,0,none⟩)] w fun e w'=>e= .returned (.bool (c.full.drop n).isEmpty)∧ ∃ k,w'=w.drewN k:=by
 have c0:=h.c0
 have c1:=h.c1
 have hE:(c.full.drop n).isEmpty=((n:Int) == (c.full.length:Int)):=by
  have:=h.hn
  rw [Bool.eq_iff_iff]
  simp
  omega
 rw [hE]
 clear hE
 go_enter Tryz.func64,Tryz.ntmps64
 go_wp2
 go_quiet (fail)
 go_wp2
 go_ret
 exact ⟨rfl,_,rfl⟩
theorem RD.drewN {c:Cx} {w:World} {n:Nat} {s:Sx.St} (h:RD c w n s) (k:Nat):RD c (w.drewN k) n s:=
 h.keep ((Kp.refl [] w).drewN k) (by simp) (by simp)
set_option maxHeartbeats 400000 in
theorem at_any (c:Cx) (w:World) (n:Nat) (s:Sx.St) (h:RD c w n s):
  Calls Tryz.prog 90 #[.pointer (some ⟨c.rb,0,none⟩)] w fun e w'=>e= .returned (.int .i64 (Sx.place c.e (c.full.drop n)))∧ ∃ k,w'=w.drewN k:=by
 have HO:=hide (fun w h=>over_any c w n s h)
 have HH:=hide h
 by_cases hlt:n<c.full.length
 ·obtain ⟨t,ht,hd⟩:=drop_cons c.full n hlt
  obtain ⟨ha,_⟩:=h.ne (fun e=>by rw [e] at hlt;simp at hlt)
  have hE:(c.full.drop n).isEmpty=false:=by rw [hd];rfl
  have HE:=hide hE
  have HP:Hid (Sx.place c.e (c.full.drop n)=(t.at':Int)):=by rw [hd];rfl
  obtain ⟨_,k1,_,_,_⟩:=h.tk n t ht
  have c0:=h.c0
  have c1:=h.c1
  clear h hE hd ht
  rw [ha] at c0
  clear ha
  go_enter Tryz.func90,Tryz.ntmps90
  go_wp2_with fail
  refine (HO.out _ HH.out).mono ?_
  rintro e w1 ⟨rfl,k,rfl⟩
  rw [HE.out]
  go_wp2
  go_quiet (fail)
  go_wp2
  go_ret
  rw [HP.out]
  exact ⟨rfl,_,drew2 _ _ _⟩
 ·have hd:=drop_last c.full n h.hn hlt
  have hE:(c.full.drop n).isEmpty=true:=by rw [hd];rfl
  have HE:=hide hE
  have HP:Hid (Sx.place c.e (c.full.drop n)=(c.e:Int)):=by rw [hd];rfl
  have c2:=h.c2
  clear h hE hd
  go_enter Tryz.func90,Tryz.ntmps90
  go_wp2_with fail
  refine (HO.out _ HH.out).mono ?_
  rintro e w1 ⟨rfl,k,rfl⟩
  rw [HE.out]
  go_wp2
  go_ret
  rw [HP.out]
  exact ⟨rfl,_,rfl⟩
end Go.Proofs.YtcdcoiobpbdmpaaGreatDoor
namespace Go.Proofs.YtcdcoiobpbdmpaaGreatDoor
open Go.RowKit
theorem bs_list (l:List UInt8):(bs l).data.toList=l:=by simp [bs]
set_option maxHeartbeats 400000 in
theorem text_any (c:Cx) (w:World) (n:Nat) (s:Sx.St) (h:RD c w n s):
  Calls Tryz.prog 97 #[.pointer (some ⟨c.rb,0,none⟩)] w fun e w'=>e= .returned (.string (bs (Sx.txt (c.full.drop n))))∧ ∃ k,w'=w.drewN k:=by
 have HO:=hide (fun w h=>over_any c w n s h)
 have HH:=hide h
 by_cases hlt:n<c.full.length
 ·obtain ⟨t,ht,hd⟩:=drop_cons c.full n hlt
  obtain ⟨ha,_⟩:=h.ne (fun e=>by rw [e] at hlt;simp at hlt)
  have hE:(c.full.drop n).isEmpty=false:=by rw [hd];rfl
  have HE:=hide hE
  have HP:Hid (Sx.txt (c.full.drop n)=t.text):=by rw [hd];rfl
  obtain ⟨_,_,k1,_,_⟩:=h.tk n t ht
  have c0:=h.c0
  have c1:=h.c1
  clear h hE hd ht
  rw [ha] at c0
  clear ha
  go_enter Tryz.func97,Tryz.ntmps97
  go_wp2_with fail
  refine (HO.out _ HH.out).mono ?_
  rintro e w1 ⟨rfl,k,rfl⟩
  rw [HE.out]
  go_wp2
  go_quiet (fail)
  go_wp2
  go_ret
  rw [HP.out]
  exact ⟨rfl,_,drew2 _ _ _⟩
 ·have hd:=drop_last c.full n h.hn hlt
  have hE:(c.full.drop n).isEmpty=true:=by rw [hd];rfl
  have HE:=hide hE
  have HP:Hid (Sx.txt (c.full.drop n)=[]):=by rw [hd];rfl
  clear h hE hd
  go_enter Tryz.func97,Tryz.ntmps97
  go_wp2_with fail
  refine (HO.out _ HH.out).mono ?_
  rintro e w1 ⟨rfl,k,rfl⟩
  rw [HE.out]
  go_wp2
  go_ret
  rw [HP.out]
  exact ⟨rfl,_,rfl⟩
theorem bs_eq (l:List UInt8) (x:ByteArray):((bs l).toList == x.toList)=decide (l=x.data.toList):=by
 rw [Lib.toList_data,Lib.toList_data,bs_list,Bool.eq_iff_iff]
 simp
set_option maxHeartbeats 400000 in
theorem sees_any (x:ByteArray) (c:Cx) (w:World) (n:Nat) (s:Sx.St) (h:RD c w n s):
  Calls Tryz.prog 65 #[.pointer (some ⟨c.rb,0,none⟩),.string x] w fun e w'=>e= .returned (.bool (decide (Sx.txt (c.full.drop n)=x.data.toList)))∧ ∃ k,w'=w.drewN k:=by
 have HO:=hide (text_any c w n s h)
 have HQ:=hide (bs_eq (Sx.txt (c.full.drop n)) x)
 clear h
 generalize Sx.txt (c.full.drop n)=tx at *
 go_enter Tryz.func65,Tryz.ntmps65
 go_wp2_with fail
 refine HO.out.mono ?_
 rintro e w1 ⟨rfl,k,rfl⟩
 go_wp2
 go_ret
 rw [←HQ.out]
 exact ⟨rfl,_,rfl⟩
end Go.Proofs.YtcdcoiobpbdmpaaGreatDoor
namespace Go.Proofs.YtcdcoiobpbdmpaaGreatDoor
open Go.RowKit
theorem cell_off (w:World) (b o o':Nat) (v:Value) (h:o ≠ o'):(w.setCell ⟨b,o,none⟩ v).cell? ⟨b,o',none⟩=w.cell? ⟨b,o',none⟩:=by
 refine World.cell?_setCell_other _ _ _ _ (fun he=>h ?_)
 injection he
theorem RD.step {c:Cx} {w:World} {n:Nat} {s:Sx.St} (h:RD c w n s) (hlt:n<c.full.length):RD c (w.setCell ⟨c.rb,1,none⟩ (.int .i64 ((n:Int)+1))) (n+1) s:=
 { h with
   rlt:=by simpa [World.setCell] using h.rlt
   c0:=(cell_off _ _ _ _ _ (by decide)).trans h.c0
   c1:=by rw [World.cell?_setCell_same (h:=h.c1)];simp
   c2:=(cell_off _ _ _ _ _ (by decide)).trans h.c2
   c3:=(cell_off _ _ _ _ _ (by decide)).trans h.c3
   c4:=(cell_off _ _ _ _ _ (by decide)).trans h.c4
   c5:=(cell_off _ _ _ _ _ (by decide)).trans h.c5
   c6:=(cell_off _ _ _ _ _ (by decide)).trans h.c6
   hn:=hlt
   b6:=by have:=h.b6;omega
   fz:=fun o=>by simpa using h.fz o
   tk:=fun i t ht=>by
    obtain ⟨h1,h2,h3,h4,h5⟩:=h.tk i t ht
    have hne:=(h.ne (fun e=>by rw [e] at ht;simp at ht)).2
    exact ⟨(World.cell?_setCell_far _ _ _ _ hne.symm).trans h1,(World.cell?_setCell_far _ _ _ _ hne.symm).trans h2,(World.cell?_setCell_far _ _ _ _ hne.symm).trans h3,(World.cell?_setCell_far _ _ _ _ hne.symm).trans h4,h5⟩ }
theorem RD.stmt {c:Cx} {w:World} {n:Nat} {s:Sx.St} (h:RD c w n s) (hlt:s.stmts<300):RD c (w.setCell ⟨c.rb,3,none⟩ (.int .i64 ((s.stmts:Int)+1))) n s.stmt:=
 { h with
   rlt:=by simpa [World.setCell] using h.rlt
   c0:=(cell_off _ _ _ _ _ (by decide)).trans h.c0
   c1:=(cell_off _ _ _ _ _ (by decide)).trans h.c1
   c2:=(cell_off _ _ _ _ _ (by decide)).trans h.c2
   c3:=by rw [World.cell?_setCell_same (h:=h.c3)];simp [Sx.St.stmt]
   c4:=(cell_off _ _ _ _ _ (by decide)).trans h.c4
   c5:=(cell_off _ _ _ _ _ (by decide)).trans h.c5
   c6:=(cell_off _ _ _ _ _ (by decide)).trans h.c6
   b3:=hlt
   fz:=fun o=>by simpa using h.fz o
   tk:=fun i t ht=>by
    obtain ⟨h1,h2,h3,h4,h5⟩:=h.tk i t ht
    have hne:=(h.ne (fun e=>by rw [e] at ht;simp at ht)).2
    exact ⟨(World.cell?_setCell_far _ _ _ _ hne.symm).trans h1,(World.cell?_setCell_far _ _ _ _ hne.symm).trans h2,(World.cell?_setCell_far _ _ _ _ hne.symm).trans h3,(World.cell?_setCell_far _ _ _ _ hne.symm).trans h4,h5⟩ }
theorem RD.up {c:Cx} {w:World} {n:Nat} {s:Sx.St} (h:RD c w n s) (hlt:s.dep<8):RD c (w.setCell ⟨c.rb,4,none⟩ (.int .i64 ((s.dep:Int)+1))) n s.up:=
 { h with
   rlt:=by simpa [World.setCell] using h.rlt
   c0:=(cell_off _ _ _ _ _ (by decide)).trans h.c0
   c1:=(cell_off _ _ _ _ _ (by decide)).trans h.c1
   c2:=(cell_off _ _ _ _ _ (by decide)).trans h.c2
   c3:=(cell_off _ _ _ _ _ (by decide)).trans h.c3
   c4:=by rw [World.cell?_setCell_same (h:=h.c4)];simp [Sx.St.up]
   c5:=(cell_off _ _ _ _ _ (by decide)).trans h.c5
   c6:=(cell_off _ _ _ _ _ (by decide)).trans h.c6
   b4:=hlt
   fz:=fun o=>by simpa using h.fz o
   tk:=fun i t ht=>by
    obtain ⟨h1,h2,h3,h4,h5⟩:=h.tk i t ht
    have hne:=(h.ne (fun e=>by rw [e] at ht;simp at ht)).2
    exact ⟨(World.cell?_setCell_far _ _ _ _ hne.symm).trans h1,(World.cell?_setCell_far _ _ _ _ hne.symm).trans h2,(World.cell?_setCell_far _ _ _ _ hne.symm).trans h3,(World.cell?_setCell_far _ _ _ _ hne.symm).trans h4,h5⟩ }
theorem RD.down {c:Cx} {w:World} {n:Nat} {s:Sx.St} (h:RD c w n s) (hlt:0<s.dep):RD c (w.setCell ⟨c.rb,4,none⟩ (.int .i64 ((s.dep:Int) - 1))) n s.down:=
 { h with
   rlt:=by simpa [World.setCell] using h.rlt
   c0:=(cell_off _ _ _ _ _ (by decide)).trans h.c0
   c1:=(cell_off _ _ _ _ _ (by decide)).trans h.c1
   c2:=(cell_off _ _ _ _ _ (by decide)).trans h.c2
   c3:=(cell_off _ _ _ _ _ (by decide)).trans h.c3
   c4:=by rw [World.cell?_setCell_same (h:=h.c4)];simp only [Sx.St.down];rw [show ((s.dep:Int) - 1)=((s.dep - 1:Nat):Int) from by omega]
   c5:=(cell_off _ _ _ _ _ (by decide)).trans h.c5
   c6:=(cell_off _ _ _ _ _ (by decide)).trans h.c6
   b4:=by have:=h.b4;simp only [Sx.St.down];omega
   fz:=fun o=>by simpa using h.fz o
   tk:=fun i t ht=>by
    obtain ⟨h1,h2,h3,h4,h5⟩:=h.tk i t ht
    have hne:=(h.ne (fun e=>by rw [e] at ht;simp at ht)).2
    exact ⟨(World.cell?_setCell_far _ _ _ _ hne.symm).trans h1,(World.cell?_setCell_far _ _ _ _ hne.symm).trans h2,(World.cell?_setCell_far _ _ _ _ hne.symm).trans h3,(World.cell?_setCell_far _ _ _ _ hne.symm).trans h4,h5⟩ }
theorem RD.part {c:Cx} {w:World} {n:Nat} {s:Sx.St} (h:RD c w n s) (hlt:s.parts+1+(c.full.length - n)≤12000):RD c (w.setCell ⟨c.rb,6,none⟩ (.int .i64 ((s.parts:Int)+1))) n s.part:=
 { h with
   rlt:=by simpa [World.setCell] using h.rlt
   c0:=(cell_off _ _ _ _ _ (by decide)).trans h.c0
   c1:=(cell_off _ _ _ _ _ (by decide)).trans h.c1
   c2:=(cell_off _ _ _ _ _ (by decide)).trans h.c2
   c3:=(cell_off _ _ _ _ _ (by decide)).trans h.c3
   c4:=(cell_off _ _ _ _ _ (by decide)).trans h.c4
   c5:=(cell_off _ _ _ _ _ (by decide)).trans h.c5
   c6:=by rw [World.cell?_setCell_same (h:=h.c6)];simp [Sx.St.part]
   b6:=hlt
   fz:=fun o=>by simpa using h.fz o
   tk:=fun i t ht=>by
    obtain ⟨h1,h2,h3,h4,h5⟩:=h.tk i t ht
    have hne:=(h.ne (fun e=>by rw [e] at ht;simp at ht)).2
    exact ⟨(World.cell?_setCell_far _ _ _ _ hne.symm).trans h1,(World.cell?_setCell_far _ _ _ _ hne.symm).trans h2,(World.cell?_setCell_far _ _ _ _ hne.symm).trans h3,(World.cell?_setCell_far _ _ _ _ hne.symm).trans h4,h5⟩ }
def Cx.below (c:Cx) (B:Nat):Prop:=c.rb<B∧(c.full ≠ []→c.tb<B)
theorem RD.lt {c:Cx} {w:World} {n:Nat} {s:Sx.St} (h:RD c w n s):c.below w.heap.size:=⟨h.rlt,fun hne=>by
 obtain ⟨t,ht⟩: ∃ t,c.full[0]? =some t:=by
  cases hf:c.full with
  |nil=>exact absurd hf hne
  |cons a l=>exact ⟨a,by simp⟩
 exact World.block_lt_of_cell? w _ (h.tk 0 t ht).1⟩
theorem RD.set_new {c:Cx} {w:World} {n:Nat} {s:Sx.St} {B:Nat} (h:RD c w n s) (hB:c.below B) {p:Addr} (hp:B≤p.block) (v:Value):RD c (w.setCell p v) n s:=
 h.keep (S:=[p.block]) ((Kp.refl _ _).setCell (by simp) _) (by simp;have:=hB.1;omega) (fun hne=>by simp;have:=hB.2 hne;omega)
theorem RD.alloc {c:Cx} {w:World} {n:Nat} {s:Sx.St} (h:RD c w n s) (o:Obj):RD c (w.alloc o) n s:=h.keep (S:=[]) ((Kp.refl _ _).alloc _) (by simp) (by simp)
theorem RD.drew {c:Cx} {w:World} {n:Nat} {s:Sx.St} (h:RD c w n s):RD c w.drew n s:=h.keep (S:=[]) ((Kp.refl _ _).drew) (by simp) (by simp)
end Go.Proofs.YtcdcoiobpbdmpaaGreatDoor
