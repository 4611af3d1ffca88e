import Derived.Test.YtcdcoiobpbdmpaaGreatDoorMbs
import Derived.Test.YtcdcoiobpbdmpaaGreatDoorMbc
namespace Go.Proofs.YtcdcoiobpbdmpaaGreatDoor
open Go.RowKit
theorem bs_hun {l:List UInt8} (h: ¬ 100<(bs l).size):l.length≤1099511627776:=by
 rw [bsz] at h
 omega
def WEn (n:Nat):Prop:= ∀ (w:World) (P:Nat→Prop) (l:List Sx.Tr) (v:Value) (x:Int),EL w P n l v→LbE n l→0≤x→x≤8000→
 Calls Tryz.prog 21 #[v,.int .i64 x] w fun e w'=> ∃ r:Int,e= .returned (.int .i64 r)∧r≤x∧ -9223372036854775808≤r∧(0≤r→r=x - Sx.wE n l)∧(0≤r→ ∀ (i:Nat) d,l[i]? =some d→Rn.nmE n d)∧w'=w
set_option maxRecDepth 100000 in
set_option maxHeartbeats 1000000 in
theorem weighExprsN_step (n:Nat) (ih:WEn n):WEn (n+1):=by
 intro w P l v x h hb hx0 hx1
 obtain ⟨a,cap,rfl⟩:=h.slice
 have HS:=hide h
 have IH:=hide ih
 have hl:=hb.1
 have HLB:=hide hb.2
 have hwE:Sx.wE (n+1) l=l.length+Sx.sum (fun d=>Sx.wE n (Sx.eL d)) l:=rfl
 have HWE:=hide hwE
 clear h ih hb hwE
 go_enter Tryz.func21,Tryz.ntmps21
 go_wp2
 go_loopw [1,5] (fun lv iv wr=> ∃ (k:Nat) (y:Int),k≤l.length∧iv= .int .i64 k∧lv= .int .i64 y∧y≤x∧ -9223372036854775808≤y∧(0≤y→y=x - l.length - (Sx.sum (fun d=>Sx.wE n (Sx.eL d)) (l.take k):Nat))∧Hid (0≤y→ ∀ (i:Nat) d,i<k→l[i]? =some d→Rn.nmE (n+1) d)∧wr=w) (fun _ iv _=>l.length - (intOf iv).toNat)
 case atStart=>exact ⟨0,x - l.length,Nat.zero_le _,rfl,rfl,by omega,by omega,fun _=>by simp [Sx.sum],(fun _ i d hi=>absurd hi (by omega)),rfl⟩
 case round=>
  obtain ⟨k,y,hk,rfl,rfl,hy1,hy2,hy3,HNM,rfl⟩:=hrel
  by_cases hlt:k<l.length
  ·by_cases hy:0≤y
   ·have hye:=hy3 hy
    have d1:decide ((k:Int)<(l.length:Int))=true:=by simp;omega
    have d2:decide (0≤y)=true:=by simpa using hy
    obtain ⟨b,off,op,nm,z,L,aL,cL,rfl,-,hd,m0,m1,m2,m3,hL⟩:=HS.out.nth k hlt
    have hst:Sx.sum (fun d=>Sx.wE n (Sx.eL d)) (l.take (k+1))=Sx.sum (fun d=>Sx.wE n (Sx.eL d)) (l.take k)+Sx.wE n L:=Sx.sum_take (fun d=>Sx.wE n (Sx.eL d)) l k _ hd
    have HST:=hide hst
    have HD:=hide hd
    have HC:=hide (IH.out _ P L (.slice aL L.length cL) y hL (HLB.out k _ hd) hy (by omega))
    have hk0:(0:Int)≤(k:Int):=by omega
    have hk1:(k:Int)<(l.length:Int):=by omega
    have HYE:=hide hye
    clear hst hL hd hy3 hye
    by_cases hn:100<(bs nm).size
    ·have d3:decide ((100:Int)<((bs nm).size:Int))=true:=by simp;omega
     go_wp2
     go_ret
     exact ⟨_,rfl,by omega,by omega,fun h=>by omega,fun h=>absurd h (by omega),rfl⟩
    ·have d3:decide ((100:Int)<((bs nm).size:Int))=false:=by simp;omega
     go_wp2_with fail
     refine HC.out.mono ?_
     rintro e w1 ⟨r,rfl,hr1,hr2,hr3,hr4,rfl⟩
     have HR4:=hide hr4
     clear hr4
     go_wp2
     go_roundw
     case rel=>exact ⟨k+1,r,by omega,by go_num,rfl,by omega,by omega,fun h=>by have:=hr3 h;have:=HYE.out;rw [HST.out];push_cast;omega,(fun h i d hi hdi=>by
      by_cases hik:i<k
      ·exact HNM.out hy i d hik hdi
      ·obtain rfl:i=k:=by omega
       have hde:=Option.some.inj (hdi.symm.trans HD.out)
       rw [hde]
       exact ⟨bs_hun hn,HR4.out h⟩),by trivial⟩
     case measure=>simp [intOf];omega
   ·have d1:decide ((k:Int)<(l.length:Int))=true:=by simp;omega
    have d2:decide (0≤y)=false:=by simpa using hy
    go_wp2
    go_ret
    exact ⟨_,rfl,by omega,by omega,fun h=>by omega,fun h=>absurd h (by omega),rfl⟩
  ·obtain rfl:k=l.length:=by omega
   have d1:decide ((l.length:Int)<(l.length:Int))=false:=by simp
   go_wp2
   go_ret
   refine ⟨_,rfl,by omega,by omega,fun h=> ?_,(fun h i d hd=>HNM.out h i d (List.getElem?_eq_some_iff.1 hd).1 hd),rfl⟩
   have:=hy3 h
   rw [List.take_length] at this
   rw [HWE.out]
   push_cast
   omega
theorem weighExprsN_any (n:Nat):WEn n:=by
 induction n with
 |zero=>intro w P l v x h;cases h
 |succ n ih=>exact weighExprsN_step n ih
def WSn (n:Nat):Prop:= ∀ (w:World) (P:Nat→Prop) (l:List Sx.Tr) (v:Value) (x:Int),SL w P n l v→LbS n l→0≤x→x≤8000→
 Calls Tryz.prog 12 #[v,.int .i64 x] w fun e w'=> ∃ r:Int,e= .returned (.int .i64 r)∧r≤x∧ -9223372036854775808≤r∧(0≤r→r=x - Sx.wS n l)∧(0≤r→Rn.nmS n l)∧Kp [] w w'
set_option maxRecDepth 100000 in
set_option maxHeartbeats 1000000 in
theorem weighStmtsN_step (n:Nat) (ih:WSn n):WSn (n+1):=by
 intro w P l v x h hb hx0 hx1
 obtain ⟨a,cap,rfl⟩:=h.slice
 have HS:=hide h
 have IH:=hide ih
 have IHE:=hide (weighExprsN_any n)
 have hl:=hb.1
 have HLB:=hide hb.2
 have hwE:Sx.wS (n+1) l=l.length+Sx.sum (fun d=>Sx.wE n (Sx.sE d)+Sx.wS n (Sx.sB d)+Sx.wS n (Sx.sO d)) l:=rfl
 have HWE:=hide hwE
 clear h ih hb hwE
 go_enter Tryz.func12,Tryz.ntmps12
 go_wp2
 go_loopw [1,5] (fun lv iv wr=> ∃ (k:Nat) (y:Int),k≤l.length∧iv= .int .i64 k∧lv= .int .i64 y∧y≤x∧ -9223372036854775808≤y∧(0≤y→y=x - l.length - (Sx.sum (fun d=>Sx.wE n (Sx.sE d)+Sx.wS n (Sx.sB d)+Sx.wS n (Sx.sO d)) (l.take k):Nat))∧Hid (0≤y→ ∀ (i:Nat) t,i<k→l[i]? =some t→(Sx.sH t).2.1.length≤1099511627776∧(Sx.sH t).2.2.1.length≤1099511627776∧(Sx.sH t).2.2.2.1.length≤1099511627776∧(∀ (j:Nat) x,(Sx.sE t)[j]? =some x→Rn.nmE n x)∧Rn.nmS n (Sx.sB t)∧Rn.nmS n (Sx.sO t))∧Hid (Kp [] w wr)) (fun _ iv _=>l.length - (intOf iv).toNat)
 case atStart=>exact ⟨0,x - l.length,Nat.zero_le _,rfl,rfl,by omega,by omega,fun _=>by simp [Sx.sum],(fun _ i d hi=>absurd hi (by omega)),Kp.refl _ _⟩
 case round=>
  obtain ⟨k,y,hk,rfl,rfl,hy1,hy2,hy3,HNM,HK⟩:=hrel
  by_cases hlt:k<l.length
  ·by_cases hy:0≤y
   ·have hye:=hy3 hy
    have d1:decide ((k:Int)<(l.length:Int))=true:=by simp;omega
    have d2:decide (0≤y)=true:=by simpa using hy
    obtain ⟨b,off,D,at',A,B,T,N,E,body,els,uE,uB,uL,rfl,-,hd,m0,m1,m2,m3,m4,m5,m6,m7,m8,hE,hB,hL⟩:=(HS.out.keep HK.out (by simp)).nth k hlt
    obtain ⟨aE,cE,rfl⟩:=hE.slice
    obtain ⟨aB,cB,rfl⟩:=hB.slice
    obtain ⟨aL,cL,rfl⟩:=hL.slice
    have hst:Sx.sum (fun d=>Sx.wE n (Sx.sE d)+Sx.wS n (Sx.sB d)+Sx.wS n (Sx.sO d)) (l.take (k+1))=Sx.sum (fun d=>Sx.wE n (Sx.sE d)+Sx.wS n (Sx.sB d)+Sx.wS n (Sx.sO d)) (l.take k)+(Sx.wE n E+Sx.wS n body+Sx.wS n els):=Sx.sum_take (fun d=>Sx.wE n (Sx.sE d)+Sx.wS n (Sx.sB d)+Sx.wS n (Sx.sO d)) l k _ hd
    have HST:=hide hst
    have HD:=hide hd
    obtain ⟨b1,b2,b3⟩:=HLB.out k _ hd
    have HB1:Hid (LbE n E):=b1
    have HB2:Hid (LbS n body):=b2
    have HB3:Hid (LbS n els):=b3
    have HE:=hide hE
    have HB:=hide hB
    have HL:=hide hL
    have hk0:(0:Int)≤(k:Int):=by omega
    have hk1:(k:Int)<(l.length:Int):=by omega
    have HYE:=hide hye
    have hblt:=World.block_lt_of_cell? _ _ m0
    clear hst hE hB hL hd hy3 hye b1 b2 b3
    by_cases hn1:100<(bs A).size
    ·have d3:decide ((100:Int)<((bs A).size:Int))=true:=by simp;omega
     go_wp2
     go_ret
     exact ⟨_,rfl,by omega,by omega,fun h=>by omega,fun h=>absurd h (by omega),HK.out.alloc _⟩
    ·have d3:decide ((100:Int)<((bs A).size:Int))=false:=by simp;omega
     by_cases hn2:100<(bs B).size
     ·have d4:decide ((100:Int)<((bs B).size:Int))=true:=by simp;omega
      go_wp2
      go_ret
      exact ⟨_,rfl,by omega,by omega,fun h=>by omega,fun h=>absurd h (by omega),HK.out.alloc _⟩
     ·have d4:decide ((100:Int)<((bs B).size:Int))=false:=by simp;omega
      by_cases hn3:100<(bs T).size
      ·have d5:decide ((100:Int)<((bs T).size:Int))=true:=by simp;omega
       go_wp2
       go_ret
       exact ⟨_,rfl,by omega,by omega,fun h=>by omega,fun h=>absurd h (by omega),HK.out.alloc _⟩
      ·have d5:decide ((100:Int)<((bs T).size:Int))=false:=by simp;omega
       go_wp2_with fail
       refine (IHE.out _ P E _ y (HE.out.keep ((Kp.refl [] _).alloc _) (by simp)) HB1.out hy (by omega)).mono ?_
       rintro e w1 ⟨r1,rfl,hr1,hr2,hr3,hr4,rfl⟩
       have HR4:=hide hr4
       clear hr4
       by_cases g1:0≤r1
       ·have d6:decide (0≤r1)=true:=by simpa using g1
        go_wp2_with fail
        refine (IH.out _ P body _ r1 (HB.out.keep ((Kp.refl [] _).alloc _) (by simp)) HB2.out g1 (by omega)).mono ?_
        rintro e w2 ⟨r2,rfl,hs1,hs2,hs3,hs4,hk2⟩
        have HS4:=hide hs4
        clear hs4
        have K2:Hid (Kp [] wr w2):=((Kp.refl [] _).alloc _).trans hk2
        have c8:w2.cell? ⟨wr.heap.size,8,none⟩=some (.slice aL els.length cL):=hk2.some (by simp [go_sem]) (by simp)
        clear hk2
        by_cases g2:0≤r2
        ·have d7:decide (0≤r2)=true:=by simpa using g2
         go_wp2_with fail
         refine (IH.out _ P els _ r2 (HL.out.keep K2.out (by simp)) HB3.out g2 (by omega)).mono ?_
         rintro e w3 ⟨r3,rfl,ht1,ht2,ht3,ht4,hk3⟩
         have HT4:=hide ht4
         clear ht4
         have K3:=hide (K2.out.trans hk3)
         clear hk3
         go_wp2
         go_roundw
         case rel=>exact ⟨k+1,r3,by omega,by go_num,rfl,by omega,by omega,fun h=>by have:=ht3 h;have:=hs3 g2;have:=hr3 g1;have:=HYE.out;rw [HST.out];push_cast;omega,(fun h i d hi hdi=>by
          by_cases hik:i<k
          ·exact HNM.out hy i d hik hdi
          ·obtain rfl:i=k:=by omega
           have hde:=Option.some.inj (hdi.symm.trans HD.out)
           rw [hde]
           exact ⟨bs_hun hn1,bs_hun hn2,bs_hun hn3,HR4.out g1,HS4.out g2,HT4.out h⟩),HK.out.trans K3.out⟩
         case measure=>simp [intOf];omega
        ·have d7:decide (0≤r2)=false:=by simpa using g2
         go_wp2
         go_roundw
         case rel=>exact ⟨k+1,r2,by omega,by go_num,rfl,by omega,by omega,fun h=>by omega,(fun h=>absurd h (by omega)),HK.out.trans K2.out⟩
         case measure=>simp [intOf];omega
       ·have d6:decide (0≤r1)=false:=by simpa using g1
        go_wp2
        go_roundw
        case rel=>exact ⟨k+1,r1,by omega,by go_num,rfl,by omega,by omega,fun h=>by omega,(fun h=>absurd h (by omega)),HK.out.alloc _⟩
        case measure=>simp [intOf];omega
   ·have d1:decide ((k:Int)<(l.length:Int))=true:=by simp;omega
    have d2:decide (0≤y)=false:=by simpa using hy
    go_wp2
    go_ret
    exact ⟨_,rfl,by omega,by omega,fun h=>by omega,fun h=>absurd h (by omega),HK.out⟩
  ·obtain rfl:k=l.length:=by omega
   have d1:decide ((l.length:Int)<(l.length:Int))=false:=by simp
   go_wp2
   go_ret
   refine ⟨_,rfl,by omega,by omega,fun h=> ?_,(fun h i d hd=>HNM.out h i d (List.getElem?_eq_some_iff.1 hd).1 hd),HK.out⟩
   have:=hy3 h
   rw [List.take_length] at this
   rw [HWE.out]
   push_cast
   omega
theorem weighStmtsN_any (n:Nat):WSn n:=by
 induction n with
 |zero=>intro w P l v x h;cases h
 |succ n ih=>exact weighStmtsN_step n ih
end Go.Proofs.YtcdcoiobpbdmpaaGreatDoor
namespace Go.Proofs.YtcdcoiobpbdmpaaGreatDoor
open Go.RowKit
def Gnm (n:Nat) (d:Sx.Tr):Prop:=(Sx.gN d).length≤1099511627776∧Rn.nmP (Sx.gP d)∧Rn.nmS n (Sx.gB d)
def GPk (n:Nat) (l:List Sx.Tr) (w:World) (e:Ending) (w':World):Prop:= ∃ g,e= .returned (.bool g)∧(g=false→(Sm n l∧ ∀ (i:Nat) d,l[i]? =some d→Gnm n d)∧Sx.wG n l≤8000∧l.length≤100)∧Kp [] w w'
set_option maxRecDepth 100000 in
set_option maxHeartbeats 2000000 in
theorem greatK_any (n:Nat) (w:World) (P:Nat→Prop) (l:List Sx.Tr) (a:Option Addr) (cap:Nat) (h:Sl (RG w P n) w P l (.slice a l.length cap)) (hb:LbG n l):
  Calls Tryz.prog 6 #[.agg #[.slice a l.length cap]] w (GPk n l w):=by
 have HS:=hide h
 have hl:=hb.len
 have HLB:=hide hb.each
 have IH:=hide (weighStmtsN_any n)
 clear h hb
 by_cases h100:100<l.length
 ·have d1:decide ((100:Int)<(l.length:Int))=true:=by simp;omega
  go_enter Tryz.func6,Tryz.ntmps6
  go_wp2
  go_ret
  exact ⟨true,rfl,(fun h=>by simp at h),(Kp.refl _ _).alloc _⟩
 ·have d1:decide ((100:Int)<(l.length:Int))=false:=by simp;omega
  go_enter Tryz.func6,Tryz.ntmps6
  go_wp2
  go_loopw [3,4] (fun lv iv wr=> ∃ (k:Nat) (y:Int),k≤l.length∧iv= .int .i64 k∧lv= .int .i64 y∧0≤y∧y≤8000∧y=8000 - (Sx.sum (fun d=>Sx.wS n (Sx.gB d)) (l.take k):Nat)∧Hid (∀ (i:Nat) d,i<k→l[i]? =some d→(Sx.gP d).length≤100∧Gnm n d)∧Hid (Kp [] w wr)∧wr.cell? ⟨w.heap.size,0,none⟩=some (.slice a l.length cap)) (fun _ iv _=>l.length - (intOf iv).toNat)
  case atStart=>exact ⟨0,8000,Nat.zero_le _,rfl,rfl,by omega,by omega,by simp [Sx.sum],fun i d hi=>absurd hi (by omega),(Kp.refl _ _).alloc _,by simp [go_sem]⟩
  case round=>
   obtain ⟨wo,hwo⟩: ∃ wo,wo=wr:=⟨_,rfl⟩
   subst hwo
   obtain ⟨k,y,hk,rfl,rfl,hy0,hy1,hye,HPS,HK,p0⟩:=hrel
   by_cases hlt:k<l.length
   ·obtain ⟨b,off,nm,at',ps,body,uP,uB,rfl,-,hd,m0,m1,m2,m3,hP,hB⟩:=GL.nth (HS.out.keep HK.out (by simp) (fun d c h=>h.keep HK.out (by simp))) k hlt
    obtain ⟨aP,cP,rfl,-⟩:=id hP
    obtain ⟨aB,cB,rfl⟩:=hB.slice
    have hst:Sx.sum (fun d=>Sx.wS n (Sx.gB d)) (l.take (k+1))=Sx.sum (fun d=>Sx.wS n (Sx.gB d)) (l.take k)+Sx.wS n body:=Sx.sum_take (fun d=>Sx.wS n (Sx.gB d)) l k _ hd
    have HST:=hide hst
    obtain ⟨b1,b2⟩:=HLB.out k _ hd
    have HB1:Hid (LbS n body):=b1
    have HD:=hide hd
    have HP:=hide hP
    have HB:=hide hB
    have HYE:=hide hye
    have hk0:(0:Int)≤(k:Int):=by omega
    have hk1:(k:Int)<(l.length:Int):=by omega
    have hblt:=World.block_lt_of_cell? _ _ m0
    have hblt3:=World.block_lt_of_cell? _ _ p0
    clear hst hP hB hd hye b1 b2
    by_cases hn1:100<(bs nm).size
    ·have d3:decide ((100:Int)<((bs nm).size:Int))=true:=by simp;omega
     go_wp2
     go_ret
     exact ⟨true,rfl,(fun h=>by simp at h),HK.out.alloc _⟩
    ·have d3:decide ((100:Int)<((bs nm).size:Int))=false:=by simp;omega
     by_cases hn2:100<ps.length
     ·have d4:decide ((100:Int)<(ps.length:Int))=true:=by simp;omega
      go_wp2
      go_ret
      exact ⟨true,rfl,(fun h=>by simp at h),HK.out.alloc _⟩
     ·have d4:decide ((100:Int)<(ps.length:Int))=false:=by simp;omega
      go_wp2
      go_loopw [6] (fun iv wr=> ∃ q:Nat,q≤ps.length∧iv= .int .i64 q∧Hid (∀ (i:Nat) p,i<q→ps[i]? =some p→(Sx.pH p).1.length≤1099511627776∧(Sx.pH p).2.length≤1099511627776)∧wr=wo.alloc (.cells #[.string (bs nm),.int .i64 at',.slice aP ps.length cP,.slice aB body.length cB] 53)) (fun iv _=>ps.length - (intOf iv).toNat)
      case atStart=>exact ⟨0,Nat.zero_le _,rfl,(fun i p hi=>absurd hi (by omega)),rfl⟩
      case round=>
       obtain ⟨q,hq,rfl,HPN,rfl⟩:=hrel
       by_cases hlq:q<ps.length
       ·obtain ⟨g,og,nm5,T5,rfl,-,hd5,s0,s1⟩:=PL.nth HP.out q hlq
        have HD5:=hide hd5
        clear hd5
        have hglt:=World.block_lt_of_cell? _ _ s0
        have hq0:(0:Int)≤(q:Int):=by omega
        have hq1:(q:Int)<(ps.length:Int):=by omega
        by_cases hn5:100<(bs nm5).size
        ·have d5:decide ((100:Int)<((bs nm5).size:Int))=true:=by simp;omega
         go_wp2
         go_ret
         exact ⟨true,rfl,(fun h=>by simp at h),HK.out.alloc _⟩
        ·have d5:decide ((100:Int)<((bs nm5).size:Int))=false:=by simp;omega
         by_cases hn6:100<(bs T5).size
         ·have d6:decide ((100:Int)<((bs T5).size:Int))=true:=by simp;omega
          go_wp2
          go_ret
          exact ⟨true,rfl,(fun h=>by simp at h),HK.out.alloc _⟩
         ·have d6:decide ((100:Int)<((bs T5).size:Int))=false:=by simp;omega
          go_wp2
          go_roundw
          case rel=>exact ⟨q+1,by omega,by go_num,(fun i p hi hp=>by
           by_cases hiq:i<q
           ·exact HPN.out i p hiq hp
           ·obtain rfl:i=q:=by omega
            have hpe:=Option.some.inj (hp.symm.trans HD5.out)
            rw [hpe]
            exact ⟨bs_hun hn5,bs_hun hn6⟩),by trivial⟩
          case measure=>simp [intOf];omega
       ·obtain rfl:q=ps.length:=by omega
        go_wp2_with fail
        refine (IH.out _ P body _ y (HB.out.keep ((Kp.refl [] _).alloc _) (by simp)) HB1.out hy0 hy1).mono ?_
        rintro e w2 ⟨r,rfl,hr1,hr2,hr3,hr4,hk2⟩
        have HR4:=hide hr4
        clear hr4
        have K2:Hid (Kp [] wo w2):=((Kp.refl [] _).alloc _).trans hk2
        have q0:w2.cell? ⟨w.heap.size,0,none⟩=some (.slice (some ⟨b,off,none⟩) l.length cap):=K2.out.some p0 (by simp)
        clear hk2
        by_cases g1:r<0
        ·have d6:decide (r<0)=true:=by simpa using g1
         go_wp2
         go_ret
         exact ⟨true,rfl,(fun h=>by simp at h),HK.out.trans K2.out⟩
        ·have d6:decide (r<0)=false:=by simpa using g1
         go_wp2
         go_roundw
         case rel=>
          refine ⟨k+1,r,by omega,by go_num,rfl,by omega,by omega,?_,?_,HK.out.trans K2.out,q0⟩
          ·have:=hr3 (by omega)
           have:=HYE.out
           rw [HST.out]
           push_cast
           omega
          ·intro i d hi hd
           by_cases hik:i<k
           ·exact HPS.out i d hik hd
           ·obtain rfl:i=k:=by omega
            have hde:=Option.some.inj (hd.symm.trans HD.out)
            rw [hde]
            exact ⟨show ps.length≤100 by omega,bs_hun hn1,(fun j p hp=>HPN.out j p (List.getElem?_eq_some_iff.1 hp).1 hp),HR4.out (by omega)⟩
         case measure=>simp [intOf];omega
   ·obtain rfl:k=l.length:=by omega
    go_wp2
    go_ret
    refine ⟨false,rfl,fun _=>⟨⟨⟨by omega,fun i d hd=> ?_,?_⟩,fun i d hd=>(HPS.out i d (List.getElem?_eq_some_iff.1 hd).1 hd).2⟩,?_,by omega⟩,HK.out⟩
    ·have:=(HPS.out i d (List.getElem?_eq_some_iff.1 hd).1 hd).1
     omega
    ·have e:Sx.wG n l=Sx.sum (fun d=>Sx.wS n (Sx.gB d)) l:=rfl
     rw [List.take_length] at hye
     omega
    ·have e:Sx.wG n l=Sx.sum (fun d=>Sx.wS n (Sx.gB d)) l:=rfl
     rw [List.take_length] at hye
     omega
end Go.Proofs.YtcdcoiobpbdmpaaGreatDoor
namespace Go.Proofs.YtcdcoiobpbdmpaaGreatDoor
open Go.RowKit
theorem Rw.mono' {R R':Sx.Tr→List Value→Prop} {l:List Sx.Tr} {cs:List Value} (h:Rw R l cs) (hR: ∀ d c,d ∈ l→R d c→R' d c):Rw R' l cs:=by
 induction l generalizing cs with
 |nil=>exact h
 |cons d r ih=>
  obtain ⟨c1,c2,h1,h2,h3⟩:=h
  exact ⟨c1,c2,h1,hR _ _ (by simp) h2,ih h3 (fun d c hd=>hR d c (by simp [hd]))⟩
theorem Sl.mono' {R R':Sx.Tr→List Value→Prop} {w:World} {P:Nat→Prop} {l:List Sx.Tr} {v:Value} (h:Sl R w P l v) (hR: ∀ d c,d ∈ l→R d c→R' d c):Sl R' w P l v:=by
 obtain ⟨a,cap,hv,h⟩:=h
 refine ⟨a,cap,hv,h.imp id ?_⟩
 rintro ⟨b,off,cs,ha,hb,hr,hc⟩
 exact ⟨b,off,cs,ha,hb,hr.mono' hR,hc⟩
theorem Rn.sum_mem {f:Sx.Tr→Nat} {l:List Sx.Tr} {d:Sx.Tr} (h:d ∈ l):f d+1≤l.length+Sx.sum f l:=by
 induction l with
 |nil=>cases h
 |cons a r ih=>
  simp only [Sx.sum,List.length_cons]
  rcases List.mem_cons.1 h with rfl|h
  ·omega
  ·have:=ih h;omega
theorem EL.lower (N:Nat): ∀ {w:World} {P:Nat→Prop} {l:List Sx.Tr} {v:Value} (m:Nat),EL w P N l v→Sx.wE N l<m→EL w P m l v:=by
 induction N with
 |zero=>intro w P l v m h;cases h
 |succ N ih=>
  intro w P l v m h hm
  obtain ⟨m',rfl⟩: ∃ m',m=m'+1:=⟨m - 1,by omega⟩
  obtain ⟨a,cap,hv,h⟩:=h
  refine ⟨a,cap,hv,h.imp id ?_⟩
  rintro ⟨b,off,ha,hb,hc⟩
  refine ⟨b,off,ha,hb,fun i d hd=> ?_⟩
  obtain ⟨op,nm,k,L,u,h1,h2,h3,h4,h5,h6⟩:=hc i d hd
  refine ⟨op,nm,k,L,u,h1,h2,h3,h4,h5,ih m' h6 ?_⟩
  have e:Sx.wE (N+1) l=l.length+Sx.sum (fun d=>Sx.wE N (Sx.eL d)) l:=rfl
  have:=Rn.sum_mem (f:=fun d=>Sx.wE N (Sx.eL d)) (List.mem_of_getElem? hd)
  rw [h1] at this
  have this':Sx.wE N L+1≤l.length+Sx.sum (fun d=>Sx.wE N (Sx.eL d)) l:=this
  omega
theorem SL.lower (N:Nat): ∀ {w:World} {P:Nat→Prop} {l:List Sx.Tr} {v:Value} (m:Nat),SL w P N l v→Sx.wS N l<m→SL w P m l v:=by
 induction N with
 |zero=>intro w P l v m h;cases h
 |succ N ih=>
  intro w P l v m h hm
  obtain ⟨m',rfl⟩: ∃ m',m=m'+1:=⟨m - 1,by omega⟩
  rw [SL_succ] at h ⊢
  refine h.mono' ?_
  rintro d c hd ⟨D,at',A,B,T,k,E,body,els,uE,uB,uL,h1,h2,h3,h4,h5⟩
  have e:Sx.wS (N+1) l=l.length+Sx.sum (fun d=>Sx.wE N (Sx.sE d)+Sx.wS N (Sx.sB d)+Sx.wS N (Sx.sO d)) l:=rfl
  have:=Rn.sum_mem (f:=fun d=>Sx.wE N (Sx.sE d)+Sx.wS N (Sx.sB d)+Sx.wS N (Sx.sO d)) hd
  rw [h1] at this
  have this':Sx.wE N E+Sx.wS N body+Sx.wS N els+1≤l.length+Sx.sum (fun d=>Sx.wE N (Sx.sE d)+Sx.wS N (Sx.sB d)+Sx.wS N (Sx.sO d)) l:=this
  exact ⟨D,at',A,B,T,k,E,body,els,uE,uB,uL,h1,h2,h3.lower N m' (by omega),ih m' h4 (by omega),ih m' h5 (by omega)⟩
theorem Rn.sum_le {f g:Sx.Tr→Nat} (h: ∀ d,f d≤g d) (l:List Sx.Tr):Sx.sum f l≤Sx.sum g l:=by
 induction l with
 |nil=>exact Nat.le_refl _
 |cons a r ih=>simp only [Sx.sum];have:=h a;omega
theorem Rn.wE_le (m:Nat): ∀ (N:Nat) (l:List Sx.Tr),m≤N→Sx.wE m l≤Sx.wE N l:=by
 induction m with
 |zero=>intro N l _;simp [Sx.wE]
 |succ m ih=>
  intro N l h
  obtain ⟨N',rfl⟩: ∃ N',N=N'+1:=⟨N - 1,by omega⟩
  have:=Rn.sum_le (f:=fun d=>Sx.wE m (Sx.eL d)) (g:=fun d=>Sx.wE N' (Sx.eL d)) (fun d=>ih N' _ (by omega)) l
  show l.length+_≤l.length+_
  omega
theorem Rn.wS_le (m:Nat): ∀ (N:Nat) (l:List Sx.Tr),m≤N→Sx.wS m l≤Sx.wS N l:=by
 induction m with
 |zero=>intro N l _;simp [Sx.wS]
 |succ m ih=>
  intro N l h
  obtain ⟨N',rfl⟩: ∃ N',N=N'+1:=⟨N - 1,by omega⟩
  have:=Rn.sum_le (f:=fun d=>Sx.wE m (Sx.sE d)+Sx.wS m (Sx.sB d)+Sx.wS m (Sx.sO d)) (g:=fun d=>Sx.wE N' (Sx.sE d)+Sx.wS N' (Sx.sB d)+Sx.wS N' (Sx.sO d)) (fun d=>by
   have h1:=Rn.wE_le m N' (Sx.sE d) (by omega)
   have h2:=ih N' (Sx.sB d) (by omega)
   have h3:=ih N' (Sx.sO d) (by omega)
   omega) l
  show l.length+_≤l.length+_
  omega
theorem Rn.nmE_le (m:Nat): ∀ (N:Nat) (d:Sx.Tr),m≤N→Rn.nmE N d→Rn.nmE m d:=by
 induction m with
 |zero=>intro N d _ _;exact trivial
 |succ m ih=>
  intro N d h hn
  obtain ⟨N',rfl⟩: ∃ N',N=N'+1:=⟨N - 1,by omega⟩
  exact ⟨hn.1,fun i x hx=>ih N' x (by omega) (hn.2 i x hx)⟩
theorem Rn.nmS_le (m:Nat): ∀ (N:Nat) (l:List Sx.Tr),m≤N→Rn.nmS N l→Rn.nmS m l:=by
 induction m with
 |zero=>intro N l _ _;exact trivial
 |succ m ih=>
  intro N l h hn
  obtain ⟨N',rfl⟩: ∃ N',N=N'+1:=⟨N - 1,by omega⟩
  intro i t ht
  obtain ⟨h1,h2,h3,h4,h5,h6⟩:=hn i t ht
  exact ⟨h1,h2,h3,fun j x hx=>Rn.nmE_le m N' x (by omega) (h4 j x hx),ih N' _ (by omega) h5,ih N' _ (by omega) h6⟩
end Go.Proofs.YtcdcoiobpbdmpaaGreatDoor
