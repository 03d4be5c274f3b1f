import Derived.Test.YtagklnaaoclmhaaGreatDoorMnAH
import Derived.Lib.Bytealg
import Derived.Laws.IdiomStrings
set_option linter.unusedSimpArgs false
set_option linter.unusedVariables false
set_option maxRecDepth 100000
set_option maxHeartbeats 16000000
namespace Go.Proofs.YtagklnaaoclmhaaGreatDoor
open Go.RowKit
theorem pJ:∀(l:List UInt8) (c:UInt8),(0<=Lib.indexByte l c ↔ sX l c.toNat=true)
 | [],c=>by simp[Lib.indexByte,sX]
 | b :: l,c=>by
  have ih:=pJ l c
  have hg:=Lib.indexByte_ge l c
  unfold Lib.indexByte
  by_cases h:b=c
  ·subst h;simp[sX]
  ·have h2:(b == c)=false:=beq_eq_false_iff_ne.2 h
   have h3:(b.toNat == c.toNat)=false:=beq_eq_false_iff_ne.2 (fun e=>h (UInt8.toNat_inj.1 e))
   rw[if_neg (by simp[h2])]
   have h4:sX (b :: l) c.toNat=sX l c.toNat:=by simp[sX,h3]
   rw[h4,<-ih]
   by_cases h5:Lib.indexByte l c=-1
   ·rw[h5];simp
   ·rw[if_neg (by simpa using h5)];omega
theorem wC (s:ByteArray)(c:Nat)(w:World)(hs:s.size<=1000)(hc:c<256):
  Calls Tryz.prog 216 #[.string s,.int .u8 (c:Int)] w fun e w'=>∃i:Int,e=.returned (.int .i64 i)/\(0<=i ↔ sX s.data.toList c=true)/\w'=w:=by
 have h1:=pJ s.data.toList c.toUInt8
 rw[show c.toUInt8.toNat=c by simp[Nat.toUInt8];omega]at h1
 go_enter Tryz.func216,Tryz.ntmps216
 go_wp2_with fail
 go_wp2
 rw[run_callFunc_extern Tryz.func219 (by kernel_rfl) (by kernel_rfl) (by kernel_rfl) (e:=Extern.BytealgIndexByte.indexByte) (by kernel_rfl),Lib.run_indexByteString]
 simp only[Result.andThen]
 rw[Oper.upon_value]
 go_wp2
 go_ret
 exact⟨_,rfl,h1,rfl⟩
theorem E5 (c:Nat):sX Wm c=Nn (c:Int):=by
 unfold sX Wm Nn
 rw[Bool.eq_iff_iff]
 simp
 omega
theorem Fp {s:ByteArray}{a:Nat}(h:a<s.size):nx s a=(am s a:Int):=by unfold nx;rw[if_neg (by omega)]
theorem gO {g:Sc}(h:g.bad<0):wr g={ g with bad:=g.at_ }:=by unfold wr;rw[if_pos h]
theorem TO {c:Nat}(h:Nn (c:Int)=true):Vb (c:Int)=((if c=110 then 10 else c:Nat):Int):=by
 unfold Vb
 by_cases hc:c=110
 ·rw[if_pos (by omega),if_pos hc];rfl
 ·rw[if_neg (by omega),if_neg hc,if_pos h]
def yq (s:ByteArray)(g:Sc)(least:Nat):Nat × Sc:=if 93<least then (0,wr g) else ey s (bM g) least
theorem Ap (b:Nat)(s:ByteArray)(mv:Mv)(g:Sc)(least:Nat)(w:World)(hR:dT w b s mv g)(hs:s.size<=400)(hb:g.bad<0)(hm:g.at_<s.size)(h92:am s g.at_=92)(hl:least<256):
  Calls Tryz.prog 215 #[.pointer (some ⟨b,0,none⟩),.int .u8 (least:Int)] w fun e w'=>e=.returned (.tuple #[.int .u8 ((yq s g least).1:Int),.bool (decide ((yq s g least).2.bad<0))])/\dT w' b s mv (yq s g least).2/\aa (·=b) w w':=by
 by_cases Ng:93<least
 ·have HX:Hid (yq s g least=(0,{ g with bad:=g.at_ })):=by unfold Hid yq;rw[if_pos Ng,gO hb]
  go_enter Tryz.func215,Tryz.ntmps215
  go_wp2
  go_ret2
  exact⟨by rw[HX.out];simp[show ¬((g.at_:Int)<0) by omega],by rw[HX.out];exact hR.bad _,aa.refl _ _⟩
 ·have HX:Hid (yq s g least=ey s (bM g) least):=by unfold Hid yq;rw[if_neg Ng]
  have hT:sy s g 92=true:=by unfold sy;rw[Fp hm,h92];rfl
  have M5:tk s g 92=bM g:=by unfold tk;rw[hT];rfl
  go_enter Tryz.func215,Tryz.ntmps215
  go_wp2_with fail
  refine(fX b s mv g 92 _ hR hs (by omega) (by decide)).mono ?_
  rintro e w1 ⟨rfl,jM,dd⟩
  rw[M5]at jM
  rw[hT]
  clear hT M5 h92
  go_wp2_with fail
  refine(gI b s mv (bM g) _ jM hs (by rw[bZ];omega)).mono ?_
  rintro e w2 ⟨rfl,n,rfl⟩
  go_wp2_with fail
  refine(Bj _ _).mono ?_
  rintro e w2 ⟨rfl,rfl⟩
  have dP:=jM.drewN n
  obtain⟨c0,c1,c2,c3,c4⟩:=dP.cells
  have hf:=dP.frozen 1
  have dA:(bM g).at_<=s.size:=by rw[bZ];omega
  have gS:(bM g).bad<0:=hb
  by_cases hq:Nn (nx s (bM g).at_)=true
  ·have bj:(bM g).at_<s.size:=by
    by_cases h:(bM g).at_=s.size
    ·exfalso;revert hq;unfold nx;rw[if_pos h];decide
    ·omega
   have jt:cV s (bM g)=true:=cS.2 ⟨hb,bj⟩
   rw[Fp bj]at hq ⊢
   have hv:=TO hq
   rw[hv,hq]
   have fm:ey s (bM g) least=if (if am s (bM g).at_=110 then 10 else am s (bM g).at_)<least then (0,wr (bM g)) else ((if am s (bM g).at_=110 then 10 else am s (bM g).at_),bM (bM g)):=by
    unfold ey;rw[jt,E5,hq];rfl
   have sW:(if am s (bM g).at_=110 then 10 else am s (bM g).at_)<256:=by
    have:=iY s (bM g).at_
    split <;> omega
   clear hv hq
   generalize (if am s (bM g).at_=110 then 10 else am s (bM g).at_)=v at *
   by_cases ZR:v<least
   ·rw[if_pos ZR,gO gS]at fm
    have zF:=ae (HX.out.trans fm)
    clear fm HX
    go_wp2
    go_ret2
    exact⟨by rw[zF.out];simp[show ¬(((bM g).at_:Int)<0) by omega],by rw[zF.out];exact dP.bad _,dd.drewN _⟩
   ·rw[if_neg ZR]at fm
    have zF:=ae (HX.out.trans fm)
    clear fm HX
    go_wp2
    go_ret2
    exact⟨by rw[zF.out];simp[show ((bM (bM g)).bad<0) from hb],by rw[zF.out];exact dP.setAt _,(dd.drewN _).setCell (fun _=>rfl) _⟩
  ·have yN:Nn (nx s (bM g).at_)=false:=by simpa using hq
   have fm:ey s (bM g) least=(0,wr (bM g)):=by
    unfold ey
    cases AN:cV s (bM g)
    ·rfl
    ·have bj:=(cS.1 AN).2
     rw[Fp bj,<-E5]at yN
     rw[yN];rfl
   rw[gO gS]at fm
   have zF:=ae (HX.out.trans fm)
   rw[yN]
   clear fm HX hq
   generalize Vb (nx s (bM g).at_)=v at *
   go_wp2
   go_ret2
   exact⟨by rw[zF.out];simp[show ¬(((bM g).at_:Int)<0) by omega],by rw[zF.out];exact dP.bad _,dd.drewN _⟩
theorem kS (b:Nat)(s bs:ByteArray)(mv:Mv)(g:Sc)(least:Nat)(w:World)(hR:dT w b s mv g)(hs:s.size<=400)(ha:g.at_<=s.size)(hb:g.bad<0)(hl:least<256)(Ob:bs.size<=1000):
  Calls Tryz.prog 212 #[.pointer (some ⟨b,0,none⟩),.int .u8 (least:Int),.string bs] w fun e w'=>e=.returned (.tuple #[.int .u8 ((ay s g bs.data.toList least).1:Int),.bool (decide ((ay s g bs.data.toList least).2.bad<0))])/\dT w' b s mv (ay s g bs.data.toList least).2/\aa (·=b) w w':=by
 by_cases hm:g.at_=s.size
 ·have HX:Hid (ay s g bs.data.toList least=(0,{ g with bad:=g.at_ })):=by
   unfold Hid ay;rw[if_pos (by unfold cV;simp;omega),gO hb]
  have HN:nx s g.at_=-1:=by unfold nx;rw[if_pos hm]
  go_enter Tryz.func212,Tryz.ntmps212
  go_wp2_with fail
  refine(gI b s mv g _ hR hs ha).mono ?_
  rintro e w2 ⟨rfl,n,rfl⟩
  rw[HN]
  clear HN hm
  go_wp2
  go_ret2
  exact⟨by rw[HX.out];simp[show ¬((g.at_:Int)<0) by omega],by rw[HX.out];exact(hR.drewN n).bad _,(aa.refl _ _).drewN _⟩
 ·have bj:g.at_<s.size:=by omega
  have jt:cV s g=true:=cS.2 ⟨hb,bj⟩
  have HN:=Fp bj
  have hv:=iY s g.at_
  by_cases h92:am s g.at_=92
  ·have HX:Hid (ay s g bs.data.toList least=yq s g least):=by
    unfold Hid ay yq;rw[jt,if_neg (by simp),if_neg (by simp[h92])]
   go_enter Tryz.func212,Tryz.ntmps212
   go_wp2_with fail
   refine(gI b s mv g _ hR hs ha).mono ?_
   rintro e w2 ⟨rfl,n,rfl⟩
   rw[HN,h92]
   clear HN hm
   go_wp2_with fail
   refine(Ap b s mv g least _ (hR.drewN n) hs hb bj h92 hl).mono ?_
   rintro e w3 ⟨rfl,nh,eU⟩
   go_wp2
   go_ret2
   exact⟨by rw[HX.out];rfl,by rw[HX.out];exact nh,((aa.refl _ _).drewN _).trans eU⟩
  ·have fm:ay s g bs.data.toList least=if sX bs.data.toList (am s g.at_)=true then (0,wr g) else if am s g.at_<least then (0,wr g) else (am s g.at_,bM g):=by
    unfold ay;rw[jt,if_neg (by simp),if_pos h92]
   go_enter Tryz.func212,Tryz.ntmps212
   go_wp2_with fail
   refine(gI b s mv g _ hR hs ha).mono ?_
   rintro e w2 ⟨rfl,n,rfl⟩
   rw[HN]
   have dP:=hR.drewN n
   obtain⟨c0,c1,c2,c3,c4⟩:=dP.cells
   have hf:=dP.frozen 1
   clear HN hm
   generalize am s g.at_=c at *
   have q1:((c:Int) == -1)=false:=beq_eq_false_iff_ne.2 (by omega)
   have q2:((c:Int) == 92)=false:=beq_eq_false_iff_ne.2 (by omega)
   by_cases h3:c<least
   ·have HX:Hid (ay s g bs.data.toList least=(0,{ g with bad:=g.at_ })):=by
     unfold Hid;rw[fm,if_pos h3,ite_self,gO hb]
    clear fm
    go_wp2
    go_ret2
    exact⟨by rw[HX.out];simp[show ¬((g.at_:Int)<0) by omega],by rw[HX.out];exact dP.bad _,(aa.refl _ _).drewN _⟩
   ·rw[if_neg h3]at fm
    go_wp2_with fail
    refine(wC bs c _ Ob hv).mono ?_
    rintro e w3 ⟨i,rfl,hi,rfl⟩
    cases h4:sX bs.data.toList c
    ·rw[h4]at fm hi
     have HX:Hid (ay s g bs.data.toList least=(c,bM g)):=fm
     have UT:i<0:=by
      by_cases h:0<=i
      ·exact absurd (hi.1 h) (by simp)
      ·omega
     clear fm hi
     go_wp2
     go_ret2
     exact⟨by rw[HX.out];simp[show ((bM g).bad<0) from hb],by rw[HX.out];exact dP.setAt _,((aa.refl (·=b) w).drewN _).setCell (fun _=>rfl) _⟩
    ·rw[h4]at fm hi
     have HX:Hid (ay s g bs.data.toList least=(0,{ g with bad:=g.at_ })):=by
      unfold Hid;rw[fm,if_pos rfl,gO hb]
     have UT:0<=i:=hi.2 rfl
     clear fm hi
     go_wp2
     go_ret2
     exact⟨by rw[HX.out];simp[show ¬((g.at_:Int)<0) by omega],by rw[HX.out];exact dP.bad _,(aa.refl _ _).drewN _⟩
theorem pU {s:ByteArray}{g:Sc}(hb:g.bad<0)(ha:g.at_<=s.size){c:Nat}(hc:0<c):sy s g c=decide (pk s g=c):=by
 unfold sy nx pk
 by_cases h:g.at_=s.size
 ·rw[if_pos h,if_neg (by omega)]
  rw[Bool.eq_iff_iff];simp;omega
 ·rw[if_neg h,if_pos ⟨hb,by omega⟩]
  rw[Bool.eq_iff_iff];simp;omega
theorem Aa (b:Nat)(s:ByteArray)(mv:Mv)(g:Sc)(w:World)(hR:dT w b s mv g)(hs:s.size<=400)(ha:g.at_<=s.size)(hb:g.bad<0):
  Calls Tryz.prog 212 #[.pointer (some ⟨b,0,none⟩),.int .u8 0,.string ⟨#[10,93,45]⟩] w fun e w'=>e=.returned (.tuple #[.int .u8 ((ay s g ck 0).1:Int),.bool (decide ((ay s g ck 0).2.bad<0))])/\dT w' b s mv (ay s g ck 0).2/\aa (·=b) w w':=
 kS b s ⟨#[10,93,45]⟩ mv g 0 w hR hs ha hb (by decide) (by decide)
theorem CH (b:Nat)(s:ByteArray)(mv:Mv)(g:Sc)(least:Nat)(w:World)(hR:dT w b s mv g)(hs:s.size<=400)(ha:g.at_<=s.size)(hb:g.bad<0)(hl:least<256):
  Calls Tryz.prog 212 #[.pointer (some ⟨b,0,none⟩),.int .u8 (least:Int),.string ⟨#[10,93,45]⟩] w fun e w'=>e=.returned (.tuple #[.int .u8 ((ay s g ck least).1:Int),.bool (decide ((ay s g ck least).2.bad<0))])/\dT w' b s mv (ay s g ck least).2/\aa (·=b) w w':=
 kS b s ⟨#[10,93,45]⟩ mv g least w hR hs ha hb hl (by decide)
theorem Ab (b:Nat)(s:ByteArray)(mv:Mv)(g:Sc)(w:World)(hR:dT w b s mv g)(hs:s.size<=400)(ha:g.at_<=s.size)(hb:g.bad<0):
  Calls Tryz.prog 212 #[.pointer (some ⟨b,0,none⟩),.int .u8 0,.string ⟨#[10,39]⟩] w fun e w'=>e=.returned (.tuple #[.int .u8 ((ay s g km 0).1:Int),.bool (decide ((ay s g km 0).2.bad<0))])/\dT w' b s mv (ay s g km 0).2/\aa (·=b) w w':=
 kS b s ⟨#[10,39]⟩ mv g 0 w hR hs ha hb (by decide) (by decide)
theorem dT.setO {w:World}{b:Nat}{s:ByteArray}{mv:Mv}{g:Sc}(h:dT w b s mv g){k:Nat}(hk:b≠k)(o:Nat)(u:Value):dT (w.setCell ⟨k,o,none⟩ u) b s mv g:=by
 unfold dT at *
 rw[Below.heap_setCell _ _ _ _ hk];exact h
theorem g7 {w:World}{k t:Nat}{u v:Value}(h:w.heap[k]?=some (.cells #[u,v] t)):w.cell? ⟨k,0,none⟩=some u/\w.cell? ⟨k,1,none⟩=some v/\w.frozen? ⟨k,0,none⟩=false/\w.frozen? ⟨k,1,none⟩=false:=by
 refine⟨?_,?_,?_,?_⟩ <;> simp[World.cell?,World.frozen?,h]
theorem zf (b:Nat)(s:ByteArray)(mv:Mv)(g:Sc)(w:World)(hR:dT w b s mv g)(hs:s.size<=400)(hi:Iv s g)(hb:g.bad<0):
  Calls Tryz.prog 213 #[.pointer (some ⟨b,0,none⟩)] w fun e w'=>e=.returned (.tuple #[.agg #[.int .u8 ((fE s g).1.1:Int),.int .u8 ((fE s g).1.2:Int)],.bool (decide ((fE s g).2.bad<0))])/\dT w' b s mv (fE s g).2/\aa (·=b) w w':=by
 obtain⟨i1,i2,i3,i4,i5,i6⟩:=dQ hi ck 0
 have iB:=hR.lt
 go_enter Tryz.func213,Tryz.ntmps213
 go_wp2_with fail
 refine(Aa b s mv g _ (hR.alloc _) hs (hi.1 hb) hb).mono ?_
 rintro e w1 ⟨rfl,jM,dd⟩
 have hc:w1.heap[w.heap.size]?=some (.cells #[.int .u8 0,.int .u8 0] 321):=by
  rw[dd.block _ (by simp) (by omega)];exact heap_alloc_new _ _
 have hz:=dd.size
 have HK:Hid (aa (·=b) w w1):=((aa.refl _ _).alloc _).trans dd
 obtain⟨k0,k1,l0,l1⟩:=g7 hc
 cases hq:decide ((ay s g ck 0).2.bad<0)
 ·have HS:Hid (fE s g=(((ay s g ck 0).1,(ay s g ck 0).1),(ay s g ck 0).2)):=by
   have yN:¬(ay s g ck 0).2.bad<0:=by simpa using hq
   unfold Hid fE
   rw[if_neg]
   unfold pk
   rw[if_neg (fun h=>yN h.1)];decide
  go_wp2
  refine bodyPost_ret (v:=.tuple #[.agg #[.int .u8 ((ay s g ck 0).1:Int),.int .u8 ((ay s g ck 0).1:Int)],.bool false]) (by simp[results,Tryz.results213,go_sem,k0,k1]) rfl ⟨?_,?_,?_⟩
  ·rw[HS.out,hq]
  ·rw[HS.out]
   exact(jM.setO (by omega) _ _).setO (by omega) _ _
  ·exact(HK.out.setCell (fun h=>absurd h (Nat.lt_irrefl _)) _).setCell (fun h=>absurd h (Nat.lt_irrefl _)) _
 ·have mF:(ay s g ck 0).2.bad<0:=by simpa using hq
  have oW:=pU (s:=s) mF (i1.1 mF) (c:=45) (by decide)
  go_wp2_with fail
  refine(fX b s mv _ 45 _ jM hs (i1.1 mF) (by decide)).mono ?_
  rintro e w2 ⟨rfl,dP,dl⟩
  have gB:w2.heap[w.heap.size]?=some (.cells #[.int .u8 0,.int .u8 0] 321):=by
   rw[dl.block _ (by simp at hz;omega) (by omega)];exact hc
  have tK:=ae (HK.out.trans dl)
  obtain⟨m0,m1,n0,n1⟩:=g7 gB
  cases ht:sy s (ay s g ck 0).2 45
  ·have HS:Hid (fE s g=(((ay s g ck 0).1,(ay s g ck 0).1),(ay s g ck 0).2)):=by
    unfold Hid fE
    rw[if_neg]
    rw[ht]at oW
    simpa using oW.symm
   have C1:dT w2 b s mv (ay s g ck 0).2:=by unfold tk at dP;rw[ht]at dP;exact dP
   clear oW dP
   go_wp2
   refine bodyPost_ret (v:=.tuple #[.agg #[.int .u8 ((ay s g ck 0).1:Int),.int .u8 ((ay s g ck 0).1:Int)],.bool true]) (by simp[results,Tryz.results213,go_sem,m0,m1]) rfl ⟨?_,?_,?_⟩
   ·rw[HS.out,hq]
   ·rw[HS.out]
    exact(C1.setO (by omega) _ _).setO (by omega) _ _
   ·exact(tK.out.setCell (fun h=>absurd h (Nat.lt_irrefl _)) _).setCell (fun h=>absurd h (Nat.lt_irrefl _)) _
  ·have HS:Hid (fE s g=(((ay s g ck 0).1,(ay s (bM (ay s g ck 0).2) ck (ay s g ck 0).1).1),(ay s (bM (ay s g ck 0).2) ck (ay s g ck 0).1).2)):=by
    unfold Hid fE
    rw[if_pos]
    rw[ht]at oW
    simpa using oW.symm
   have C1:dT w2 b s mv (bM (ay s g ck 0).2):=by unfold tk at dP;rw[ht]at dP;exact dP
   have hp:=Lw (s:=s) (a:=(ay s g ck 0).2.at_) (c:=45) (by unfold sy at ht;simpa using ht) (i1.1 mF)
   have j3:=(dQ (i1.adv hp.1) ck (ay s g ck 0).1).2.2.1
   clear oW dP
   go_wp2_with fail
   refine(CH b s mv (bM (ay s g ck 0).2) (ay s g ck 0).1 _ C1 hs (by rw[bZ];omega) mF i3).mono ?_
   rintro e w3 ⟨rfl,nh,eU⟩
   have iz:=dl.size
   have hc3:w3.heap[w.heap.size]?=some (.cells #[.int .u8 0,.int .u8 0] 321):=by
    rw[eU.block _ (by simp at hz;omega) (by omega)];exact gB
   have zE:=ae (tK.out.trans eU)
   obtain⟨o0,o1,p0,p1⟩:=g7 hc3
   go_wp2
   refine bodyPost_ret (v:=.tuple #[.agg #[.int .u8 ((ay s g ck 0).1:Int),.int .u8 ((ay s (bM (ay s g ck 0).2) ck (ay s g ck 0).1).1:Int)],.bool (decide ((ay s (bM (ay s g ck 0).2) ck (ay s g ck 0).1).2.bad<0))]) (by simp[results,Tryz.results213,go_sem,o0,o1]) rfl ⟨?_,?_,?_⟩
   ·rw[HS.out]
   ·rw[HS.out]
    exact(nh.setO (by omega) _ _).setO (by omega) _ _
   ·exact(zE.out.setCell (fun h=>absurd h (Nat.lt_irrefl _)) _).setCell (fun h=>absurd h (Nat.lt_irrefl _)) _
end Go.Proofs.YtagklnaaoclmhaaGreatDoor
namespace Go.Proofs.YtagklnaaoclmhaaGreatDoor
open Go.RowKit
structure Vp (w:World)(b:Nat)(s:ByteArray)(mv:Mv)(g:Sc):Prop where
 good:g.bad<0->dT w b s mv g
 bad:0<=g.bad->∃g',dT w b s mv g'/\(g'.at_:Int)=g.bad
theorem jD (g:Sc)(hb:g.bad<0):((wr g).at_:Int)=(wr g).bad:=by rw[gO hb]
theorem yV {s:ByteArray}{g:Sc}(hb:g.bad<0)(least:Nat)(h:0<=(ey s g least).2.bad):((ey s g least).2.at_:Int)=(ey s g least).2.bad:=by
 revert h
 unfold ey
 generalize (if am s g.at_=110 then 10 else am s g.at_)=v
 split
 ·intro _;exact jD g hb
 ·split
  ·intro _;exact jD g hb
  ·split
   ·intro _;exact jD g hb
   ·intro h;exact absurd h (by simp[bM];omega)
theorem mJ {s:ByteArray}{g:Sc}(hb:g.bad<0)(l:List UInt8)(least:Nat)(h:0<=(ay s g l least).2.bad):((ay s g l least).2.at_:Int)=(ay s g l least).2.bad:=by
 revert h
 unfold ay
 split
 ·intro _;exact jD g hb
 ·split
  ·split
   ·intro _;exact jD g hb
   ·split
    ·intro _;exact jD g hb
    ·intro h;exact absurd h (by simp[bM];omega)
  ·split
   ·intro _;exact jD g hb
   ·intro h;exact yV (g:=bM g) hb least h
theorem Bb {s:ByteArray}{n:Nat}{acc:List UInt8}{g:Sc}(h:0<=g.bad):fP s n acc g=(acc,g):=by
 cases n with
 | zero=>rfl
 | succ n=>rw[fP,if_neg (by omega)]
def YQ (b:UInt8):Value:=.int .u8 (b.toNat:Int)
theorem Yx:(Tryz.prog.info? 5).map (fun i=>(i.zero,i.size,i.bytes))=some (some (.int .u8 0),1,1):=by kernel_rfl
theorem Aj {w:World}{base:Nat}{v:Value}{l:List UInt8}(h:w.ownsRow base 5 1 v l.length (l.map YQ)):
  (convert 110 9 v).run Tryz.prog w=.ok (.string (ba l)) w:=by
 rcases h.2 with⟨rfl,h0⟩ | ⟨g,cap,gz,rfl,_,hg,_,_,_,htake⟩
 ·have:l=[]:=List.length_eq_zero_iff.1 h0
  subst this
  rw[run_convert_bytes_string w 110 9 5 _ 0 0 Tryz.underlying110 Tryz.underlying5 Tryz.underlying9]
  rfl
 ·refine run_convert_bytes_back (P:=Tryz.prog) w 110 9 5 ⟨g,0,none⟩ cap l Tryz.underlying110 Tryz.underlying5 Tryz.underlying9 (fun j hj=>?_)
  exact h.cells rfl j _ (by rw[List.getElem?_map,List.getElem?_eq_getElem hj];rfl)
theorem aC {w w':World}{S:Nat->Prop}{base e size n:Nat}{v:Value}{xs:List Value}(h:w.ownsRow base e size v n xs)(k:aa S w w')(hn:∀i,v.ownBlock=some i->¬S i):w'.ownsRow base e size v n xs:=by
 refine⟨h.1,?_⟩
 rcases h.2 with hv | ⟨g,cap,gz,rfl,hb,Ko,rest⟩
 ·exact .inl hv
 ·refine .inr ⟨g,cap,gz,rfl,hb,?_,rest⟩
  rw[k.block g (Array.getElem?_eq_some_iff.1 Ko).1 (hn g rfl)]
  exact Ko
theorem Be (b:Nat)(s:ByteArray)(mv:Mv)(g:Sc)(w:World)(hR:dT w b s mv g)(hs:s.size<=400)(hi:Iv s g)(hb:g.bad<0):
  Calls Tryz.prog 206 #[.pointer (some ⟨b,0,none⟩)] w fun e w'=>(∃t,e=.returned (.tuple #[.string t,.bool (decide ((qB s g).2.bad<0))])/\((qB s g).2.bad<0->t=ba (qB s g).1))/\Vp w' b s mv (qB s g).2/\aa (·=b) w w':=by
 obtain⟨i0,iC,gH,iD,iz⟩:=info_parts Yx
 have M7:=hR.lt
 obtain⟨L,hL⟩:∃L,fP s (s.size+2) [] g=L:=⟨_,rfl⟩
 have HP:Hid (qB s g=(L.1,bM L.2)):=by unfold Hid qB;rw[hL]
 have HL:Hid (fP s (s.size+1+1) [] g=L):=hL
 clear hL
 go_enter Tryz.func206,Tryz.ntmps206
 go_wp2
 go_loopg [4] (s.size+1) (fun n v wx=>∃acc g6,rk s g6<=n/\Iv s g6/\g6.bad<0/\acc.length+rk s g6<=401/\dT wx b s mv g6/\wx.ownsRow w.heap.size 5 1 v acc.length (acc.map YQ)/\aa (·=b) w wx/\Hid (fP s (n+1) acc g6=L))
 case atStart=>exact⟨[],g,fW _ _,hi,hb,by have:=fW s g;simp;omega,hR,World.ownsRow_nil _ _ _ _,aa.refl _ _,HL.out⟩
 case round=>
  obtain⟨acc,g6,nS,sH,EO,kL,M4,kK,um,HR⟩:=hrel
  obtain⟨m,hm⟩:∃m,m=gk:=⟨gk,rfl⟩
  subst hm
  have ht:=pU (s:=s) EO (sH.1 EO) (c:=39) (by decide)
  go_wp2_with fail
  refine(fX b s mv g6 39 _ M4 hs (sH.1 EO) (by decide)).mono ?_
  rintro e w7 ⟨rfl,pz,eE⟩
  have la:=aC kK eE (fun i eM=>by have:=(kK.lt i eM).1;omega)
  have jG:=um.trans eE
  cases hq:sy s g6 39
  ·have oW:pk s g6≠39:=by rw[hq]at ht;simpa using ht.symm
   have h1:=HR.out
   rw[fP,if_pos ⟨EO,oW⟩]at h1
   have H1:=ae h1
   have Sa:dT w7 b s mv g6:=by unfold tk at pz;rw[hq]at pz;exact pz
   clear h1 HR oW ht pz
   obtain⟨i1,i2,i3,i4,i5,i6⟩:=dQ sH km 0
   have sn:=mJ (s:=s) EO km 0
   have HM:Hid (rk s (ay s g6 km 0).2<rk s g6/\rk s g6<=m/\acc.length+rk s g6<=401):=⟨kC sH EO (fun h=>(i6 h).2),nS,kL⟩
   have N7:acc.length<=401:=by omega
   clear nS kL
   go_wp2_with fail
   refine(Ab b s mv g6 _ Sa hs (sH.1 EO) EO).mono ?_
   rintro e w8 ⟨rfl,vW,lM⟩
   have sI:=aC la lM (fun i eM=>by have:=(la.lt i eM).1;omega)
   have vT:=jG.trans lM
   have Yv:=vT.size
   generalize ay s g6 km 0=I at *
   obtain⟨x,g8⟩:=I
   dsimp only at *
   cases hq8:decide (g8.bad<0)
   ·have Io:¬g8.bad<0:=by simpa using hq8
    have h2:=H1.out
    rw[Bb (by omega)]at h2
    subst h2
    have nW:Hid ((qB s g).2.bad=g8.bad):=by unfold Hid;rw[HP.out];rfl
    go_wp2
    go_ret2
    refine⟨⟨_,by rw[nW.out,hq8];rfl,fun h=>absurd h (by rw[nW.out];omega)⟩,⟨fun h=>absurd h (by rw[nW.out];omega),fun _=>⟨g8,vW,by rw[nW.out];exact sn (by omega)⟩⟩,vT⟩
   ·have Io:g8.bad<0:=by simpa using hq8
    go_wp2_with (at_builtin;refine wpList_append_lies _ rfl _ _ _ rfl w.heap.size 5 i0 _ 1 1 Tryz.underlying110 iC gH iD iz rfl (by omega) u4 acc.length (acc.map YQ) (by rfl) (sI.alloc _) ⟨w8.heap.size,0,none⟩ 1 1 [.int .u8 (x:Int)] (by rfl) rfl (World.news_of_block (cs:=#[.int .u8 (x:Int)]) (t:=5) (fr:=(0,0)) (heap_alloc_new w8 _)) (by simp[Value.oneCell']) (by omega) (by simp[maxLen];omega) (by omega) (by simp;omega) (w8.heap.size+1) (by simp) ?_;intro gg cap w9 bW hgrow dA bj)
    go_roundg (m-1)
    case measure=>have:=HM.out;omega
    case rel=>
     have:=HM.out
     have Zt:aa (·=b) w w9:=(vT.alloc _).grown hgrow (fun k hk Ow=>by have:=(sI.lt k hk).1;omega)
     refine⟨acc++[x.toUInt8],g8,by omega,i1,Io,by simp;omega,?_,?_,Zt,?_⟩
     ·have lW:aa (fun k=>u4.ownBlock=some k) w8 w9:=((aa.refl _ w8).alloc _).grown hgrow (fun k hk _=>hk)
      exact vW.kept lW (fun h=>by have:=(sI.lt b h).1;omega)
     ·have hx:YQ x.toUInt8=.int .u8 (x:Int):=by
       unfold YQ
       rw[show x.toUInt8.toNat=x by simp[Nat.toUInt8];omega]
      rw[List.length_append,List.map_append,List.map_cons,List.map_nil,hx]
      exact bW
     ·rw[show m-1+1=m by omega];exact H1.out
  ·have oW:pk s g6=39:=by rw[hq]at ht;simpa using ht.symm
   have h1:=HR.out
   rw[fP,if_neg (by simp[oW])]at h1
   subst h1
   have Sa:dT w7 b s mv (bM g6):=by unfold tk at pz;rw[hq]at pz;exact pz
   have hcv:=Aj la
   have nW:Hid (qB s g=(acc,bM g6)):=HP
   clear HR oW ht pz HL
   go_wp2
   go_ret2
   refine⟨⟨ba acc,by rw[nW.out];simp[show (bM g6).bad<0 from EO],fun h=>by rw[nW.out]⟩,by rw[nW.out];exact⟨fun _=>Sa,fun h=>absurd h (by show ¬0<=g6.bad;omega)⟩,jG⟩
end Go.Proofs.YtagklnaaoclmhaaGreatDoor
namespace Go.Proofs.YtagklnaaoclmhaaGreatDoor
open Go.RowKit
theorem DW {s:ByteArray}{g:Sc}(hi:Iv s g)(hb:g.bad<0)(h:0<=(fE s g).2.bad):((fE s g).2.at_:Int)=(fE s g).2.bad:=by
 revert h
 unfold fE
 split
 ·next h45=>
  obtain⟨p1,p2,p3⟩:=cT (s:=s) (g:=(ay s g ck 0).2) (by omega)
  intro h;exact mJ (g:=bM (ay s g ck 0).2) p1 _ _ h
 ·intro h;exact mJ hb _ _ h
theorem BF {s:ByteArray}{n:Nat}{f:Bool}{g:Sc}(h:0<=g.bad):ef s n f g=([],g):=by
 cases n with
 | zero=>rfl
 | succ n=>rw[ef,if_neg (by omega)]
theorem LZ {s:ByteArray}{n:Nat}{g:Sc}(h:pk s g=93):ef s n false g=([],g):=by
 cases n with
 | zero=>rfl
 | succ n=>rw[ef,if_neg (by simp[h])]
theorem DV {s:ByteArray}{n:Nat}{g:Sc}(hb:g.bad<0)(h:pk s g≠93):ef s (n+1) false g=ef s (n+1) true g:=by
 rw[ef,ef,if_pos ⟨hb,.inr h⟩,if_pos ⟨hb,.inl rfl⟩]
def Ho (r:Nat × Nat):List Value:=[.int .u8 (r.1:Int),.int .u8 (r.2:Int)]
theorem OR:(Tryz.prog.info? 321).map (fun i=>(i.zero,i.size,i.bytes))=some (some (.agg #[.int .u8 0,.int .u8 0]),2,2):=by kernel_rfl
theorem DI (b:Nat)(s:ByteArray)(mv:Mv)(g:Sc)(w:World)(hR:dT w b s mv g)(hs:s.size<=400)(hi:Iv s g)(hb:g.bad<0):
  Calls Tryz.prog 207 #[.pointer (some ⟨b,0,none⟩)] w fun e w'=>(∃v,e=.returned (.tuple #[v,.bool (decide ((set s g).2.bad<0))])/\((set s g).2.bad<0->w'.ownsRow w.heap.size 321 2 v (set s g).1.length ((set s g).1.flatMap Ho))/\(0<=(set s g).2.bad->v=.slice none 0 0))/\Vp w' b s mv (set s g).2/\aa (·=b) w w':=by
 obtain⟨i0,iC,gH,iD,iz⟩:=info_parts OR
 have M7:=hR.lt
 obtain⟨L,hL⟩:∃L,ef s (s.size+2) true g=L:=⟨_,rfl⟩
 have HP:Hid (set s g=(L.1,bM L.2)):=by unfold Hid set;rw[hL]
 have HL:Hid ([]++(ef s (s.size+1+1) true g).1=L.1/\(ef s (s.size+1+1) true g).2=L.2):=by
  unfold Hid;rw[hL];exact⟨rfl,rfl⟩
 clear hL
 go_enter Tryz.func207,Tryz.ntmps207
 go_wp2
 go_loopg [4] (s.size+1) (fun n v wx=>∃acc g6,rk s g6<=n/\Iv s g6/\g6.bad<0/\acc.length+rk s g6<=401/\dT wx b s mv g6/\wx.ownsRow w.heap.size 321 2 v acc.length (acc.flatMap Ho)/\aa (·=b) w wx/\Hid (acc++(ef s (n+1) true g6).1=L.1/\(ef s (n+1) true g6).2=L.2))
 case atStart=>exact⟨[],g,fW _ _,hi,hb,by have:=fW s g;simp;omega,hR,World.ownsRow_nil _ _ _ _,aa.refl _ _,HL.out⟩
 case round=>
  obtain⟨acc,g6,nS,sH,EO,kL,M4,kK,um,HR⟩:=hrel
  obtain⟨m,hm⟩:∃m,m=gk:=⟨gk,rfl⟩
  subst hm
  have h1:=HR.out
  rw[ef,if_pos ⟨EO,.inl rfl⟩]at h1
  have H1:=ae h1
  clear h1 HR
  obtain⟨i1,i2,i3,i4,i5,i6,i7⟩:=jy sH
  have sn:=DW sH EO
  have HM:Hid (rk s (fE s g6).2<rk s g6/\rk s g6<=m/\acc.length+rk s g6<=401):=⟨kC sH EO (fun h=>(i7 h).2),nS,kL⟩
  have N7:acc.length<=401:=by omega
  clear nS kL
  go_wp2_with fail
  refine(zf b s mv g6 _ M4 hs sH EO).mono ?_
  rintro e w8 ⟨rfl,vW,lM⟩
  have sI:=aC kK lM (fun i eM=>by have:=(kK.lt i eM).1;omega)
  have vT:=um.trans lM
  have Yv:=vT.size
  generalize fE s g6=I at *
  obtain⟨⟨x,y⟩,g8⟩:=I
  dsimp only at *
  cases hq8:decide (g8.bad<0)
  ·have Io:¬g8.bad<0:=by simpa using hq8
   have h2:=H1.out
   rw[BF (by omega)]at h2
   have nW:Hid ((set s g).2.bad=g8.bad):=by unfold Hid;rw[HP.out,<-h2.2];rfl
   go_wp2
   go_ret2
   refine⟨⟨.slice none 0 0,by rw[nW.out,hq8];rfl,fun h=>absurd h (by rw[nW.out];omega),fun _=>rfl⟩,⟨fun h=>absurd h (by rw[nW.out];omega),fun _=>⟨g8,vW.alloc _,by rw[nW.out];exact sn (by omega)⟩⟩,vT.alloc _⟩
  ·have Io:g8.bad<0:=by simpa using hq8
   have ht:=pU (s:=s) Io (i1.1 Io) (c:=93) (by decide)
   go_wp2_with (at_builtin;refine wpList_append_lies _ rfl _ _ _ rfl w.heap.size 321 i0 _ 2 2 Tryz.underlying200 iC gH iD iz rfl (by omega) u4 acc.length (acc.flatMap Ho) (by rfl) ((sI.alloc _).alloc _) ⟨w8.heap.size+1,0,none⟩ 1 1 [.int .u8 (x:Int),.int .u8 (y:Int)] (by rfl) rfl (World.news_of_block (cs:=#[.int .u8 (x:Int),.int .u8 (y:Int)]) (t:=321) (fr:=(0,0)) (by simpa using heap_alloc_new (w8.alloc (.cells #[.int .u8 (x:Int),.int .u8 (y:Int)] 321)) _)) (by simp[Value.oneCell']) (by omega) (by simp[maxLen];omega) (by omega) (by simp;omega) (w8.heap.size+2) (by simp) ?_;intro gg cap w9 bW hgrow dA bj)
   have Zt:aa (·=b) w w9:=((vT.alloc _).alloc _).grown hgrow (fun k hk Ow=>by have:=(sI.lt k hk).1;omega)
   have lW:aa (fun k=>u4.ownBlock=some k) w8 w9:=(((aa.refl _ w8).alloc _).alloc _).grown hgrow (fun k hk _=>hk)
   have C2:dT w9 b s mv g8:=vW.kept lW (fun h=>by have:=(sI.lt b h).1;omega)
   have hO9:w9.ownsRow w.heap.size 321 2 (.slice (some ⟨gg,0,none⟩) (acc.length+1) cap) (acc++[(x,y)]).length ((acc++[(x,y)]).flatMap Ho):=by
    rw[List.length_append,List.flatMap_append]
    simpa [Ho] using bW
   refine(fX b s mv g8 93 _ C2 hs (i1.1 Io) (by decide)).mono ?_
   rintro e vl ⟨rfl,my,jW⟩
   have JV:=aC hO9 jW (fun i eM=>by have:=(hO9.lt i eM).1;omega)
   have Qe:=Zt.trans jW
   generalize kP:Value.slice (some ⟨gg,0,none⟩) (acc.length+1) cap=v10 at *
   clear bW hgrow dA bj Zt lW C2 hO9 jW sI vT lM
   cases hq:sy s g8 93
   ·have oW:pk s g8≠93:=by rw[hq]at ht;simpa using ht.symm
    have JY:dT vl b s mv g8:=by unfold tk at my;rw[hq]at my;exact my
    clear my ht
    have qbz:0<rk s g8:=by
     have:=i1.1 Io
     unfold rk;rw[if_pos Io];omega
    have HH:Hid (0<m):=by have:=HM.out;unfold Hid;omega
    have H2:Hid ((acc++[(x,y)])++(ef s (m-1+1) true g8).1=L.1/\(ef s (m-1+1) true g8).2=L.2):=by
     have:=HH.out
     have h2:=H1.out
     rw[<-DV Io oW,show m-1+1=m by omega]
     exact⟨by rw[List.append_assoc];exact h2.1,h2.2⟩
    clear qbz
    go_wp2
    go_roundg (m-1)
    case measure=>have:=HM.out;omega
    case rel=>
     have:=HM.out
     exact⟨acc++[(x,y)],g8,by omega,i1,Io,by simp;omega,JY,JV,Qe,H2.out⟩
   ·have oW:pk s g8=93:=by rw[hq]at ht;simpa using ht.symm
    have JY:dT vl b s mv (bM g8):=by unfold tk at my;rw[hq]at my;exact my
    clear my ht
    have h2:=H1.out
    rw[LZ oW]at h2
    have nW:Hid (set s g=(acc++[(x,y)],bM g8)):=by unfold Hid;rw[HP.out,<-h2.1,<-h2.2]
    clear h2 H1 HP HL
    go_wp2
    go_ret2
    refine⟨⟨v10,by rw[nW.out];simp[show (bM g8).bad<0 from Io],fun h=>by rw[nW.out];exact JV,fun h=>absurd h (by rw[nW.out];show ¬0<=g8.bad;omega)⟩,by rw[nW.out];exact⟨fun _=>JY,fun h=>absurd h (by show ¬0<=g8.bad;omega)⟩,Qe⟩
end Go.Proofs.YtagklnaaoclmhaaGreatDoor
namespace Go.Proofs.YtagklnaaoclmhaaGreatDoor
open Go.RowKit
def Fx (k r t z:Int)(tx:ByteArray)(vR vP:Value):Array Value:=#[.int .i64 k,.int .i64 r,.int .i64 t,.int .i64 z,.string tx,vR,vP]
def T1 (k r t:Int)(tx:ByteArray)(vR vP:Value):Array Value:=Fx k r t 0 tx vR vP
theorem eA (k:Int)(p:Option Addr)(n c:Nat)(w:World):
  Calls Tryz.prog 166 #[.int .i64 k,.slice p n c] w fun e w'=>e=.returned (.pointer (some ⟨w.heap.size,0,none⟩))/\w'=w.alloc (.cells (T1 k 0 0 ⟨#[]⟩ (.slice none 0 0) (.slice p n c)) 203):=by
 go_enter Tryz.func166,Tryz.ntmps166
 go_wp2
 go_ret
 exact⟨rfl,rfl⟩
theorem r9 (t:Int)(p:Option Addr)(n c:Nat)(w:World):
  Calls Tryz.prog 208 #[.int .i64 t,.slice p n c] w fun e w'=>e=.returned (.pointer (some ⟨w.heap.size,0,none⟩))/\w'=w.alloc (.cells (T1 2 0 t ⟨#[]⟩ (.slice p n c) (.slice none 0 0)) 203):=by
 go_enter Tryz.func208,Tryz.ntmps208
 go_wp2
 go_ret
 exact⟨rfl,rfl⟩
def cu (k:Nat):Int:=if k=3 then 0 else if k<=2 then (k:Int)+1 else (k:Int)
def aO (P:List Nat)(i:Nat):Value:=.pointer (some ⟨P.getD i 0,0,none⟩)
def iG (w:World)(base:Nat)(S:Nat->Prop)(P:List Nat)(r:Int)(N:Nd)(k:Nat):Prop:=
 ∃z vR vP,w.heap[k]?=some (.cells (Fx (cu N.kind) r (N.term:Int) z (ba N.text) vR vP) 203 (0,0))/\S k/\
  w.ownsRow base 321 2 vR N.rng.length (N.rng.flatMap Ho)/\(∀j,vR.ownBlock=some j->S j)/\
  w.ownsRow base 187 1 vP N.subs.length (N.subs.map (aO P))/\(∀j,vP.ownBlock=some j->S j)
structure Ar (w:World)(base:Nat)(S:Nat->Prop)(P:List Nat)(ρ:Nat->Int)(ns:List Nd):Prop where
 len:P.length=ns.length
 sub:∀i (h:i<ns.length),∀j∈ns[i].subs,j<i
 part:∀i (h:i<ns.length),iG w base S P (ρ i) ns[i] (P.getD i 0)
 nd:P.Nodup
 low:∀x∈P,base<=x
theorem iG.lt {w:World}{base:Nat}{S:Nat->Prop}{P:List Nat}{r:Int}{N:Nd}{k:Nat}(h:iG w base S P r N k):k<w.heap.size:=by
 obtain⟨z,vR,vP,h1,_⟩:=h
 exact ag (show ai w k=_ from h1)
theorem iG.kept {w w':World}{base:Nat}{S S' T:Nat->Prop}{P:List Nat}{r:Int}{N:Nd}{k:Nat}(h:iG w base S P r N k)(hk:aa T w w')(hT:∀j,j<w.heap.size->S j->¬T j)(hS:∀j,j<w.heap.size->S j->S' j):iG w' base S' P r N k:=by
 obtain⟨z,vR,vP,h1,h2,h3,h4,h5,h6⟩:=h
 have bj:=ag (show ai w k=_ from h1)
 refine⟨z,vR,vP,?_,hS k bj h2,aC h3 hk (fun i hi=>hT i (h3.lt i hi).2 (h4 i hi)),fun j hj=>hS j (h3.lt j hj).2 (h4 j hj),aC h5 hk (fun i hi=>hT i (h5.lt i hi).2 (h6 i hi)),fun j hj=>hS j (h5.lt j hj).2 (h6 j hj)⟩
 rw[hk.block k bj (hT k bj h2)];exact h1
theorem iG.ext {w:World}{base:Nat}{S:Nat->Prop}{P:List Nat}{r:Int}{N:Nd}{k:Nat}(h:iG w base S P r N k)(hs:∀j∈N.subs,j<P.length)(l:List Nat):iG w base S (P++l) r N k:=by
 obtain⟨z,vR,vP,h1,h2,h3,h4,h5,h6⟩:=h
 refine⟨z,vR,vP,h1,h2,h3,h4,?_,h6⟩
 have:N.subs.map (aO (P++l))=N.subs.map (aO P):=by
  apply List.map_congr_left
  intro j hj
  unfold aO
  rw[bo (hs j hj)]
 rw[this];exact h5
theorem Ar.lt {w:World}{base:Nat}{S:Nat->Prop}{P:List Nat}{ρ:Nat->Int}{ns:List Nd}(h:Ar w base S P ρ ns):∀x∈P,x<w.heap.size:=by
 intro x hx
 obtain⟨i,hi,rfl⟩:=List.getElem_of_mem hx
 have:=(h.part i (by rw[<-h.len];exact hi)).lt
 simpa [List.getD,List.getElem?_eq_getElem hi] using this
theorem Ar.kept {w w':World}{base:Nat}{S S' T:Nat->Prop}{P:List Nat}{ρ:Nat->Int}{ns:List Nd}(h:Ar w base S P ρ ns)(hk:aa T w w')(hT:∀j,j<w.heap.size->S j->¬T j)(hS:∀j,j<w.heap.size->S j->S' j):Ar w' base S' P ρ ns:=
 ⟨h.len,h.sub,fun i hi=>(h.part i hi).kept hk hT hS,h.nd,h.low⟩
theorem Ar.push {w:World}{base:Nat}{S:Nat->Prop}{P:List Nat}{ρ:Nat->Int}{ns:List Nd}{N:Nd}{k:Nat}(h:Ar w base S P ρ ns)(hN:iG w base S P (ρ ns.length) N k)(hs:∀j∈N.subs,j<ns.length)(yI:k ∉ P)(ew:base<=k):Ar w base S (P++[k]) ρ (ns++[N]):=by
 refine⟨by simp[h.len],fun i hi=>?_,fun i hi=>?_,?_,fun x hx=>(List.mem_append.1 hx).elim (h.low x) (fun y=>by rw[List.mem_singleton.1 y];exact ew)⟩
 rotate_left 2
 ·rw[List.nodup_append]
  refine⟨h.nd,by simp,fun a ha b hb e=>?_⟩
  rw[List.mem_singleton.1 hb]at e
  exact yI (e ▸ ha)
 ·by_cases h1:i<ns.length
  ·rw[List.getElem_append_left h1];exact h.sub i h1
  ·have:i=ns.length:=by simp at hi;omega
   subst this
   rw[List.getElem_append_right (Nat.le_refl _)]
   simpa using hs
 ·by_cases h1:i<ns.length
  ·rw[List.getElem_append_left h1,bo (by rw[h.len];exact h1)]
   exact(h.part i h1).ext (fun j hj=>by have:=h.sub i h1 j hj;rw[h.len];omega) _
  ·have:i=ns.length:=by simp at hi;omega
   subst this
   rw[List.getElem_append_right (Nat.le_refl _),cn (by rw[h.len];exact Nat.le_refl _)]
   simp only[h.len,Nat.sub_self,List.getElem_cons_zero,List.getD_cons_zero]
   exact hN.ext (fun j hj=>by rw[h.len];exact hs j hj) _
structure Mn where
 name:List UInt8
 at_:Nat
 part:Option Nat
def Cq (P:List Nat)(m:Mn):List Value:=[.string (ba m.name),.int .i64 (m.at_:Int),.pointer (m.part.map fun i=>⟨P.getD i 0,0,none⟩)]
def l6:Nat->List Nd->List Mn
 | _,[]=>[]
 | o,N :: l=>(if N.kind=3 then [⟨N.name,N.at_,some o⟩] else [])++l6 (o+1) l
theorem nu:∀(l m:List Nd) (o:Nat),l6 o (l++m)=l6 o l++l6 (o+l.length) m
 | [],m,o=>by simp[l6]
 | N :: l,m,o=>by
  rw[List.cons_append,l6,l6,nu l m (o+1),List.append_assoc,List.length_cons,show o+1+l.length=o+(l.length+1) by omega]
theorem Fe:∀(l:List Nd) (o:Nat),(l6 o l).length<=l.length
 | [],o=>by simp[l6]
 | N :: l,o=>by
  have:=Fe l (o+1)
  rw[l6,List.length_append,List.length_cons]
  split <;> simp <;> omega
structure Bk (w:World)(P L:List Nat)(ns:List Nd):Prop where
 num:∀k (h:k<L.length),L[k]∈P/\w.cell? ⟨L[k],3,none⟩=some (.int .i64 (k:Int))
 sub:∀i (h:i<ns.length),∀j∈ns[i].subs,(ns.getD j cj).kind=4->P.getD j 0∈L
theorem Bk.kept {w w':World}{base:Nat}{S T:Nat->Prop}{P L:List Nat}{ρ:Nat->Int}{ns:List Nd}(h:Bk w P L ns)(ar:Ar w base S P ρ ns)(hk:aa T w w')(hT:∀j,j<w.heap.size->S j->¬T j):Bk w' P L ns:=by
 refine⟨fun k fU=>⟨(h.num k fU).1,?_⟩,h.sub⟩
 rw[<-(h.num k fU).2]
 have hm:=(h.num k fU).1
 generalize L[k]=x at hm ⊢
 obtain⟨i,hi,rfl⟩:=List.getElem_of_mem hm
 have hp:=ar.part i (by rw[<-ar.len];exact hi)
 have he:P.getD i 0=P[i]:=by simp[List.getD,List.getElem?_eq_getElem hi]
 rw[he]at hp
 obtain⟨z,vR,vP,h1,h2,_⟩:=hp
 have bj:=ag (show ai w P[i]=_ from h1)
 have:=hk.block P[i] bj (hT _ bj h2)
 simp only[World.cell?,this]
theorem Bk.push {w:World}{P L:List Nat}{ns:List Nd}(h:Bk w P L ns)(hl:P.length=ns.length)(ZK:∀i (h:i<ns.length),∀j∈ns[i].subs,j<i)(k:Nat)(N:Nd)(hs:∀j∈N.subs,j<ns.length/\((ns.getD j cj).kind=4->P.getD j 0∈L)):Bk w (P++[k]) L (ns++[N]):=by
 refine⟨fun q hq=>⟨List.mem_append_left _ (h.num q hq).1,(h.num q hq).2⟩,fun i hi j hj hk=>?_⟩
 by_cases h1:i<ns.length
 ·rw[List.getElem_append_left h1]at hj
  have h2:=ZK i h1 j hj
  rw[bo (by omega)]at hk
  rw[bo (by omega)]
  exact h.sub i h1 j hj hk
 ·have h2:i=ns.length:=by simp at hi;omega
  subst h2
  rw[List.getElem_append_right (Nat.le_refl _)]at hj
  simp only[Nat.sub_self,List.getElem_cons_zero]at hj
  have h3:=hs j hj
  rw[bo h3.1]at hk
  rw[bo (by omega)]
  exact h3.2 hk
theorem Bk.le {w:World}{base:Nat}{S:Nat->Prop}{P L:List Nat}{ρ:Nat->Int}{ns:List Nd}(h:Bk w P L ns)(ar:Ar w base S P ρ ns):∀x∈L,x<w.heap.size:=by
 intro x hx
 obtain⟨i,hi,rfl⟩:=List.getElem_of_mem hx
 exact ar.lt _ (h.num i hi).1
theorem Bk.nodup {w:World}{P L:List Nat}{ns:List Nd}(h:Bk w P L ns):L.Nodup:=by
 unfold List.Nodup
 rw[List.pairwise_iff_getElem]
 intro i j hi hj Oj e
 have h1:=(h.num i hi).2
 have h2:=(h.num j hj).2
 rw[e,h2]at h1
 simp at h1
 omega
theorem FQ:∀(L P:List Nat),L.Nodup->(∀x∈L,x∈P)->L.length<=P.length
 | [],P,_,_=>Nat.zero_le _
 | a :: L,P,h1,h2=>by
  obtain⟨h3,h4⟩:=List.nodup_cons.1 h1
  have hm:=h2 a (by simp)
  have:=FQ L (P.erase a) h4 (fun x hx=>by
   have eW:x≠a:=fun e=>h3 (e ▸ hx)
   exact(List.mem_erase_of_ne eW).2 (h2 x (by simp[hx])))
  rw[List.length_erase_of_mem hm]at this
  have:=List.length_pos_of_mem hm
  simp;omega
theorem Bk.len {w:World}{P L:List Nat}{ns:List Nd}(h:Bk w P L ns):L.length<=P.length:=
 FQ L P h.nodup (fun x hx=>by
  obtain⟨i,hi,rfl⟩:=List.getElem_of_mem hx
  exact(h.num i hi).1)
structure CR (w:World)(base b:Nat)(s:ByteArray)(mv:Mv)(T:Nat->Prop)(P:List Nat)(ms:List Mn)(A:St):Prop where
 ris:dT w b s mv A.sc
 own:w.ownsRow base 198 3 mv.v ms.length (ms.flatMap (Cq P))
 nb:mv.v.ownBlock≠some b
 ar:Ar w base (fun k=>k≠b/\mv.v.ownBlock≠some k/\¬T k) P (fun _=>0) A.ns
 told:∀k,T k->k<w.heap.size
 mlt:∀m∈ms,∀i,m.part=some i->i<P.length
 bb:base<=b
 t40:A.sc.t<=40
 mlen:ms.length<=A.ns.length+8
 bk:Bk w P mv.L A.ns
structure Cs (b:Nat)(mv mv':Mv)(w w':World):Prop where
 kept:aa (fun k=>k=b\/mv.v.ownBlock=some k) w w'
 own:∀k,mv'.v.ownBlock=some k->mv.v.ownBlock=some k\/w.heap.size<=k
 pre:∃t,mv'.L=mv.L++t
theorem Cs.refl (b:Nat)(mv:Mv)(w:World):Cs b mv mv w w:=⟨aa.refl _ _,fun _ h=>.inl h,[],by simp⟩
theorem Cs.only {b:Nat}{mv:Mv}{w w':World}(h:aa (·=b) w w'):Cs b mv mv w w':=⟨h.mono (fun _ _ h=>.inl h),fun _ h=>.inl h,[],by simp⟩
theorem Cs.trans {b:Nat}{mv Fk ss:Mv}{w w1 w2:World}(h:Cs b mv Fk w w1)(k:Cs b Fk ss w1 w2):Cs b mv ss w w2:=by
 refine⟨⟨k.kept.os.trans h.kept.os,k.kept.tape.trans h.kept.tape,k.kept.output.trans h.kept.output,Nat.le_trans h.kept.size k.kept.size,fun i hi hn=>?_⟩,fun j hj=>?_,?_⟩
 ·rw[k.kept.block i (Nat.lt_of_lt_of_le hi h.kept.size) (fun hx=>?_),h.kept.block i hi hn]
  rcases hx with hx | hx
  ·exact hn (.inl hx)
  ·rcases h.own i hx with hy | hy
   ·exact hn (.inr hy)
   ·omega
 ·rcases k.own j hj with hx | hx
  ·exact h.own j hx
  ·exact .inr (Nat.le_trans h.kept.size hx)
 ·obtain⟨t,ht⟩:=h.pre
  obtain⟨u,hu⟩:=k.pre
  exact⟨t++u,by rw[hu,ht,List.append_assoc]⟩
def tI (w w':World)(b:Nat)(s:ByteArray)(mv:Mv)(x:Int):Prop:=∃mv' g',dT w' b s mv' g'/\(g'.at_:Int)=x/\Cs b mv mv' w w'
theorem kQ (s:ByteArray)(a c:Nat)(hc:c<=s.size):s.extract a c=ba ((s.data.toList.drop a).take (c-a)):=by
 apply ByteArray.ext
 simp only[ba,ByteArray.data_extract]
 apply Array.toList_inj.1
 simp[Array.toList_extract,List.extract_eq_take_drop]
theorem He {s:ByteArray}{g:Sc}(hb:g.bad<0)(ha:g.at_<=s.size):bL (nx s g.at_)=bL (pk s g:Int):=by
 unfold nx pk
 by_cases h:g.at_=s.size
 ·rw[if_pos h,if_neg (by omega)];decide
 ·rw[if_neg h,if_pos ⟨hb,by omega⟩]
theorem Tv:(Tryz.prog.info? 198).map (fun i=>(i.zero,i.size,i.bytes))=some (some (.agg #[.string ⟨#[]⟩,.int .i64 0,.pointer none]),3,32):=by kernel_rfl
theorem Hx {s:ByteArray}{a k:Nat}(h:a+k<s.size):(s.data.toList.drop a).take (k+1)=(s.data.toList.drop a).take k++[(am s (a+k)).toUInt8]:=by
 have h1:k<(s.data.toList.drop a).length:=by simp;exact Nat.lt_sub_of_add_lt (by rw[Nat.add_comm];exact h)
 rw[List.take_succ_eq_append_getElem h1]
 congr 2
 rw[List.getElem_drop]
 unfold am
 have h2:a+k<s.data.toList.length:=by simpa using h
 simp only[List.getD,List.getElem?_eq_getElem h2,Option.getD_some]
 simp
structure NF (base b:Nat)(s:ByteArray)(mv:Mv)(n0:Nat)(xs:List Value)(g:Sc)(q:Option Addr)(w:World)(L:List UInt8 × Sc)(e:Ending)(w':World):Prop where
 res:∃t,e=.returned (.tuple #[.string t,.bool (decide (L.2.bad<0))])/\(L.2.bad<0->t=ba L.1)
 ok:L.2.bad<0->∃mv':Mv,dT w' b s mv' L.2/\w'.ownsRow base 198 3 mv'.v (n0+1) (xs++[.string (ba L.1),.int .i64 (g.at_:Int),.pointer q])/\mv'.v.ownBlock≠some b/\Cs b mv mv' w w'/\mv'.L=mv.L
 no:0<=L.2.bad->tI w w' b s mv L.2.bad
theorem Bn (base b:Nat)(s:ByteArray)(mv:Mv)(n0:Nat)(xs:List Value)(g:Sc)(q:Option Addr)(w:World)(hR:dT w b s mv g)(hO:w.ownsRow base 198 3 mv.v n0 xs)(oe:mv.v.ownBlock≠some b)(kM:base<=b)(hs:s.size<=400)(hi:Iv s g)(hb:g.bad<0)(hn0:n0<=5000):
  Calls Tryz.prog 139 #[.pointer (some ⟨b,0,none⟩),.pointer q] w fun e w'=>NF base b s mv n0 xs g q w (wd s 10 [] g) e w':=by
 obtain⟨i0,iC,gH,iD,iz⟩:=info_parts Tv
 obtain⟨L,hL⟩:∃L,wd s 10 [] g=L:=⟨_,rfl⟩
 have HL:Hid (wd s (8+2) ((s.data.toList.drop g.at_).take 0) { g with at_:=g.at_ }=L):=hL
 rw[hL]
 clear hL
 have Is:=hi.1 hb
 obtain⟨c0,c1,c2,c3,c4⟩:=hR.cells
 go_enter Tryz.func139,Tryz.ntmps139
 go_wp2
 clear c0 c1 c2 c3 c4
 go_loopg [] 8 (fun n wx=>∃k a6,Hid (k+n=8)/\Hid (a6=g.at_+k)/\a6<=s.size/\dT wx b s mv { g with at_:=a6 }/\aa (·=b) w wx/\Hid (wd s (n+2) ((s.data.toList.drop g.at_).take k) { g with at_:=a6 }=L))
 case atStart=>exact⟨0,g.at_,rfl,rfl,Is,hR,aa.refl _ _,HL.out⟩
 case round=>
  obtain⟨k,a6,hk,M6,hka,M4,um,HR⟩:=hrel
  obtain⟨m,hm⟩:∃m,m=gk:=⟨gk,rfl⟩
  subst hm
  have nj:((s.data.toList.drop g.at_).take k).length=k:=by
   rw[List.length_take,List.length_drop]
   have:s.data.toList.length=s.size:=Array.length_toList
   have:=M6.out
   omega
  have Iy:=He (s:=s) (g:={ g with at_:=a6 }) hb hka
  have KK:bL (pk s { g with at_:=a6 }:Int)=true->a6<s.size/\pk s { g with at_:=a6 }=am s a6:=by
   intro h
   obtain⟨p1,p2,p3⟩:=cT (s:=s) (g:={ g with at_:=a6 }) (jO h)
   exact⟨p2,p3⟩
  have h1:=HR.out
  rw[wd,nj]at h1
  go_wp2_with fail
  refine(gI b s mv _ _ M4 hs hka).mono ?_
  rintro e w7 ⟨rfl,n7,rfl⟩
  go_wp2_with fail
  refine(pL _ _).mono ?_
  rintro e w8 ⟨rfl,rfl⟩
  have pz:=M4.drewN n7
  have eE:=um.drewN n7
  obtain⟨c0,c1,c2,c3,c4⟩:=pz.cells
  obtain⟨d0,d1,d2,d3,d4⟩:=M4.cells
  have hf:=pz.frozen 1
  have UQ:=pz.frozen 5
  dsimp only at *
  rw[Iy]
  clear Iy HR HL
  generalize nx s a6=xx at *
  cases AI:bL (pk s { g with at_:=a6 }:Int)
  ·rw[AI]at h1
   simp only[Bool.false_eq_true,if_false]at h1
   by_cases Cj:k=0
   ·have Ik:L=([],{ g with at_:=a6,bad:=(a6:Int) }):=by
     rw[<-h1,Cj];simp[gO (g:={ g with at_:=a6 }) hb]
    subst Ik
    have q1:((a6:Int) == (g.at_:Int))=true:=beq_iff_eq.2 (by have:=M6.out;omega)
    clear h1 KK
    go_wp2
    go_ret2
    exact⟨⟨⟨#[]⟩,by simp[show ¬((a6:Int)<0) by omega],fun h=>absurd h (by simp)⟩,fun h=>absurd h (by simp),fun _=>⟨mv,_,pz,rfl,Cs.only eE⟩⟩
   ·obtain⟨acc,Sd⟩:∃acc,acc=(s.data.toList.drop g.at_).take k:=⟨_,rfl⟩
    rw[<-Sd]at h1 nj
    have Ik:L=(acc,{ g with at_:=a6 }):=by
     rw[<-h1,if_neg]
     intro h;rw[h]at nj;simp at nj;omega
    subst Ik
    have q1:((a6:Int) == (g.at_:Int))=false:=beq_eq_false_iff_ne.2 (by have:=M6.out;omega)
    have qz:=kQ s g.at_ a6 hka
    rw[show a6-g.at_=k by have:=M6.out;omega]at qz
    rw[<-Sd]at qz
    clear h1 KK Sd
    have SF:g.at_<=a6:=by have:=M6.out;omega
    go_wp2
    have kK:=aC hO um (fun i eM h=>oe (by rw[eM,h]))
    have M7:=hR.lt
    have ZU:=um.size
    go_quiet (fail)
    go_wp2_with (at_builtin;refine wpList_append_lies _ rfl _ _ _ rfl base 198 i0 _ 3 32 Tryz.underlying136 iC gH iD iz rfl (by omega) mv.v n0 xs (by rfl) ((show (wr.drewN (n7+nq)).ownsRow base 198 3 mv.v n0 xs from kK).alloc _) ⟨wr.heap.size,0,none⟩ 1 1 [.string (ba acc),.int .i64 (g.at_:Int),.pointer q] (by rfl) rfl (World.news_of_block (cs:=#[.string (ba acc),.int .i64 (g.at_:Int),.pointer q]) (t:=198) (fr:=(0,0)) (heap_alloc_new (wr.drewN (n7+nq)) _)) (by simp[Value.oneCell']) (by omega) (by simp[maxLen];omega) (by omega) (by simp;omega) (wr.heap.size+1) (by simp) ?_;intro gg cap w9 bW hgrow dA bj;have tl:aa (fun k=>mv.v.ownBlock=some k) (wr.drewN (n7+nq)) w9:=((aa.refl _ _).alloc _).grown hgrow (fun k hk _=>hk);have C2:dT w9 b s mv { g with at_:=a6 }:=(M4.drewN (n7+nq)).kept tl oe;obtain⟨f0,f1,f2,f3,f4⟩:=C2.cells;have UR:=C2.frozen 5)
    have eW:some b≠some gg:=by
     rcases dA with h | h
     ·rw[<-h];exact fun h'=>oe h'.symm
     ·intro h';have:=Option.some.inj h';omega
    go_ret2
    refine⟨⟨ba acc,by simp[hb],fun _=>rfl⟩,fun _=>⟨⟨.slice (some ⟨gg,0,none⟩) (n0+1) cap,mv.L⟩,C2.setM _,?_,fun h=>eW h.symm,?_,rfl⟩,fun h=>absurd (show 0<=g.bad from h) (by omega)⟩
    ·exact aC bW (((aa.refl (·=b) w9).setCell (p:=⟨b,5,none⟩) (fun _=>rfl) _)) (fun i eM h=>eW (by rw[<-h];exact eM.symm))
    ·refine⟨((((um.drewN (n7+nq)).mono (fun _ _ h=>Or.inl h)).alloc _).grown hgrow (fun k hk _=>Or.inr hk)).setCell (p:=⟨b,5,none⟩) (fun _=>Or.inl rfl) _,fun i eM=>?_,[],by simp⟩
     have:gg=i:=Option.some.inj eM
     subst this
     rcases dA with h | h
     ·exact .inl h
     ·right;omega
  ·rw[AI]at h1
   simp only[if_true]at h1
   obtain⟨GF,lO⟩:=KK AI
   by_cases lW:k=8
   ·rw[if_pos lW]at h1
    have Ik:L=((s.data.toList.drop g.at_).take k,{ g with at_:=a6,bad:=(a6:Int) }):=by
     rw[<-h1,gO (g:={ g with at_:=a6 }) hb]
    subst Ik
    have q1:(((a6:Int)-(g.at_:Int)) == 8)=true:=beq_iff_eq.2 (by have:=M6.out;omega)
    clear h1 KK
    go_wp2
    go_ret2
    exact⟨⟨⟨#[]⟩,by simp[show ¬((a6:Int)<0) by omega],fun h=>absurd h (by simp)⟩,fun h=>absurd h (by simp),fun _=>⟨mv,_,pz,rfl,Cs.only eE⟩⟩
   ·rw[if_neg lW,lO]at h1
    have H1:=ae h1
    have q1:(((a6:Int)-(g.at_:Int)) == 8)=false:=beq_eq_false_iff_ne.2 (by have:=M6.out;omega)
    have qA:=Hx (s:=s) (a:=g.at_) (k:=k) (by have:=M6.out;omega)
    rw[<-M6.out]at qA
    have HT:=ae qA
    have HK:=hk
    clear h1 KK qA
    go_wp2
    go_roundg (m-1)
    case measure=>have:=HK.out;omega
    case rel=>
     have:=HK.out
     have:=M6.out
     refine⟨k+1,a6+1,by unfold Hid;omega,by unfold Hid;omega,by omega,pz.setAt _,eE.setCell (fun _=>rfl) _,?_⟩
     rw[HT.out,show m-1+2=m+1 by omega]
     exact H1.out
end Go.Proofs.YtagklnaaoclmhaaGreatDoor
