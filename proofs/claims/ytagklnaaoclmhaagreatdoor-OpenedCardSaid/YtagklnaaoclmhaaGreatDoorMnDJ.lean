import Derived.Test.YtagklnaaoclmhaaGreatDoorMnDH
import Derived.Test.YtagklnaaoclmhaaGreatDoorMnDI
import Derived.Test.YtagklnaaoclmhaaGreatDoorMnBG
set_option linter.unusedSimpArgs false
set_option linter.unusedVariables false
set_option maxRecDepth 100000
set_option maxHeartbeats 16000000
namespace Go.Proofs.YtagklnaaoclmhaaGreatDoor
open Go.RowKit
theorem LM {m n pol bud:Nat}(h:(oy m n&&decide (0<pol)&&decide (0<bud))=false):∀r,r<n->(jI pol bud m n).mask / 2^r%2=0:=fun r hr=>by
 unfold jI
 split
 ·simp
 ·next h0=>
  have h1:0<pol:=by omega
  have h2:0<bud:=by omega
  rw[decide_eq_true h1,decide_eq_true h2,Bool.and_true,Bool.and_true]at h
  unfold oy at h
  rw[List.any_eq_false]at h
  have h3:=h r (List.mem_range.2 hr)
  show m / 2^r%2=0
  simpa using h3
theorem YS {G s:ByteArray}{c:Cf}{br:Nat->Nat}(hr:0<(aq G).2.length)(h:(o6 c.mask (aq G).2.length&&decide (c.pol=2)&&decide ((aq G).2.length*(s.size+1)<=c.bud))=true):Wh (OW G s c br):=by
 simp only[Bool.and_eq_true,decide_eq_true_eq]at h
 obtain⟨⟨h1,h2⟩,h3⟩:=h
 have hb:¬(c.bud=0\/c.pol=0):=by
  have:0<(aq G).2.length*(s.size+1):=Nat.mul_pos hr (Nat.succ_pos _)
  omega
 have he:jI c.pol c.bud c.mask (aq G).2.length=⟨c.pol,c.bud,c.mask,(aq G).2.length⟩:=by unfold jI;rw[if_neg hb]
 refine⟨?_,fun r hr=>?_,?_⟩
 ·show (jI c.pol c.bud c.mask (aq G).2.length).pol=2
  rw[he];exact h2
 ·show (jI c.pol c.bud c.mask (aq G).2.length).mask / 2^r%2≠0
  rw[he]
  unfold o6 at h1
  rw[List.all_eq_true]at h1
  have:=h1 r (List.mem_range.2 hr)
  simpa using this
 ·show (aq G).2.length*(s.size+1)<=(jI c.pol c.bud c.mask (aq G).2.length).bud
  rw[he];exact h3
theorem vJ.same {w w':World}{xb:Nat}{G:ByteArray}{c:Cf}{ln rn:Int}{a b d e nb:Nat}(h:vJ w xb G c ln rn a b d e nb)(K:aa (fun _=>False) w w'):vJ w' xb G c ln rn a b d e nb:=by
 obtain⟨pb,gb,base,hX,hP,hn,b0,nv,rv,U,hD⟩:=h.ex
 exact⟨pb,gb,base,K.blk hX (fun x=>x),hP.same K,hn,b0,nv,rv,U,hD.kept3 K (fun _ _ _ x=>x.elim)⟩
theorem uH {G s:ByteArray}{c:Cf}{xb nb:Nat}{w w':World}{e:Ending}(h:LpO G s c xb nb w e w'){w1:World}(K:aa (fun _=>False) w' w1):
  Calls Tryz.prog 12 #[.pointer (some ⟨xb,0,none⟩)] w1 fun e w2=>e=.returned (.bool true)/\aa (fun _=>False) w1 w2:=by
 rcases h.st with⟨rn,hp⟩ | ⟨hs,f,o,hm,hr,br,n,t,s',r,hW,⟨Br,hK⟩,Ip,hp⟩
 ·exact ol (hp.same K)
 ·obtain⟨pb,gb,base,hX,hP,_⟩:=hp.ex
  have hG:=hP.chk
  have kf:=hP.cf
  have mE:=kE hG
  have Xa:=hW.cnt hr
  have Xe:=hW.dn
  have EW:=kf.runs.2
  have sP:=kf.bud
  refine A9 (hp.same K) hs (by omega) (by omega) (by omega) (fun h0=>?_) (fun h0=>⟨fun h1=>?_,Ip,Id hW,by omega,?_⟩)
  ·obtain⟨e1,e2,e3⟩:=D3 hK mE (LM h0) hW
   exact⟨e1,e2,by omega⟩
  ·exact MH hK (YS mE h1) mE hm hW hr
  ·have:=hW.hit
   omega
theorem DD (G s:ByteArray)(hG:G.size<=maxLen)(hs:s.size<=maxLen)(p b m r:Int)(w:World)(hT:zS w):
  Calls Tryz.prog 3 #[.string G,.agg #[.int .i64 p,.int .i64 b,.int .i64 m,.int .i64 r],.string s] w fun e w'=>e=.returned (.bool true)/\aa (fun _=>False) w w':=by
 obtain⟨w1,dZ⟩:∃w1,w1=w.alloc (.cells #[.int .i64 p,.int .i64 b,.int .i64 m,.int .i64 r] 23):=⟨_,rfl⟩
 have K1:aa (fun _=>False) w w1:=by rw[dZ];exact(aa.refl _ w).alloc _
 have dE:w1.heap[w.heap.size]?=some (.cells #[.int .i64 p,.int .i64 b,.int .i64 m,.int .i64 r] 23 (0,0)):=by rw[dZ];exact heap_alloc_new _ _
 obtain⟨c0,c1,c2,c3⟩:=di dE
 have ri:=av c0
 have jE:=ae K1
 have HT:=ae (hT.kept K1 (fun x=>x))
 have HO:=ae (A8 G hG p b m r w1)
 have oi:Hid (1<=w1.heap.size):=by
  have h0:=av (hT 0 (by decide))
  have:=K1.size
  unfold Hid;omega
 clear dE K1 hT
 go_enter Tryz.func3,Tryz.ntmps3
 go_upto_region 1 with fail
 rw[<-dZ]
 clear dZ
 go_wp2_with fail
 refine HO.out.mono ?_
 intro e w2 hO
 by_cases iJ:(dj G).1=0/\tF p b m r
 ·obtain⟨xb,rfl,QG,hP⟩:=hO.ok iJ.1 iJ.2
  have K2:=hO.kept
  have tK:=ae K2
  have HP:=ae hP
  have sA:=ae (HT.out.kept K2 (fun x=>x))
  have HXB:=ae QG
  have h12:=ol hP
  have H12:=ae h12
  clear hO K2 hP QG h12 c0 c1 c2 c3 ri
  go_wp2_with fail
  refine H12.out.mono ?_
  rintro e w3 ⟨rfl,K3⟩
  have JX:=HP.out.same K3
  have VL:=ae (sA.out.kept K3 (fun x=>x))
  have qck:=tK.out.size
  have Ro:=K3.size
  have AT:=yY (s:=s) JX HXB.out (by omega) VL.out hs
  have FZ:=ae AT
  have zE:=ae K3
  clear K3 JX AT
  go_wp2_with fail
  refine FZ.out.mono ?_
  intro e w4 hL
  obtain⟨B,T,F,tp,fp,tn,tc,fn,fc,rfl⟩:=hL.res
  obtain⟨w5,jX⟩:∃w5,w5=w4.alloc (.cells #[.bool B,.int .i64 T,.slice tp tn tc,.int .i64 F,.slice fp fn fc] 31):=⟨_,rfl⟩
  have K5:aa (fun _=>False) w4 w5:=by rw[jX];exact(aa.refl _ w4).alloc _
  have sz:=ae (uH hL K5)
  have B6:Hid (aa (fun _=>False) w w4):=(jE.out.trans (tK.out.trans zE.out)).then hL.kept (fun i hi x=>by
   have x':w1.heap.size<=i:=x
   have:=jE.out.size
   omega)
  have Uo:=ae K5
  clear hL K5
  go_upto_region 6 with fail
  rw[<-jX]
  clear jX
  go_wp2_with fail
  refine sz.out.mono ?_
  rintro e w6 ⟨rfl,K6⟩
  have HK6:=ae K6
  clear K6
  go_wp2
  go_ret
  exact⟨rfl,(B6.out.trans Uo.out).trans HK6.out⟩
 ·have he:=hO.no iJ
  subst he
  have tK:=ae hO.kept
  clear hO
  go_wp2
  go_ret
  exact⟨rfl,jE.out.trans tK.out⟩
end Go.Proofs.YtagklnaaoclmhaaGreatDoor
