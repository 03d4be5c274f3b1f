import Derived.Test.YtagklnaaoclmhaaGreatDoorMnDG
set_option linter.unusedSimpArgs false
set_option linter.unusedVariables false
set_option maxRecDepth 100000
set_option maxHeartbeats 16000000
namespace Go.Proofs.YtagklnaaoclmhaaGreatDoor
open Go.RowKit
theorem ol {w:World}{xb:Nat}{G:ByteArray}{c:Cf}{rn:Int}{nb:Nat}(h:vJ w xb G c (-1) rn 0 0 0 0 nb):
  Calls Tryz.prog 12 #[.pointer (some ⟨xb,0,none⟩)] w fun e w'=>e=.returned (.bool true)/\aa (fun _=>False) w w':=by
 obtain⟨pb,gb,base,hX,hP,_,b0,nv,rv,U,hD⟩:=h.ex
 obtain⟨x0,x1,x2,x3,x4,x5,x6,x7⟩:=fg hX
 have oL:=av x0
 have jb:=BM hP
 have sz:=ae jb
 have HX:=ae hX
 clear jb hP hD h hX
 go_enter Tryz.func12,Tryz.ntmps12
 go_wp2_with fail
 refine sz.out.mono ?_
 rintro e w1 ⟨rfl,K1⟩
 obtain⟨y0,y1,y2,y3,y4,y5,y6,y7⟩:=fg (K1.blk HX.out (fun x=>x))
 have IA:=av y0
 have jE:=ae K1
 clear K1 x0 x1 x2 x3 x4 x5 x6 x7
 go_wp2
 go_ret
 exact⟨rfl,jE.out.alloc _⟩
theorem A9 {w:World}{xb:Nat}{G:ByteArray}{c:Cf}{ln rn L hh dn nb:Nat}(h:vJ w xb G c (ln:Int) (rn:Int) L L hh dn nb)(Ov:ln<=60)(wn:rn<=20000)(hLb:L<=1000)(ZB:dn<=20000)
  (Hn:(oy c.mask (aq G).2.length&&decide (0<c.pol)&&decide (0<c.bud))=false->L=0/\hh=0/\dn=rn)
  (Hr:(oy c.mask (aq G).2.length&&decide (0<c.pol)&&decide (0<c.bud))=true->((o6 c.mask (aq G).2.length&&decide (c.pol=2)&&decide ((aq G).2.length*(ln+1)<=c.bud))=true->dn<=(aq G).2.length*(ln+1))/\L<=c.bud/\1<=dn/\dn<=rn/\(dn<rn ↔ 0<hh)):
  Calls Tryz.prog 12 #[.pointer (some ⟨xb,0,none⟩)] w fun e w'=>e=.returned (.bool true)/\aa (fun _=>False) w w':=by
 obtain⟨pb,gb,base,hX,hP,_,b0,nv,rv,U,hD⟩:=h.ex
 obtain⟨x0,x1,x2,x3,x4,x5,x6,x7⟩:=fg hX
 have oL:=av x0
 have jb:=BM hP
 have h8:=(rH G).len
 have kf:=hP.cf
 obtain⟨rp,rc,dU⟩:=an hD.ru
 obtain⟨g0,g1,gx⟩:=hD.rg.gis.cells
 rw[dU]at g1
 have lV:=av g1
 obtain⟨nr,OE⟩:∃nr,nr=(aq G).2.length:=⟨_,rfl⟩
 rw[<-OE]at g1 h8 Hn Hr
 have Qp:c.mask<256:=by have:=kf.mask;omega
 have iw:=kf.pol
 have sP:=kf.bud
 have EW:=kf.runs
 have X6:∀X,aa (fun _=>False) w X->Calls Tryz.prog 31 #[.pointer (some ⟨gb,0,none⟩),.agg #[.int .i64 (c.pol:Int),.int .i64 (c.bud:Int),.int .i64 (c.mask:Int),.int .i64 (c.runs:Int)]] X fun e w'=>e=.returned (.bool (oy c.mask nr&&decide (0<c.pol)&&decide (0<c.bud)))/\aa (fun _=>False) X w':=fun X J3=>wI gb nr rc c.pol c.bud c.mask c.runs rp X h8 Qp ((J3.cell (p:=⟨gb,1,none⟩) lV (fun x=>x)).trans g1)
 have Yk:∀X,aa (fun _=>False) w X->Calls Tryz.prog 32 #[.pointer (some ⟨gb,0,none⟩),.agg #[.int .i64 (c.pol:Int),.int .i64 (c.bud:Int),.int .i64 (c.mask:Int),.int .i64 (c.runs:Int)],.int .i64 (ln:Int)] X fun e w'=>e=.returned (.bool (o6 c.mask nr&&decide (c.pol=2)&&decide (nr*(ln+1)<=c.bud)))/\aa (fun _=>False) X w':=fun X J3=>Ib gb nr rc c.pol c.bud c.mask c.runs ln rp X h8 Qp Ov ((J3.cell (p:=⟨gb,1,none⟩) lV (fun x=>x)).trans g1)
 have Xm:∀X:World,aa (fun _=>False) w X->X.cell? ⟨gb,1,none⟩=some (.slice rp nr rc):=fun X J3=>(J3.cell (p:=⟨gb,1,none⟩) lV (fun x=>x)).trans g1
 have Yr:∀X:World,aa (fun _=>False) w X->ji X xb pb gb c (ln:Int) (rn:Int):=fun X J3=>J3.blk hX (fun x=>x)
 generalize (oy c.mask nr&&decide (0<c.pol)&&decide (0<c.bud))=rem at *
 generalize (o6 c.mask nr&&decide (c.pol=2)&&decide (nr*(ln+1)<=c.bud))=who at *
 obtain⟨q,hq⟩:∃q,q=nr*(ln+1):=⟨_,rfl⟩
 rw[<-hq]at Hr
 have ZH:q<=5000:=by rw[hq];exact Nat.le_trans (Nat.mul_le_mul h8 (show ln+1<=61 by omega)) (by decide)
 have ZI:((nr:Nat):Int)*((ln:Int)+1)=(q:Int):=by rw[hq];push_cast;rfl
 have sz:=ae jb
 have qag:=ae X6
 have qai:=ae Yk
 have HG1:=ae Xm
 have HXK:=ae Yr
 have HN:=ae Hn
 have HR:=ae Hr
 clear jb hP hD h hX X6 Yk Xm Yr Hn Hr gx g0 g1 dU OE hq kf
 go_enter Tryz.func12,Tryz.ntmps12
 go_wp2_with fail
 refine sz.out.mono ?_
 rintro e w1 ⟨rfl,K1⟩
 obtain⟨sb,Qy⟩:∃sb,sb=w1.heap.size:=⟨_,rfl⟩
 obtain⟨w2,gQ⟩:∃w2,w2=w1.alloc (.cells #[.int .i64 (L:Int),.int .i64 (L:Int),.int .i64 (hh:Int),.int .i64 (dn:Int)] 73):=⟨_,rfl⟩
 have K2:aa (fun _=>False) w w2:=by rw[gQ];exact K1.alloc _
 have OJ:w2.heap[sb]?=some (.cells #[.int .i64 (L:Int),.int .i64 (L:Int),.int .i64 (hh:Int),.int .i64 (dn:Int)] 73 (0,0)):=by rw[gQ,Qy];exact heap_alloc_new _ _
 obtain⟨y0,y1,y2,y3,y4,y5,y6,y7⟩:=fg (HXK.out w2 K2)
 have IA:=av y0
 have tK:=ae K2
 have rY:=ae OJ
 clear K1 K2 x0 x1 x2 x3 x4 x5 x6 x7 OJ
 go_upto_region 2 with fail
 rw[<-gQ,<-Qy]
 clear gQ Qy
 have ur:∀X:World,aa (fun _=>False) w2 X->X.cell? ⟨sb,0,none⟩=some (.int .i64 (L:Int))/\X.cell? ⟨sb,1,none⟩=some (.int .i64 (L:Int))/\X.cell? ⟨sb,2,none⟩=some (.int .i64 (hh:Int))/\X.cell? ⟨sb,3,none⟩=some (.int .i64 (dn:Int)):=fun X K=>di (K.blk rY.out (fun x=>x))
 have HS4:=ae ur
 have qcV:¬(ln:Int)<0:=by omega
 clear ur
 go_upto_region 4 with fail
 go_cut [4] (fun s4 wx=>s4=.bool rem/\Hid (aa (fun _=>False) w2 wx))
 case first=>
  go_region_with (go_at_call 31;refine(qag.out _ ?_).mono ?_;exact tK.out.drew;rintro e w3 ⟨rfl,K3⟩)
  all_goals
   have zE:=ae K3
   clear K3
   go_wp2_with fail
   go_meet
   exact⟨rfl,((aa.refl _ _).drew).trans zE.out⟩
 case rest=>
 obtain⟨rfl,zE⟩:=hcut
 obtain⟨w3,gT⟩:∃x,x=wc:=⟨_,rfl⟩
 subst gT
 obtain⟨z0,z1,z2,z3,z4,z5,z6,z7⟩:=fg (HXK.out w3 (tK.out.trans zE.out))
 obtain⟨s0,s1,s2,s3⟩:=HS4.out w3 zE.out
 have hzl:=av z0
 have kP:=av s0
 clear y0 y1 y2 y3 y4 y5 y6 y7 IA
 cases rem
 ·obtain⟨rfl,rfl,rfl⟩:=HN.out rfl
  go_wp2_with fail
  go_quiet (fail)
  go_wp2
  go_ret
  exact⟨rfl,(tK.out.trans zE.out).drewN _⟩
 ·obtain⟨Hw,qco,tf,Sj,hd3⟩:=HR.out rfl
  have HW:=ae Hw
  have Y6:=ae hd3
  clear Hw hd3 HR HN
  go_upto_region 7 with fail
  go_cut [5] (fun s5 wx=>s5=.bool who/\Hid (aa (fun _=>False) w2 wx))
  case first=>
   go_region_with (go_at_call 32;refine(qai.out _ ?_).mono ?_;exact(tK.out.trans zE.out).drew;rintro e w4 ⟨rfl,K4⟩)
   all_goals
    have B6:=ae K4
    clear K4
    go_wp2_with fail
    go_meet
    exact⟨rfl,(zE.out.drew).trans B6.out⟩
  case rest=>
  obtain⟨rfl,B6⟩:=hcut
  obtain⟨w4,ib⟩:∃x,x=wc:=⟨_,rfl⟩
  subst ib
  have Zf:=tK.out.trans B6.out
  obtain⟨z0,z1,z2,z3,z4,z5,z6,z7⟩:=fg (HXK.out w4 Zf)
  obtain⟨s0,s1,s2,s3⟩:=HS4.out w4 B6.out
  have hzl:=av z0
  have kP:=av s0
  have g1:=HG1.out w4 Zf
  have qcK:=av g1
  have qab:=ae Zf
  clear Zf
  have t1:¬(L:Int)<0:=by omega
  have t2:¬(L:Int) > (L:Int):=by omega
  have t2':¬(L:Int)<(L:Int):=by omega
  have t3:¬(c.bud:Int)<(L:Int):=by omega
  have t4:¬(hh:Int)<0:=by omega
  have t5:¬(dn:Int)<1:=by omega
  have t6:¬(rn:Int)<(dn:Int):=by omega
  have eO:∀w9:World,aa (fun _=>False) w4 w9->(Ending.returned (.bool (decide (dn<rn) == decide (0<hh)))=.returned (.bool true))/\aa (fun _=>False) w w9:=fun w9 K=>by
   refine⟨?_,qab.out.trans K⟩
   have h1:=Y6.out
   by_cases hh0:0<hh
   ·rw[decide_eq_true (h1.2 hh0),decide_eq_true hh0];rfl
   ·rw[decide_eq_false (fun x=>hh0 (h1.1 x)),decide_eq_false hh0];rfl
  have HF:=ae eO
  clear eO
  cases who
  ·go_wp2_with fail
   go_quiet (fail)
   go_wp2_with fail
   go_quiet (fail)
   go_wp2_with fail
   go_quiet (fail)
   go_wp2
   go_ret
   exact HF.out _ (((aa.refl _ _).drewN _).drewN _ |>.drewN _)
  ·have dZ:dn<=q:=HW.out rfl
   have t7:¬(q:Int)<(dn:Int):=by omega
   go_wp2_with fail
   go_quiet (fail)
   go_wp2_with fail
   go_quiet (fail)
   go_wp2_with fail
   go_quiet (fail)
   go_wp2
   go_ret
   exact HF.out _ (((aa.refl _ _).drewN _).drewN _ |>.drewN _)
end Go.Proofs.YtagklnaaoclmhaaGreatDoor
