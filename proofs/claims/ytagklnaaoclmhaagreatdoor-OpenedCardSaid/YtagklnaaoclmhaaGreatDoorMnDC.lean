import Derived.Test.YtagklnaaoclmhaaGreatDoorMnDB
set_option linter.unusedSimpArgs false
set_option linter.unusedVariables false
set_option maxRecDepth 100000
set_option maxHeartbeats 16000000
namespace Go.Proofs.YtagklnaaoclmhaaGreatDoor
open Go.RowKit
attribute [local go_sem ↓] bw aX aZ aY aF bU bB bF bD cC bT bV cg bN
attribute [local go_sem] bc aQ aS bY bv aT aU aV aW aD bG bp bu bi bX bJ bK bx cA b9 cd bf aK au aN
theorem Jd (x:Cl):(cO (some x)).toArray.extract 4 (4+41)=jF x.far.2:=by
 apply Array.ext'
 rw[Array.toList_extract]
 simp only[List.extract_eq_take_drop,cO,List.toList_toArray]
 rw[show 4+41-4=41 from rfl]
 simp only[List.drop_succ_cons,List.drop_zero]
 rw[List.take_left' (ml _)]
 rfl
theorem gZ {w:World}{k:Nat}{x:Cl}(h:ai w k=some (.cells (cO (some x)).toArray 121 (0,0))):w.cell? ⟨k,1,none⟩=some (.bool x.ok)/\w.cell? ⟨k,2,none⟩=some (.int .i64 (x.too:Int))/\w.cell? ⟨k,3,none⟩=some (.int .i64 x.far.1)/\w.cell? ⟨k,45,none⟩=some (.int .i64 (x.rn:Int)):=by
 refine⟨?_,?_,?_,?_⟩
 ·rw[al h];rfl
 ·rw[al h];rfl
 ·rw[al h];rfl
 ·rw[al h]
  show (cO (some x))[45]?=_
  simp only[cO]
  simp[List.getElem?_append_right,ml]
theorem cz.setRuns {w:World}{tb:Nat}{far:Int × Nat}{rn:Nat}(h:cz w tb far rn)(n:Nat):cz (w.setCell ⟨tb,42,none⟩ (.int .i64 (n:Int))) tb far n:=by
 unfold cz
 rw[aj h 42]
 congr 2
structure Nk (R:Rc)(tv:Value)(w wx:World)(kb:Nat):Prop where
 st:∃c,m7 R wx c tv
 kept:aa (fun k=>k=R.cb) w wx
 new:w.heap.size<=kb
theorem G4 {R:Rc}{f:Nat}(hM:mf R f)(hs:R.s.size<=60)(zL:R.ns.length<=5000)(KP:R.rs.length<=8)(uw:∀n,n<R.rs.length->cL R.rs n<R.ns.length){i a dp tb r:Nat}{p:Ot}{tr:List Ie}{far:Int × Nat}{rn:Nat}{c:Nat->Option Cl}{tv:Value}{w:World}(hi:i<R.ns.length)(ha:a<=R.s.size)(co:(ap R.ns i).kind=3)(xn:dg R.rs (ap R.ns i).name=some r)(hm:bR (am R.s) R.s.size R.rs R.ns f (cL R.rs r) a dp=some p)(hS:m7 R w c tv)(ht:cz w tb far rn)(gW:rn<=cJ)(hf:-1<=far.1):
  Calls Tryz.prog 89 #[.pointer (some ⟨R.fb,0,none⟩),.int .i64 (i:Int),.int .i64 (a:Int),.pointer (some ⟨tb,0,none⟩)] w fun e w'=>fu R c tv ⟨p.to,p.ev,p.rn+1,tr⟩ a tb far rn w e w':=by
 obtain⟨f0,f1,f2,f3⟩:=di hS.fld.at_
 have mz:=av f0
 have eM:i<(aq R.G).1.ns.length:=hi
 obtain⟨g,iH,nc,v,gz,iR,yJ,gh,qz,NI,c9,dV⟩:=hS.rdy.rg.nodes.get eM
 obtain⟨g0,g1,gx⟩:=hS.rdy.rg.gis.cells
 rw[iR]at g0
 have dm:((w.alloc (.cells df 179)).setRow w.heap.size nc)=w.alloc (.cells nc 179):=World.setRow_alloc_new w df nc 179
 have ho:=cM NI.one
 have lE:Sz nc:=NI.size
 have hz:Sz df:=cy
 have gC:∀j,(w.alloc (.cells nc 179)).cell? ⟨w.heap.size,j,none⟩=nc[j]?:=fun j=>al (au w _)
 have jo:ap R.ns i=(aq R.G).1.ns[i]:=bA hi
 have hr:r<R.rs.length:=kY xn
 rw[jo]at co xn
 have eZ:=NI.kind
 have k4:=NI.name
 obtain⟨ND,oa⟩:∃X,X=(aq R.G).1.ns[i]:=⟨_,rfl⟩
 rw[<-oa]at co eZ k4 xn
 have qA:tb<w.heap.size:=ag (show ai w tb=_ from ht)
 unfold ee at eZ
 rw[co]at eZ
 have M9:j9 R.rs ND.name=(r:Int):=by unfold j9;rw[xn]
 have fT:∀X,aa (fun _=>False) w X->Calls Tryz.prog 86 #[.pointer (some ⟨R.gb,0,none⟩),.string (ba ND.name)] X fun e w'=>e=.returned (.int .i64 (r:Int))/\w'=X:=fun X hX=>by
  rw[<-M9]
  exact g9 R.gb R.G R.base R.nv R.rv _ _ ND.name X (hS.same hX).rdy.rg.gis (hS.same hX).rdy.ru KP
 obtain⟨w1,dZ⟩:∃w1,w1=w.alloc (.cells nc 179):=⟨_,rfl⟩
 have K1:aa (fun _=>False) w w1:=by rw[dZ];exact(aa.refl _ w).alloc _
 have xt:∀X,aa (fun _=>False) w X->Calls Tryz.prog 58 #[.pointer (some ⟨R.fb,0,none⟩),.int .i64 (r:Int),.int .i64 (a:Int)] X fun e w'=>F3 R tv p a X e w':=fun X hX=>Bz hM hs KP uw hr ha hm (hS.same hX)
 have sz:Hid (∀(c:Array Value) (e:Ending) (w':World),F3 R tv p a (w1.alloc (.cells c 121)).drew e w'->c.size=46->(storeCells ⟨w1.heap.size,0,none⟩ (cO (some (iq p a))) 0).run Tryz.prog w'=.ok () (w'.setCells w1.heap.size 0 (cO (some (iq p a))))/\ai w' w1.heap.size=some (.cells c 121 (0,0))):=by
  intro c0 e w' hO vA
  have sQ:=ag (show ai w R.cb=_ from hS.cel)
  have ux:=K1.size
  have og:ai w' w1.heap.size=some (.cells c0 121 (0,0)):=bI (show ai (w1.alloc (.cells c0 121)).drew w1.heap.size=_ from au _ _) hO.kept (fun x=>by
   have x':w1.heap.size=R.cb:=x
   omega)
  refine⟨?_,og⟩
  have hl:=dv (some (iq p a))
  have:=run_storeCells_cells (P:=Tryz.prog) w1.heap.size 0 (cO (some (iq p a))) 0 w' (fun j hj=>by
   rw[al og]
   simp only[Nat.zero_add]
   rw[Array.getElem?_eq_getElem (by omega)];rfl) (fun j hj=>bh og) (fun v hv=>by
   have:=iZ (some (iq p a))
   unfold kB at this
   rw[Array.all_eq_true_iff_forall_mem]at this
   exact this v (by simpa using hv))
  exact this
 have Yb:∀(W:World) (c:Array Value),c.size=46->(storeCells ⟨W.heap.size,0,none⟩ (cO (some (iq p a))) 0).run Tryz.prog (W.alloc (.cells c 121))=.ok () (W.alloc (.cells (cO (some (iq p a))).toArray 121)):=fun W c hc=>by
  have:=run_storeCells_new (P:=Tryz.prog) W 121 c (cO (some (iq p a))).toArray (by rw[u6];simp[dv]) (by rw[hc];simp[dv]) (iZ _)
  simpa using this
 have Z9:Hid (∀(c:Array Value) (e:Ending) (w':World),F3 R tv p a (w1.alloc (.cells c 121)).drew e w'->ai w' w1.heap.size=some (.cells c 121 (0,0))->c.size=46->∃kb,Value.pointer (some ⟨w1.heap.size,0,none⟩)=.pointer (some ⟨kb,0,none⟩)/\ai (w'.setCells w1.heap.size 0 (cO (some (iq p a)))) kb=some (.cells (cO (some (iq p a))).toArray 121 (0,0))/\Hid (Nk R tv w (w'.setCells w1.heap.size 0 (cO (some (iq p a)))) kb)):=by
  intro c0 e w' hO og vA
  have sQ:=ag (show ai w R.cb=_ from hS.cel)
  have ZD:=av f0
  have ux:=K1.size
  have hl:=dv (some (iq p a))
  have vu:=dR w1.heap.size (cO (some (iq p a))) 0 w'
  obtain⟨c',UG⟩:=hO.st
  refine⟨w1.heap.size,rfl,?_,⟨⟨c',UG.kept vu (fun e=>by have e':R.fb=w1.heap.size:=e;omega) (fun e=>by have e':R.cb=w1.heap.size:=e;omega) (fun j e _=>⟨c0,121,(by have e':j=w1.heap.size:=e;rw[e'];exact og),.inl rfl⟩)⟩,?_,ux⟩⟩
  ·show (w'.setCells w1.heap.size 0 (cO (some (iq p a)))).heap[w1.heap.size]?=_
   rw[eu w1.heap.size (cO (some (iq p a))) 0 _ c0 121 og (by rw[hl,vA];decide),tB (by rw[vA,hl])]
  ·have q1:aa (fun k=>k=R.cb) w w':=((K1.alloc (.cells c0 121)).drew.mono (fun _ _ x=>x.elim)).trans hO.kept
   exact q1.then vu (fun i hi e=>by have e':i=w1.heap.size:=e;omega)
 have HEB:Hid (∀(e:Ending) (w':World),F3 R tv p a w1.drew e w'->∃kb,Value.pointer (some ⟨w'.heap.size,0,none⟩)=.pointer (some ⟨kb,0,none⟩)/\ai (w'.alloc (.cells (cO (some (iq p a))).toArray 121)) kb=some (.cells (cO (some (iq p a))).toArray 121 (0,0))/\Hid (Nk R tv w (w'.alloc (.cells (cO (some (iq p a))).toArray 121)) kb)):=by
  intro e w' hO
  obtain⟨c',UG⟩:=hO.st
  have q1:aa (fun k=>k=R.cb) w w':=(K1.drew.mono (fun _ _ x=>x.elim)).trans hO.kept
  exact⟨w'.heap.size,rfl,au _ _,⟨c',UG.same ((aa.refl _ _).alloc _)⟩,q1.alloc _,q1.size⟩
 have HKd:=ae K1.drew
 have MR:Hid (∀o,aa (fun _=>False) w (w1.alloc o).drew):=fun o=>(K1.alloc o).drew
 have HS:=ae hS
 have HT:=ae ht
 have jE:=ae K1
 have Qg:=dv (some (iq p a))
 have hXo:=iZ (some (iq p a))
 have ZU:=kJ
 have qbv:r<=8:=by have:R.rs.length<=8:=KP;omega
 obtain⟨X,hX⟩:∃X,X=iq p a:=⟨_,rfl⟩
 have HX:=ae hX
 rw[<-hX]at Qg hXo Yb sz Z9 HEB
 have mx:∀e w0 w',F3 R tv p a w0 e w'->e=.returned (.agg (cO (some X)).toArray):=fun e w0 w' h=>by rw[h.res,hX]
 have HO2:=ae mx
 have Un:=ae fT
 have PO:=ae xt
 clear hS ht K1 c9 dV NI gx jo oa hm xn M9 fT xt hr hX mx
 go_enter Tryz.func89,Tryz.ntmps89
 go_upto_region 15 with fail
 rw[<-dZ]
 rw[<-dZ]at gC
 have f1':w1.cell? ⟨R.fb,0,none⟩=some (.pointer (some ⟨R.gb,0,none⟩)):=(jE.out.cell (p:=⟨R.fb,0,none⟩) mz (fun x=>x)).trans f0
 have qah:Hid (w1.heap.size=w.heap.size+1):=by unfold Hid;rw[dZ];simp
 have qcW:w.heap.size<w1.heap.size:=by rw[qah.out];omega
 have XH:R.fb<w1.heap.size:=by omega
 clear dZ dm
 go_cut [11] (fun s11 wx=>∃kb,s11=.pointer (some ⟨kb,0,none⟩)/\ai wx kb=some (.cells (cO (some X)).toArray 121 (0,0))/\Hid (Nk R tv w wx kb))
 case first=>
  go_region_with (first
   | (go_at_call 86;refine(Un.out _ ?_).mono ?_;(first | exact HKd.out | exact MR.out _);rintro e w7 ⟨rfl,rfl⟩)
   | (go_at_call 58;refine(PO.out _ ?_).mono ?_;(first | exact HKd.out | exact MR.out _);intro e w8 hO;have he:=HO2.out _ _ _ hO;subst he;first | (obtain⟨qda,qbk⟩:=sz.out _ _ _ hO rfl) | skip))
  all_goals
   go_wp2_with fail
   go_meet
   first
   | exact Z9.out _ _ _ hO qbk rfl
   | exact HEB.out _ _ hO
 case rest=>
 obtain⟨kb,rfl,og,HN⟩:=hcut
 obtain⟨w2,gQ⟩:∃x,x=wc:=⟨_,rfl⟩
 subst gQ
 have PS:=HN.out.kept
 have Yf:¬tb=R.cb:=fun e=>qR (show ai w tb=_ from HT.out) HS.out.cel (by decide) e
 have M5:cz w2 tb far rn:=PS.blk HT.out Yf
 have SB:¬kb=tb:=oU og M5 (by decide)
 have qbj:=og
 obtain⟨x1,x2,x3,YV⟩:=gZ og
 have hxt:=Jd X
 have hxs:((cO (some X)).toArray).size=46:=by simp[dv]
 have E0:=xS tb far rn X.far.1 X.far.2 w2 M5
 have HTK:=ae E0
 have sA:=ae M5
 have Re:=ae PS
 have hxm:far=far:=rfl
 clear M5 PS E0 hxm Z9 HEB Un PO sz Yb MR HKd
 have HKB:Hid (∀w',aa (fun k=>k=tb) w2 w'->ai w' kb=some (.cells (cO (some X)).toArray 121 (0,0))):=fun w' hk=>bI og hk SB
 go_wp2_with fail
 refine HTK.out.mono ?_
 rintro e w3 ⟨rfl,N6,K3⟩
 have SR:=HKB.out w3 K3
 obtain⟨y1,y2,y3,y45⟩:=gZ SR
 obtain⟨t0,t42⟩:=N6.cells
 have qdc:=av t0
 have qc8:rn<=1000000:=gW
 have hXr:X.rn<=1000000:=by rw[HX.out];exact Nat.min_le_left _ _
 have UY:w3.frozen? ⟨tb,42,none⟩=false:=bh (show ai w3 tb=_ from N6)
 have VL:=ae N6
 have zE:=ae K3
 clear N6 K3 x1 x2 x3 YV og qbj SR
 go_wp2_with fail
 go_region
 all_goals
  obtain⟨w4,ib⟩:∃w4,w4=(w3.setCell ⟨tb,42,none⟩ (.int .i64 ((rn:Int)+(X.rn:Int)))).drew:=⟨_,rfl⟩
  rw[<-ib]
  have Zy:cz w4 tb (dt far X.far) (rn+X.rn):=by
   rw[ib]
   have:=VL.out.setRuns (rn+X.rn)
   rw[Int.natCast_add]at this
   exact this
  have vu:aa (fun k=>k=tb) w3 w4:=by rw[ib];exact((aa.refl (fun k=>k=tb) w3).setCell (p:=⟨tb,42,none⟩) (fun _=>rfl) _).drew
  have XX:=HKB.out w4 (zE.out.trans vu)
  obtain⟨z1,z2,z3,z45⟩:=gZ XX
  obtain⟨u0,ZY⟩:=Zy.cells
  have qdb:w4.frozen? ⟨tb,42,none⟩=false:=bh (show ai w4 tb=_ from Zy)
  have eO:∀(w5:World) (n:Nat),cz w5 tb (dt far X.far) n->aa (fun k=>k=tb) w4 w5->n=min cJ (rn+(p.rn+1))->fu R c tv ⟨p.to,p.ev,p.rn+1,tr⟩ a tb far rn w (.returned (.tuple #[.int .i64 (X.too:Int),.bool X.ok])) w5:=by
   intro w5 n J1 me hn
   obtain⟨c2,gA⟩:=HN.out.st
   have K25:aa (fun k=>k=tb) w2 w5:=(zE.out.trans vu).trans me
   have gP:m7 R w5 c2 tv:=gA.kept K25 (fun e=>by
    have e':R.fb=tb:=e
    exact oU (show ai w2 R.fb=_ from gA.fld.at_) sA.out (by decide) e') (fun e=>Yf (Eq.symm e)) (fun j e _=>⟨vj far rn,185,(by have e':j=tb:=e;rw[e'];exact sA.out),.inr (.inl rfl)⟩)
   refine lj gP J1 ((Re.out.mono (fun _ _ x=>Or.inr x)).trans (K25.mono (fun _ _ x=>Or.inl x))) (by rw[HX.out];rfl) hn ?_
   rw[HX.out];rfl
  have HF:=ae eO
  have HT4:=ae Zy
  have HXr:Hid (X.rn=min cJ (p.rn+1)):=by unfold Hid;rw[HX.out];rfl
  clear eO Zy ib vu y1 y2 y3 y45 t0 t42 UY XX HTK
  by_cases Cg:1000000<rn+X.rn
  ·have qaT:(1000000:Int)<(rn:Int)+(X.rn:Int):=by omega
   have qb4:w4.cell? ⟨tb,42,none⟩=some (.int .i64 ((rn:Int)+(X.rn:Int))):=by rw[ZY,Int.natCast_add]
   have HM:Hid (cJ=min cJ (rn+(p.rn+1))):=by
    have h1:=HXr.out
    unfold Hid
    unfold cJ at h1 ⊢
    omega
   obtain⟨w5,jX⟩:∃w5,w5=w4.setCell ⟨tb,42,none⟩ (.int .i64 1000000):=⟨_,rfl⟩
   have me:aa (fun k=>k=tb) w4 w5:=by rw[jX];exact(aa.refl (fun k=>k=tb) w4).setCell (p:=⟨tb,42,none⟩) (fun _=>rfl) _
   have J1:cz w5 tb (dt far X.far) cJ:=by rw[jX];exact HT4.out.setRuns 1000000
   have Tl:w5.cell? ⟨kb,1,none⟩=some (.bool X.ok):=(me.cell (p:=⟨kb,1,none⟩) (av z1) SB).trans z1
   have hx6:w5.cell? ⟨kb,2,none⟩=some (.int .i64 (X.too:Int)):=(me.cell (p:=⟨kb,2,none⟩) (av z2) SB).trans z2
   have qad:=ae me
   have VM:=ae J1
   clear ZY me J1
   go_wp2_with fail
   rw[<-jX]
   clear jX
   go_quiet (fail)
   go_wp2
   go_ret2
   exact HF.out _ _ (show cz (World.drewN _ _) tb _ _ from VM.out) (qad.out.drewN _) HM.out
  ·have qaT:¬(1000000:Int)<(rn:Int)+(X.rn:Int):=by omega
   have qb4:w4.cell? ⟨tb,42,none⟩=some (.int .i64 ((rn:Int)+(X.rn:Int))):=by rw[ZY,Int.natCast_add]
   have HM:Hid (rn+X.rn=min cJ (rn+(p.rn+1))):=by
    have h1:=HXr.out
    unfold Hid
    unfold cJ at h1 ⊢
    omega
   clear ZY
   go_wp2_with fail
   go_quiet (fail)
   go_wp2
   go_ret2
   exact HF.out _ _ (show cz (World.drewN _ _) tb _ _ from HT4.out) ((aa.refl _ _).drewN _) HM.out
end Go.Proofs.YtagklnaaoclmhaaGreatDoor
