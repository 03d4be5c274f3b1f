import Derived.Test.YtagklnaaoclmhaaGreatDoorMnDG
set_option linter.unusedSimpArgs false
set_option linter.unusedVariables false
set_option maxRecDepth 100000
set_option maxHeartbeats 16000000
namespace Go.Proofs.YtagklnaaoclmhaaGreatDoor
open Go.RowKit
structure PzK (G s:ByteArray)(c:Cf)(pb base f:Nat)(o:Ot)(w:World)(e:Ending)(w':World):Prop where
 spent:c.runs<o.rn+1->e=.returned (.tuple #[mZ,.int .i64 6])/\s7 w' pb G c base 0 0 0 0
 ok:o.rn+1<=c.runs->∃(B:Bool) (T:Int) (tp fp:Option Addr) (tn tc fn fc:Nat),e=.returned (.tuple #[.agg #[.bool B,.int .i64 T,.slice tp tn tc,.int .i64 (cH o.ev).1,.slice fp fn fc],.int .i64 0])/\
  qC w' w.heap.size (mY o.to) ((jx 0 0 0 o).tr.map nI) (cH o.ev).2 B T (.slice tp tn tc) (.slice fp fn fc)/\
  ∃br n t s' r,tM (OW G s c br) n c.bud o (f+1) t s' r/\s'.mem.ent.length<=c.bud/\s7 w' pb G c base s'.mem.ent.length s'.mem.ent.length s'.mem.hits s'.dn/\∃Br,Kc (OW G s c br) Br
 kept:aa (fun k=>k=pb) w w'
theorem Ui {G s:ByteArray}{c:Cf}(hG:dj G=(0,0))(hc:Q7 c)(hs:s.size<=60){w:World}{gd gb mb eb ob b0 bg f:Nat}{rv:Value}{P:List Nat}{ρ:Nat->Int}{o:Ot}
  (oI:Gm w bg gb rv P ρ (aq G).2 (aq G).1.ns) (hρ:∀i,i<(aq G).1.ns.length->(ap (aq G).1.ns i).kind=3->ρ i=(dI (aq G).2 (ap (aq G).1.ns i):Int))
  (fK:w.heap[gd]?=some (.cells #[aw gb,.int .i64 (c.runs:Int),aw mb] 152 (0,0))) (hM:iF w b0 mb eb ob [] (jI c.pol c.bud c.mask (aq G).2.length) (fun _ _=>False) (oX c.bud)) (hT:zS w) (hb:0<b0)
  (Cm:bR (am s) s.size (aq G).2 (aq G).1.ns f (cL (aq G).2 0) 0 1=some o):
  ∃br n t s' r,tM (OW G s c br) n c.bud o (f+1) t s' r/\(∃Br,Kc (OW G s c br) Br)/\Calls Tryz.prog 49 #[.pointer (some ⟨gd,0,none⟩),.int .i64 0,.string s] w fun e w'=>V6 c gd gb mb b0 s' r w e w':=by
 obtain⟨L,hL,hB⟩:=oI.brk
 have qaS:=RO (s:=s) (c:=c) hG hc hs oI hρ hL hB fK hM
 have gC:=QI (s:=s) (c:=c) hG oI hB
 obtain⟨t,s',r,Nm⟩:=MI gC (L.length*(s.size+1)) c.bud (kE hG) (f:=f) (o:=o) Cm
 refine⟨CG P L,_,t,s',r,Nm,⟨_,gC⟩,?_⟩
 have E1:=zc _ _ _ _ _ Cm
 have qc6:=hc.runs.2
 have mz:s'.cnt<=c.runs->¬r.to=-1->(i8 0 r).length<=100000:=fun h1 h2=>by
  by_cases h3:o.rn+1<=c.runs
  ·have h4:=Nm.to h3
   rw[Nm.rto,h4]at h2
   have h5:o.to.isSome=true:=by
    cases ho:o.to with
    | none=>rw[ho]at h2;exact absurd rfl h2
    | some x=>rfl
   rw[Nm.tr h3 h5,List.length_map]
   obtain⟨x,hx⟩:=Option.isSome_iff_exists.1 h5
   simp only[jx,hx,List.length_cons]
   omega
  ·have:=Nm.spent (show c.runs<o.rn+1 by omega)
   have h6:c.runs<s'.cnt:=this
   omega
 refine(ME qaS hT Nm.run Nm.one (kE hG) mz hb).mono ?_
 rintro e w' ⟨h1,h2,⟨R,Wl,ob',EL,h3⟩,h4,h5⟩
 exact⟨h1,h2,⟨_,R,Wl,ob',EL,h3,Lm _ _ _ _⟩,h4,h5⟩
theorem Pc {G s:ByteArray}{c:Cf}{pb base a b d e f:Nat}{w:World}{o:Ot}(h:s7 w pb G c base a b d e)(hT:zS w)(hs:s.size<=60)
  (Cm:bR (am s) s.size (aq G).2 (aq G).1.ns f (cL (aq G).2 0) 0 1=some o):
  Calls Tryz.prog 19 #[.pointer (some ⟨pb,0,none⟩),.string s] w fun e w'=>PzK G s c pb base f o w e w':=by
 obtain⟨gb,bg,rv,P,ρ,hb,oI,hρ⟩:=h.ex
 have sn:=ag (show ai w pb=_ from hb)
 have yM:=Ue hT hb
 have AM:∀W,Calls Tryz.prog 47 #[.string s] W fun e w'=>e=.returned (.bool false)/\w'=W:=fun W=>by
  have:=uG s W (by unfold maxLen;omega)
  rw[decide_eq_false (by omega)]at this;exact this
 obtain⟨⟨c0,c1,c2,c3,c4,c5,c6,c7,c8⟩,hf⟩:=qT hb
 have f5:=hf 5
 have f6:=hf 6
 have f7:=hf 7
 have f8:=hf 8
 obtain⟨w1,dZ⟩:∃w1,w1=(rK w pb (.int .i64 0) (.int .i64 0) (.int .i64 0) (.int .i64 0)).alloc (.cells #[.bool false,.int .i64 0,.slice none 0 0,.int .i64 0,.slice none 0 0] 31):=⟨_,rfl⟩
 have EH:=rL w pb (.int .i64 0) (.int .i64 0) (.int .i64 0) (.int .i64 0)
 have dd:aa (fun k=>k=pb) w w1:=by rw[dZ];exact EH.alloc _
 have AZ:(rK w pb (.int .i64 0) (.int .i64 0) (.int .i64 0) (.int .i64 0)).heap.size=w.heap.size:=by unfold rK;simp
 have Yd:w1.heap.size=w.heap.size+1:=by rw[dZ];simp[AZ]
 have mF:w1.heap[w.heap.size]?=some (.cells #[.bool false,.int .i64 0,.slice none 0 0,.int .i64 0,.slice none 0 0] 31 (0,0)):=by
  rw[dZ,<-AZ];exact heap_alloc_new _ _
 have dE:w1.heap[pb]?=some (.cells #[aw gb,.int .i64 (c.pol:Int),.int .i64 (c.bud:Int),.int .i64 (c.mask:Int),.int .i64 (c.runs:Int),.int .i64 0,.int .i64 0,.int .i64 0,.int .i64 0] 105 (0,0)):=by
  rw[dZ,Below.heap_alloc _ _ _ (by rw[AZ];exact sn)]
  exact zq hb _ _ _ _
 have Og:Gm w1 bg gb rv P ρ (aq G).2 (aq G).1.ns:=oI.kept dd (fun j cs t e hj=>by
  have e':j=pb:=e
  subst e'
  have rq:w.heap[j]?=_:=hj
  rw[hb]at rq;simp at rq
  rw[<-rq.2];decide)
 have sM:zS w1:=hT.kept dd yM
 have Oh:Calls Tryz.prog 48 #[.pointer (some ⟨gb,0,none⟩),.agg #[.int .i64 (c.pol:Int),.int .i64 (c.bud:Int),.int .i64 (c.mask:Int),.int .i64 (c.runs:Int)]] w1.drew fun e w'=>PK c.pol c.bud c.mask (aq G).2.length c.runs gb (fun _ _=>False) w1.drew e w':=by
  obtain⟨z,hz⟩:=Og.gram
  obtain⟨rp,rc,dU⟩:=an Og.own
  exact CW c.pol c.bud c.mask (aq G).2.length c.runs gb rp rc (fun _ _=>False) w1.drew h.cf.pol h.cf.bud h.cf.mask (rH G).len (by
   show w1.cell? _=_
   rw[<-dU];simp[World.cell?,hz])
 have Dq:=dZ
 unfold rK at Dq
 have xk:∀W,aa (fun _=>False) w1.drew W->W.cell? ⟨pb,0,none⟩=some (.pointer (some ⟨gb,0,none⟩))/\W.cell? ⟨pb,1,none⟩=some (.int .i64 (c.pol:Int))/\W.cell? ⟨pb,2,none⟩=some (.int .i64 (c.bud:Int))/\W.cell? ⟨pb,3,none⟩=some (.int .i64 (c.mask:Int))/\W.cell? ⟨pb,4,none⟩=some (.int .i64 (c.runs:Int)):=fun W hW=>by
  have Ay:=(aa.refl (fun _=>False) w1).drew.trans hW
  have eL:W.heap[pb]?=_:=(Ay.block pb (ag (show ai w1 pb=_ from dE)) (fun x=>x)).trans dE
  obtain⟨⟨z0,z1,z2,z3,z4,_⟩,_⟩:=qT eL
  exact⟨z0,z1,z2,z3,z4⟩
 have HGM:=ae Og
 have Hρ:=ae hρ
 have HT:=ae sM
 have HMT:=ae Cm
 have HH:=ae h
 obtain⟨n1,n2,n3,n4,n0⟩:w1.cell? ⟨pb,1,none⟩=some (.int .i64 (c.pol:Int))/\w1.cell? ⟨pb,2,none⟩=some (.int .i64 (c.bud:Int))/\w1.cell? ⟨pb,3,none⟩=some (.int .i64 (c.mask:Int))/\w1.cell? ⟨pb,4,none⟩=some (.int .i64 (c.runs:Int))/\w1.cell? ⟨pb,0,none⟩=some (.pointer (some ⟨gb,0,none⟩)):=by
  obtain⟨z0,z1,z2,z3,z4⟩:=xk w1.drew (aa.refl _ _)
  exact⟨z1,z2,z3,z4,z0⟩
 clear dZ hT oI hρ h Og sM Cm
 unfold aw at c0
 go_enter Tryz.func19,Tryz.ntmps19
 go_wp2_with fail
 rw[<-Dq]
 refine(AM _).mono ?_
 rintro e w1a ⟨rfl,rfl⟩
 clear Dq AM f5 f6 f7 f8 hf c0 c1 c2 c3 c4 c5 c6 c7 c8 EH AZ
 go_wp2_with fail
 go_region_held3 (fun w'=>w'.cell? ⟨pb,0,none⟩=some (.pointer (some ⟨gb,0,none⟩))/\w'.cell? ⟨pb,1,none⟩=some (.int .i64 (c.pol:Int))/\w'.cell? ⟨pb,2,none⟩=some (.int .i64 (c.bud:Int))/\w'.cell? ⟨pb,3,none⟩=some (.int .i64 (c.mask:Int))/\w'.cell? ⟨pb,4,none⟩=some (.int .i64 (c.runs:Int))) (go_keep) ((go_at_call 48;refine Oh.mono ?_;rintro e w2 ⟨⟨gd,mb,eb,ob,rfl,fK,hM⟩,dl⟩;obtain⟨z0,z1,z2,z3,z4⟩:=xk w2 dl))
 have vS:aa (fun _=>False) w1a w2:=(aa.refl (fun _=>False) w1a).drew.trans dl
 have sh:w1a.drew.heap.size+1=w.heap.size+2:=by show w1a.heap.size+1=_;omega
 rw[sh]at hM
 obtain⟨br,n,t,s',r,Nm,gC,Yl⟩:=Ui (s:=s) HH.out.chk HH.out.cf hs (HGM.out.kept vS (fun _ _ _ x=>x.elim)) Hρ.out fK hM (HT.out.kept vS (fun x=>x)) (Nat.succ_pos _) HMT.out
 have HW:=ae Nm
 have C0:aa (fun k=>k=pb) w w2:=dd.then vS (fun _ _ x=>x.elim)
 have ki:w2.heap[w.heap.size]?=some (.cells #[.bool false,.int .i64 0,.slice none 0 0,.int .i64 0,.slice none 0 0] 31 (0,0)):=by
  rw[vS.block w.heap.size (by omega) (fun x=>x)];exact mF
 have eL:w2.heap[pb]?=some (.cells #[aw gb,.int .i64 (c.pol:Int),.int .i64 (c.bud:Int),.int .i64 (c.mask:Int),.int .i64 (c.runs:Int),.int .i64 0,.int .i64 0,.int .i64 0,.int .i64 0] 105 (0,0)):=by
  rw[vS.block pb (by omega) (fun x=>x)];exact dE
 have sV:w.heap.size+1<=w2.heap.size:=by have:=vS.size;omega
 clear fK hM Nm Oh xk z0 z1 z2 z3 z4 n0 n1 n2 n3 n4 sh dl vS mF dE Yd dd
 go_wp2_with fail
 refine Yl.mono ?_
 intro e w3 hO
 have iy:w3.heap[w.heap.size]?=some (.cells #[.bool false,.int .i64 0,.slice none 0 0,.int .i64 0,.slice none 0 0] 31 (0,0)):=by
  rw[hO.kept.block w.heap.size (by omega) (fun x=>by omega)];exact ki
 have dY:w3.heap[pb]?=some (.cells #[aw gb,.int .i64 (c.pol:Int),.int .i64 (c.bud:Int),.int .i64 (c.mask:Int),.int .i64 (c.runs:Int),.int .i64 0,.int .i64 0,.int .i64 0,.int .i64 0] 105 (0,0)):=by
  rw[hO.kept.block pb (by omega) (fun x=>by omega)];exact eL
 have qbN:w2.heap.size<=w3.heap.size:=hO.kept.size
 have K3:aa (fun k=>k=pb) w w3:=C0.then hO.kept (fun i hi x=>by omega)
 have P3:s7 w3 pb G c base 0 0 0 0:=HH.out.set K3 (fun x0 hx=>by
  rw[hb]at hx
  simp only[Option.some.injEq,Obj.cells.injEq,Array.mk.injEq,List.cons.injEq]at hx
  rw[<-hx.1.1]
  exact dY)
 clear Yl ki eL C0
 by_cases yO:c.runs<s'.cnt
 ·have he:=hO.sp yO
  subst he
  have qbL:c.runs<o.rn+1:=by
   by_cases h1:o.rn+1<=c.runs
   ·have:=HW.out.cnt h1;omega
   ·omega
  obtain⟨w4,ib⟩:∃w4,w4=w3.alloc (.cells #[.bool false,.int .i64 0,.slice none 0 0,.int .i64 0,.slice none 0 0] 31):=⟨_,rfl⟩
  have eK:aa (fun _=>False) w3 w4:=by rw[ib];exact(aa.refl _ w3).alloc _
  have SY:w4.heap[w.heap.size]?=some (.cells #[.bool false,.int .i64 0,.slice none 0 0,.int .i64 0,.slice none 0 0] 31 (0,0)):=by
   rw[eK.block w.heap.size (by omega) (fun x=>x)];exact iy
  have fq:∀k,w4.frozen? ⟨w.heap.size,k,none⟩=false:=fun k=>by simp[World.frozen?,SY]
  have B8:=fq 0
  have B9:=fq 1
  have Ca:=fq 2
  have Cb:=fq 3
  have Gj:=fq 4
  obtain⟨y0,y1,y2,y3,y4⟩:=bS SY
  clear hO fq
  unfold mZ
  rw[ib]at B8 B9 Ca Cb Gj y0 y1 y2 y3 y4
  go_wp2
  rw[<-ib]
  obtain⟨w6,lZ⟩:∃w6,w6=gp w4 w.heap.size (.bool false) (.int .i64 0) (.slice none 0 0) (.int .i64 0) (.slice none 0 0):=⟨_,rfl⟩
  have jv:=lZ
  unfold gp at jv
  rw[<-jv]
  have h6:w6.heap[w.heap.size]?=some (.cells #[.bool false,.int .i64 0,.slice none 0 0,.int .i64 0,.slice none 0 0] 31 (0,0)):=by rw[lZ];exact fj SY _ _ _ _ _
  have K6:aa (fun k=>k=w.heap.size) w4 w6:=by rw[lZ];exact dB _ _ _ _ _ _ _
  obtain⟨x0,x1,x2,x3,x4⟩:=bS h6
  clear lZ jv ib
  have eE:aa (fun k=>k=w.heap.size) w3 w6:=(eK.mono (fun _ _ x=>x.elim)).trans K6
  refine bodyPost_ret (v:=.tuple #[mZ,.int .i64 6]) (by simp[results,Tryz.results19,go_sem,x0,x1,x2,x3,x4,mZ]) rfl ⟨fun _=>⟨rfl,P3.kept eE (fun j cs t e hj=>by
   have e':j=w.heap.size:=e
   subst e'
   rw[iy]at hj;simp at hj
   rw[<-hj.2];decide) (fun e=>by have e':pb=w.heap.size:=e;omega)⟩,fun x=>by omega,?_⟩
  exact K3.then eE (fun i hi e=>by have e':i=w.heap.size:=e;omega)
 ·obtain⟨B,T,tp,fp,tn,tc,fn,fc,rfl,hA⟩:=hO.ok (by omega)
  obtain⟨C,R,Wl,ob',EL,hM,hC⟩:=hO.mem
  have fK:=hO.gnd
  have Ip:=hM.bound
  rw[hC]at Ip
  have SK:=y9 (w.heap.size+2) gd mb Wl ob' EL C R s'.mem (w3.alloc (.cells #[.bool B,.int .i64 T,.slice tp tn tc,.int .i64 s'.far.1,.slice fp fn fc] 31)) _ _ (by
   rw[Below.heap_alloc _ _ _ (ag (show ai w3 gd=_ from fK))];exact fK) (hM.kept ((aa.refl (fun _=>False) w3).alloc _) (fun j x=>x.elim))
  have iJ:o.rn+1<=c.runs:=by
   by_cases h1:o.rn+1<=c.runs
   ·exact h1
   ·have h2:=HW.out.spent (show c.runs<o.rn+1 by omega)
    have h3:c.runs<s'.cnt:=h2
    omega
  clear hO hM hC fK
  go_wp2_with fail
  refine SK.mono ?_
  rintro e w5 ⟨rfl,gR⟩
  have RZ:aa (fun _=>False) w3 w5:=((aa.refl (fun _=>False) w3).alloc _).trans gR
  have EN:w5.heap[pb]?=some (.cells #[aw gb,.int .i64 (c.pol:Int),.int .i64 (c.bud:Int),.int .i64 (c.mask:Int),.int .i64 (c.runs:Int),.int .i64 0,.int .i64 0,.int .i64 0,.int .i64 0] 105 (0,0)):=by
   rw[RZ.block pb (by omega) (fun x=>x)];exact dY
  have so:w5.heap[w.heap.size]?=some (.cells #[.bool false,.int .i64 0,.slice none 0 0,.int .i64 0,.slice none 0 0] 31 (0,0)):=by
   rw[RZ.block w.heap.size (by omega) (fun x=>x)];exact iy
  have ha5:w5.heap[w3.heap.size]?=some (.cells #[.bool B,.int .i64 T,.slice tp tn tc,.int .i64 s'.far.1,.slice fp fn fc] 31 (0,0)):=by
   rw[gR.block w3.heap.size (by simp) (fun x=>x)];exact heap_alloc_new _ _
  obtain⟨⟨c0,c1,c2,c3,c4,c5,c6,c7,c8⟩,hf⟩:=qT EN
  have f5:=hf 5
  have f6:=hf 6
  have f7:=hf 7
  have f8:=hf 8
  have fq:∀k,w5.frozen? ⟨w.heap.size,k,none⟩=false:=fun k=>by simp[World.frozen?,so]
  have B8:=fq 0
  have B9:=fq 1
  have Ca:=fq 2
  have Cb:=fq 3
  have Gj:=fq 4
  obtain⟨y0,y1,y2,y3,y4⟩:=bS so
  obtain⟨v0,v1,v2,v3,v4⟩:=bS ha5
  have Nh:¬w.heap.size=pb:=by omega
  have XP:¬pb=w.heap.size:=by omega
  have UV:¬w3.heap.size=pb:=by omega
  have hn4:¬pb=w3.heap.size:=by omega
  have zL:¬w.heap.size=w3.heap.size:=by omega
  have hn6:¬w3.heap.size=w.heap.size:=by omega
  clear SK hf
  go_wp2
  clear c0 c1 c2 c3 c4 c5 c6 c7 c8 f5 f6 f7 f8 fq B8 B9 Ca Cb Gj y0 y1 y2 y3 y4 v0 v1 v2 v3 v4
  obtain⟨w6,lZ⟩:∃w6,w6=(rK w5 pb (.int .i64 (s'.mem.ent.length:Int)) (.int .i64 (s'.mem.ent.length:Int)) (.int .i64 (s'.mem.hits:Int)) (.int .i64 0)).setCell ⟨pb,8,none⟩ (.int .i64 (s'.dn:Int)):=⟨_,rfl⟩
  have jv:=lZ
  unfold rK at jv
  rw[<-jv]
  have h6:w6.heap[pb]?=some (.cells #[aw gb,.int .i64 (c.pol:Int),.int .i64 (c.bud:Int),.int .i64 (c.mask:Int),.int .i64 (c.runs:Int),.int .i64 (s'.mem.ent.length:Int),.int .i64 (s'.mem.ent.length:Int),.int .i64 (s'.mem.hits:Int),.int .i64 (s'.dn:Int)] 105 (0,0)):=by
   rw[lZ]
   have e1:=aj (zq EN (.int .i64 (s'.mem.ent.length:Int)) (.int .i64 (s'.mem.ent.length:Int)) (.int .i64 (s'.mem.hits:Int)) (.int .i64 0)) 8 (.int .i64 (s'.dn:Int))
   simpa using e1
  have K6:aa (fun k=>k=pb) w5 w6:=by rw[lZ];exact(rL _ _ _ _ _ _).setCell (p:=⟨pb,8,none⟩) (fun _=>rfl) _
  clear lZ jv
  have X4:w6.heap[w.heap.size]?=some (.cells #[.bool false,.int .i64 0,.slice none 0 0,.int .i64 0,.slice none 0 0] 31 (0,0)):=by
   rw[K6.block w.heap.size (ag (show ai w5 w.heap.size=_ from so)) (fun e=>Nh e)];exact so
  obtain⟨w7,ON⟩:∃w7,w7=gp w6 w.heap.size (.bool B) (.int .i64 T) (.slice tp tn tc) (.int .i64 s'.far.1) (.slice fp fn fc):=⟨_,rfl⟩
  have Ds:=ON
  unfold gp at Ds
  rw[<-Ds]
  have h7:w7.heap[w.heap.size]?=some (.cells #[.bool B,.int .i64 T,.slice tp tn tc,.int .i64 s'.far.1,.slice fp fn fc] 31 (0,0)):=by rw[ON];exact fj X4 _ _ _ _ _
  have K7:aa (fun k=>k=w.heap.size) w6 w7:=by rw[ON];exact dB _ _ _ _ _ _ _
  obtain⟨x0,x1,x2,x3,x4⟩:=bS h7
  clear ON Ds
  have K37:aa (fun k=>k=pb\/k=w.heap.size) w3 w7:=((RZ.mono (fun _ _ x=>x.elim)).trans (K6.mono (fun _ _ x=>Or.inl x))).trans (K7.mono (fun _ _ x=>Or.inr x))
  have K07:aa (fun k=>k=pb) w w7:=K3.then K37 (fun i hi e=>by rcases e with e | e <;> omega)
  have P7:s7 w7 pb G c base s'.mem.ent.length s'.mem.ent.length s'.mem.hits s'.dn:=HH.out.set K07 (fun y hx=>by
   rw[hb]at hx
   simp only[Option.some.injEq,Obj.cells.injEq,Array.mk.injEq,List.cons.injEq]at hx
   rw[<-hx.1.1,K7.block pb (ag (show ai w6 pb=_ from h6)) (fun e=>XP e)]
   exact h6)
  have eQ:=HW.out.to iJ
  have qbG:=HW.out.rto
  have ku:=HW.out.far iJ
  have QB:w.heap.size<=w2.heap.size:=by omega
  have qt:qC w7 w.heap.size (mY o.to) ((jx 0 0 0 o).tr.map nI) (cH o.ev).2 B T (.slice tp tn tc) (.slice fp fn fc):=by
   have e1:r.to=mY o.to:=qbG.trans eQ
   have e2:∀X:List iN,(if mY o.to=-1 then [] else i8 0 r)=(if mY o.to=-1 then ([]:List iN) else (jx 0 0 0 o).tr.map nI):=fun _=>by
    by_cases h1:mY o.to=-1
    ·rw[if_pos h1,if_pos h1]
    ·rw[if_neg h1,if_neg h1]
     exact HW.out.tr iJ (by
      cases ho:o.to with
      | none=>rw[ho]at h1;exact absurd rfl h1
      | some x=>rfl)
   have mz:∀v:Value,∀i,(∀j,v.ownBlock=some j->w2.heap.size<=j)->v.ownBlock=some i->¬(i=pb\/i=w.heap.size):=fun v i h1 h2 e=>by
    have:=h1 i h2
    rcases e with e | e <;> omega
   refine⟨by rw[<-e1];exact hA.b,by rw[<-e1];exact hA.t,?_,?_⟩
   ·have h1:=hA.tr
    rw[e1,e2 []]at h1
    exact aC (eY h1 QB) K37 (fun i hi=>mz _ i (fun j hj=>(h1.lt j hj).1) hi)
   ·have h1:=hA.fl
    rw[ku]at h1
    exact aC (eY h1 QB) K37 (fun i hi=>mz _ i (fun j hj=>(h1.lt j hj).1) hi)
  refine bodyPost_ret (v:=.tuple #[.agg #[.bool B,.int .i64 T,.slice tp tn tc,.int .i64 s'.far.1,.slice fp fn fc],.int .i64 0]) (by simp[results,Tryz.results19,go_sem,x0,x1,x2,x3,x4]) rfl ⟨fun x=>by omega,fun _=>⟨B,T,tp,fp,tn,tc,fn,fc,by rw[ku],qt,br,n,t,s',r,HW.out,Ip,P7,gC⟩,K07⟩
structure LpO (G s:ByteArray)(c:Cf)(xb nb:Nat)(w:World)(e:Ending)(w':World):Prop where
 res:∃(B:Bool) (T F:Int) (tp fp:Option Addr) (tn tc fn fc:Nat),e=.returned (.tuple #[.agg #[.bool B,.int .i64 T,.slice tp tn tc,.int .i64 F,.slice fp fn fc],.bool true])
 st:(∃rn,vJ w' xb G c (-1) rn 0 0 0 0 nb)\/(s.size<=60/\∃f o,bR (am s) s.size (aq G).2 (aq G).1.ns f (cL (aq G).2 0) 0 1=some o/\o.rn+1<=c.runs/\∃br n t s' r,tM (OW G s c br) n c.bud o (f+1) t s' r/\(∃Br,Kc (OW G s c br) Br)/\s'.mem.ent.length<=c.bud/\vJ w' xb G c (s.size:Int) ((o.rn+1:Nat):Int) s'.mem.ent.length s'.mem.ent.length s'.mem.hits s'.dn nb)
 kept:aa (fun k=>nb<=k) w w'
theorem ji.ne {w:World}{xb pb gb k e:Nat}{c:Cf}{ln rn:Int}{cs:Array Value}(h:ji w xb pb gb c ln rn)(ho:w.heap[k]?=some (.cells cs e (0,0)))(he:e≠85):¬xb=k:=fun x=>by
 have h':w.heap[xb]?=_:=h
 rw[x,ho]at h'
 simp at h'
 exact he h'.2
theorem zi {w w':World}{xb pb gb base a b d e b0:Nat}{G:ByteArray}{c:Cf}{ln rn:Int}{nv rv:Value}{U:Nat->Prop}(hX:ji w xb pb gb c ln rn)(hP:s7 w pb G c base a b d e)(hD:lS w b0 gb G nv rv U (aq G).1 (aq G).2)(K:aa (fun k=>k=pb) w w'):ji w' xb pb gb c ln rn/\lS w' b0 gb G nv rv U (aq G).1 (aq G).2:=by
 obtain⟨Wy,bg,YJ,P,ρ,h1,_,_⟩:=hP.ex
 refine⟨K.blk hX (hX.ne h1 (by decide)),hD.kept3 K (fun k cs t x ho=>?_)⟩
 have x':k=pb:=x
 have KF:w.heap[k]?=_:=ho
 rw[x',h1]at KF
 simp at KF
 have ht:=KF.2
 subst ht
 decide
theorem tz {w w':World}{xb pb gb base a b d e b0:Nat}{G:ByteArray}{c:Cf}{ln rn:Int}{nv rv:Value}{U:Nat->Prop}(hX:ji w xb pb gb c ln rn)(hP:s7 w pb G c base a b d e)(hD:lS w b0 gb G nv rv U (aq G).1 (aq G).2)(K:aa (fun k=>k=xb) w w'):s7 w' pb G c base a b d e/\lS w' b0 gb G nv rv U (aq G).1 (aq G).2:=by
 obtain⟨Wy,bg,YJ,P,ρ,h1,_,_⟩:=hP.ex
 have key:∀k cs t,k=xb->w.heap[k]?=some (.cells cs t (0,0))->t=85:=fun k cs t x ho=>by
  have h':w.heap[xb]?=_:=hX
  rw[x,h']at ho
  simp at ho
  exact ho.2.symm
 refine⟨hP.kept K (fun k cs t x ho=>?_) (fun x=>hX.ne h1 (by decide) (Eq.symm x)),hD.kept3 K (fun k cs t x ho=>?_)⟩
 ·have:=key k cs t x ho;subst this;decide
 ·have:=key k cs t x ho;subst this;decide
theorem zk {w:World}{xb pb gb:Nat}{c:Cf}{ln rn:Int}(h:ji w xb pb gb c ln rn)(l:Int):ji (w.setCell ⟨xb,6,none⟩ (.int .i64 l)) xb pb gb c l rn:=aj h 6 _
theorem Pf {w:World}{xb pb gb:Nat}{c:Cf}{ln rn:Int}(h:ji w xb pb gb c ln rn)(l:Int):ji (w.setCell ⟨xb,7,none⟩ (.int .i64 l)) xb pb gb c ln l:=aj h 7 _
theorem qC.keep {S:Nat->Prop}{w w':World}{base m:Nat}{to_:Int}{L:List iN}{B:Bool}{T:Int}{vt vf:Value}(h:qC w base to_ L m B T vt vf)(K:aa S w w')(hS:∀k,S k->k<base):qC w' base to_ L m B T vt vf:=
 ⟨h.b,h.t,az h.tr K (fun k x y=>by have:=(h.tr.lt k x).1;have:=hS k y;omega),az h.fl K (fun k x y=>by have:=(h.fl.lt k x).1;have:=hS k y;omega)⟩
theorem zj {w w':World}{xb pb gb base a b d e b0 rb:Nat}{G:ByteArray}{c:Cf}{ln rn:Int}{nv rv:Value}{U:Nat->Prop}{cs:Array Value}{nb:Nat}(oe:nb<=pb)(hX:ji w xb pb gb c ln rn)(hP:s7 w pb G c base a b d e)(hD:lS w b0 gb G nv rv U (aq G).1 (aq G).2)(hr:w.heap[rb]?=some (.cells cs 31 (0,0)))(K:aa (fun k=>k=rb) w w'):vJ w' xb G c ln rn a b d e nb:=by
 obtain⟨Wy,bg,YJ,P,ρ,h1,_,_⟩:=hP.ex
 have key:∀k cs t,k=rb->w.heap[k]?=some (.cells cs t (0,0))->t=31:=fun k cs t x ho=>by
  rw[x,hr]at ho
  simp at ho
  exact ho.2.symm
 refine⟨pb,gb,base,K.blk hX (hX.ne hr (by decide)),hP.kept K (fun k cs t x ho=>?_) (fun x=>?_),oe,b0,nv,rv,U,hD.kept3 K (fun k cs t x ho=>?_)⟩
 ·have:=key k cs t x ho;subst this;decide
 ·have x':pb=rb:=x
  rw[x',hr]at h1;simp at h1
 ·have:=key k cs t x ho;subst this;decide
theorem yY {G s:ByteArray}{c:Cf}{xb a b d e:Nat}{ln rn:Int}{w:World}{nb:Nat}(h:vJ w xb G c ln rn a b d e nb)(hnx:nb<=xb)(hnw:nb<=w.heap.size)(hT:zS w)(hm:s.size<=maxLen):
  Calls Tryz.prog 13 #[.pointer (some ⟨xb,0,none⟩),.string s] w fun e' w'=>LpO G s c xb nb w e' w':=by
 obtain⟨pb,gb,base,hX,hP,oe,b0,nv,rv,U,hD⟩:=h.ex
 obtain⟨wa,mI⟩:∃wa,wa=w.alloc (.cells #[.bool false,.int .i64 0,.slice none 0 0,.int .i64 0,.slice none 0 0] 31):=⟨_,rfl⟩
 have Ka:aa (fun _=>False) w wa:=by rw[mI];exact(aa.refl _ w).alloc _
 have hXa:ji wa xb pb gb c ln rn:=Ka.blk hX (fun x=>x)
 have hPa:=hP.same Ka
 have hDa:=hD.kept3 Ka (fun _ _ _ x=>x.elim)
 have hTa:zS wa:=hT.kept Ka (fun x=>x)
 obtain⟨x0,x1,x2,x3,x4,x5,x6,x7⟩:=fg hX
 have oL:=av x0
 have wn:wa.heap[w.heap.size]?=some (.cells #[.bool false,.int .i64 0,.slice none 0 0,.int .i64 0,.slice none 0 0] 31 (0,0)):=by rw[mI];exact heap_alloc_new _ _
 obtain⟨rb,Dh⟩:∃rb,rb=w.heap.size:=⟨_,rfl⟩
 rw[<-Dh]at wn
 have PN:=ae wn
 have MR:Hid (aa (fun k=>nb<=k) w wa):=Ka.mono (fun _ _ x=>x.elim)
 have Rm:Hid (nb<=rb):=by unfold Hid;omega
 have VO:=ae hXa
 have MT:=ae hPa
 have Z8:=ae hDa
 have HTa:=ae hTa
 clear h hX hP hD hT Ka wn hXa hPa hDa hTa
 by_cases hs:60<s.size
 ·have AT:=DE MT.out HTa.out hs hm
  have FZ:=ae AT
  unfold maxLen at hm
  clear AT
  go_enter Tryz.func13,Tryz.ntmps13
  go_wp2_with fail
  rw[<-mI,<-Dh]
  clear mI Dh
  refine FZ.out.mono ?_
  rintro e' w1 ⟨rfl,EJ,K1⟩
  obtain⟨xi,Qa⟩:=zi VO.out MT.out Z8.out K1
  have X7:¬rb=pb:=fun x=>by
   obtain⟨Wy,bg,YJ,P,ρ,h1,_,_⟩:=MT.out.ex
   rw[<-x,PN.out]at h1;simp at h1
  have ry:w1.heap[rb]?=_:=K1.blk PN.out X7
  have UX:¬xb=rb:=xi.ne ry (by decide)
  obtain⟨y0,y1,y2,y3,y4,y5,y6,y7⟩:=fg xi
  have IA:=av y0
  have Yt:∀j,w1.frozen? ⟨xb,j,none⟩=false:=fun j=>bh (show ai w1 xb=_ from xi)
  obtain⟨ab,gu⟩:∃ab,ab=w1.heap.size:=⟨_,rfl⟩
  obtain⟨wb,rA⟩:∃wb,wb=(w1.setCell ⟨xb,6,none⟩ (.int .i64 (-1))).alloc (.cells #[.bool false,.int .i64 0,.slice none 0 0,.int .i64 0,.slice none 0 0] 31):=⟨_,rfl⟩
  have Kx:aa (fun k=>k=xb) w1 wb:=by rw[rA];exact((aa.refl (fun k=>k=xb) w1).setCell (p:=⟨xb,6,none⟩) (fun _=>rfl) _).alloc _
  have In:ji wb xb pb gb c (-1) rn:=by
   rw[rA]
   have h1:=zk xi (-1)
   exact((aa.refl (fun _=>False) _).alloc _).blk h1 (fun x=>x)
  obtain⟨Qf,M1⟩:=tz xi EJ Qa Kx
  have AX:wb.heap[rb]?=_:=Kx.blk ry (fun x=>UX (Eq.symm x))
  have uu:wb.heap[ab]?=some (.cells #[.bool false,.int .i64 0,.slice none 0 0,.int .i64 0,.slice none 0 0] 31 (0,0)):=by
   rw[rA,gu]
   have:=heap_alloc_new (w1.setCell ⟨xb,6,none⟩ (.int .i64 (-1))) (.cells #[.bool false,.int .i64 0,.slice none 0 0,.int .i64 0,.slice none 0 0] 31)
   simpa using this
  have hz:=B4 wb
  unfold mZ at hz
  obtain⟨b0',b1',b2',b3',b4'⟩:=bS uu
  have iB:=av b0'
  have Nj:(60:Int)<(s.size:Int):=by omega
  have HZ:=ae hz
  have VP:=ae In
  have VE:=ae Qf
  have Vv:=ae M1
  have IP:=ae AX
  have IG:=ae uu
  have Nw:Hid (aa (fun k=>nb<=k) w wb):=(MR.out.trans (K1.mono (fun k _ x=>by have x':k=pb:=x;omega))).trans (Kx.mono (fun k _ x=>by have x':k=xb:=x;omega))
  clear hz In Qf M1 AX uu Kx xi Qa EJ K1 ry
  unfold mZ
  go_upto_region 3 with fail
  rw[<-rA,<-gu]
  clear rA gu y0 y1 y2 y3 y4 y5 y6 y7 IA Yt
  go_wp2_with fail
  refine HZ.out.mono ?_
  rintro e2 w2 ⟨rfl,K2⟩
  have rh:=K2.blk IG.out (fun x=>x)
  have GH:w2.heap[rb]?=some (.cells #[.bool false,.int .i64 0,.slice none 0 0,.int .i64 0,.slice none 0 0] 31 (0,0)):=K2.blk IP.out (fun x=>x)
  obtain⟨c0,c1,c2,c3,c4⟩:=bS rh
  obtain⟨r0,r1,r2,r3,r4⟩:=bS GH
  have ri:=av c0
  have Cn:=av r0
  have KS:∀j,w2.frozen? ⟨rb,j,none⟩=false:=fun j=>bh (show ai w2 rb=_ from GH)
  have hX2:ji w2 xb pb gb c (-1) rn:=K2.blk VP.out (fun x=>x)
  have zF:=ae hX2
  have nW:=ae (VE.out.same K2)
  have HD2:=ae (Vv.out.kept3 K2 (fun _ _ _ x=>x.elim))
  have VF:=ae GH
  have IK:Hid (aa (fun k=>nb<=k) w w2):=Nw.out.trans (K2.mono (fun _ _ x=>x.elim))
  clear rh GH hX2 K2 b0' b1' b2' b3' b4' iB
  go_wp2
  obtain⟨w9,wu⟩:∃w9,w9=gp w2 rb (.bool false) (.int .i64 0) (.slice none 0 0) (.int .i64 0) (.slice none 0 0):=⟨_,rfl⟩
  have nT:=wu
  unfold gp at nT
  rw[<-nT]
  have Cd:w9.heap[rb]?=some (.cells #[.bool false,.int .i64 0,.slice none 0 0,.int .i64 0,.slice none 0 0] 31 (0,0)):=by rw[wu];exact fj VF.out _ _ _ _ _
  have K9:aa (fun k=>k=rb) w2 w9:=by rw[wu];exact dB _ _ _ _ _ _ _
  obtain⟨y0,y1,y2,y3,y4⟩:=bS Cd
  have hq:=zj oe zF.out nW.out HD2.out VF.out K9
  refine bodyPost_ret (v:=.tuple #[.agg #[.bool false,.int .i64 0,.slice none 0 0,.int .i64 0,.slice none 0 0],.bool true]) (by simp[results,Tryz.results13,go_sem,y0,y1,y2,y3,y4]) rfl ⟨⟨_,_,_,_,_,_,_,_,_,rfl⟩,.inl ⟨rn,hq⟩,IK.out.trans (K9.mono (fun k _ x=>by have x':k=rb:=x;have:=Rm.out;omega))⟩
 ·have sT:s.size<=60:=by omega
  have hG:=MT.out.chk
  obtain⟨sF,gS,S,hE⟩:=jl hG
  obtain⟨f,o,hf⟩:=Hs (b:=am s) (len:=s.size) hE (kE hG) (Nat.zero_le _) 1
  have AT:=Pc MT.out HTa.out sT hf
  have FZ:=ae AT
  have HF:=ae hf
  have Nj:¬(60:Int)<(s.size:Int):=by omega
  have hcr:=MT.out.cf.runs
  obtain⟨mr,hmr⟩:∃mr,mr=min cJ (o.rn+1):=⟨_,rfl⟩
  have qcY:mr<=1000000:=by rw[hmr];exact Nat.min_le_left _ _
  have VB:=ae hmr
  clear AT hf gS hmr
  by_cases hr:o.rn+1<=c.runs
  ·have hmc:¬(c.runs:Int)<(mr:Int):=by have:=VB.out;unfold cJ at this;omega
   have HMQ:Hid (mr=o.rn+1):=by have:=VB.out;unfold cJ at this;unfold Hid;omega
   go_enter Tryz.func13,Tryz.ntmps13
   go_wp2_with fail
   rw[<-mI,<-Dh]
   clear mI Dh
   refine FZ.out.mono ?_
   intro e' w1 hZ
   have K1:=hZ.kept
   obtain⟨B,T,tp,fp,tn,tc,fn,fc,he,hA,br,nn,t,s',r,hW,Ip,EJ,gC⟩:=hZ.ok hr
   have HKC:=ae gC
   clear gC
   have HA:=ae hA
   have HW:=ae hW
   clear hA hW
   subst he
   obtain⟨xi,Qa⟩:=zi VO.out MT.out Z8.out K1
   have X7:¬rb=pb:=fun x=>by
    obtain⟨Wy,bg,YJ,P,ρ,h1,_,_⟩:=MT.out.ex
    rw[<-x,PN.out]at h1;simp at h1
   have ry:w1.heap[rb]?=_:=K1.blk PN.out X7
   have UX:¬xb=rb:=xi.ne ry (by decide)
   obtain⟨y0,y1,y2,y3,y4,y5,y6,y7⟩:=fg xi
   have IA:=av y0
   have Yt:∀j,w1.frozen? ⟨xb,j,none⟩=false:=fun j=>bh (show ai w1 xb=_ from xi)
   have hxa:xb<wa.heap.size:=ag (show ai wa xb=_ from VO.out)
   obtain⟨ab,gu⟩:∃ab,ab=w1.heap.size:=⟨_,rfl⟩
   obtain⟨wb,rA⟩:∃wb,wb=(w1.setCell ⟨xb,6,none⟩ (.int .i64 (-1))).alloc (.cells #[.bool B,.int .i64 T,.slice tp tn tc,.int .i64 (cH o.ev).1,.slice fp fn fc] 31):=⟨_,rfl⟩
   have Kx:aa (fun k=>k=xb) w1 wb:=by rw[rA];exact((aa.refl (fun k=>k=xb) w1).setCell (p:=⟨xb,6,none⟩) (fun _=>rfl) _).alloc _
   have In:ji wb xb pb gb c (-1) rn:=by
    rw[rA]
    have h1:=zk xi (-1)
    exact((aa.refl (fun _=>False) _).alloc _).blk h1 (fun x=>x)
   obtain⟨Qf,M1⟩:=tz xi EJ Qa Kx
   have AX:wb.heap[rb]?=some (.cells #[.bool false,.int .i64 0,.slice none 0 0,.int .i64 0,.slice none 0 0] 31 (0,0)):=Kx.blk ry (fun x=>UX (Eq.symm x))
   have uu:wb.heap[ab]?=some (.cells #[.bool B,.int .i64 T,.slice tp tn tc,.int .i64 (cH o.ev).1,.slice fp fn fc] 31 (0,0)):=by
    rw[rA,gu]
    have:=heap_alloc_new (w1.setCell ⟨xb,6,none⟩ (.int .i64 (-1))) (.cells #[.bool B,.int .i64 T,.slice tp tn tc,.int .i64 (cH o.ev).1,.slice fp fn fc] 31)
    simpa using this
   have S1:¬rb=ab:=fun x=>by
    have:=ag (show ai w1 rb=_ from ry)
    omega
   have Yq:¬xb=ab:=In.ne uu (by decide)
   have KV:=pX hG sT M1 HF.out
   obtain⟨v0,v1,v2,v3,v4,v5,v6,v7⟩:=fg In
   have hvl:=av v0
   have HRP:=ae KV
   have VP:=ae In
   have VE:=ae Qf
   have Vv:=ae M1
   have IP:=ae AX
   have IG:=ae uu
   have HKx:=ae Kx
   have jE:=ae K1
   have Nw:Hid (aa (fun k=>nb<=k) w wb):=(MR.out.trans (K1.mono (fun k _ x=>by have x':k=pb:=x;omega))).trans (Kx.mono (fun k _ x=>by have x':k=xb:=x;omega))
   clear KV In Qf M1 AX uu Kx xi Qa EJ K1 ry hZ
   go_upto_region 3 with fail
   rw[<-rA,<-gu]
   clear rA gu y0 y1 y2 y3 y4 y5 y6 y7 IA Yt
   go_wp2_with fail
   refine HRP.out.mono ?_
   intro e2 w2 mx
   obtain⟨B2,T2,Vi,UB,Vh,Vg,UA,Uy,Qi,Gl⟩:=mx.ex
   rw[<-VB.out]at Qi
   subst Qi
   have K2:=mx.kept
   obtain⟨cb,sQ⟩:∃cb,cb=w2.heap.size:=⟨_,rfl⟩
   obtain⟨w3,gT⟩:∃w3,w3=w2.alloc (.cells #[.bool B2,.int .i64 T2,.slice Vi Vh Vg,.int .i64 (cH o.ev).1,.slice UB UA Uy] 31):=⟨_,rfl⟩
   have zP:aa (fun _=>False) w2 w3:=by rw[gT];exact(aa.refl _ w2).alloc _
   have Cx:aa (fun _=>False) wb w3:=K2.trans zP
   have C7:w3.heap[cb]?=some (.cells #[.bool B2,.int .i64 T2,.slice Vi Vh Vg,.int .i64 (cH o.ev).1,.slice UB UA Uy] 31 (0,0)):=by rw[gT,sQ];exact heap_alloc_new _ _
   have AA:w3.heap[ab]?=some (.cells #[.bool B,.int .i64 T,.slice tp tn tc,.int .i64 (cH o.ev).1,.slice fp fn fc] 31 (0,0)):=Cx.blk IG.out (fun x=>x)
   have sS:w3.heap[rb]?=some (.cells #[.bool false,.int .i64 0,.slice none 0 0,.int .i64 0,.slice none 0 0] 31 (0,0)):=Cx.blk IP.out (fun x=>x)
   have J4:ji w3 xb pb gb c (-1) rn:=Cx.blk VP.out (fun x=>x)
   have JX:=VE.out.same Cx
   have UD:=Vv.out.kept3 Cx (fun _ _ _ x=>x.elim)
   obtain⟨y0,y1,y2,y3,y4,y5,y6,y7⟩:=fg J4
   obtain⟨c0,c1,c2,c3,c4⟩:=bS AA
   have IA:=av y0
   have ri:=av c0
   have Nx:=ae Cx
   have HA2:=ae Gl
   have HX3:=ae J4
   have PM:=ae JX
   have Y6:=ae UD
   have Vt:=ae AA
   have VG:=ae sS
   have Z6:=ae C7
   have Vy:=ae zP
   have Hcb:Hid (wb.heap.size<=cb):=by unfold Hid;rw[sQ];exact K2.size
   obtain⟨w4,ib⟩:∃w4,w4=(w3.setCell ⟨xb,6,none⟩ (.int .i64 (s.size:Int))).setCell ⟨xb,7,none⟩ (.int .i64 (mr:Int)):=⟨_,rfl⟩
   have vu:aa (fun k=>k=xb) w3 w4:=by rw[ib];exact((aa.refl (fun k=>k=xb) w3).setCell (p:=⟨xb,6,none⟩) (fun _=>rfl) _).setCell (p:=⟨xb,7,none⟩) (fun _=>rfl) _
   have WT:ji w4 xb pb gb c (s.size:Int) (mr:Int):=by rw[ib];exact Pf (zk J4 _) _
   obtain⟨hP4,hD4⟩:=tz J4 JX UD vu
   have qbQ:¬xb=cb:=J4.ne C7 (by decide)
   have Gr:w4.heap[ab]?=some (.cells #[.bool B,.int .i64 T,.slice tp tn tc,.int .i64 (cH o.ev).1,.slice fp fn fc] 31 (0,0)):=vu.blk AA (fun x=>Yq (Eq.symm x))
   have W4:w4.heap[cb]?=some (.cells #[.bool B2,.int .i64 T2,.slice Vi Vh Vg,.int .i64 (cH o.ev).1,.slice UB UA Uy] 31 (0,0)):=vu.blk C7 (fun x=>qbQ (Eq.symm x))
   have wo:w4.heap[rb]?=some (.cells #[.bool false,.int .i64 0,.slice none 0 0,.int .i64 0,.slice none 0 0] 31 (0,0)):=vu.blk sS (fun x=>UX (Eq.symm x))
   have Yg:(jx 0 0 0 o).tr.length<=100000:=by
    have:=zc _ _ _ _ _ HF.out
    unfold jx
    cases o.to with
    | none=>simp
    | some t=>simp;omega
   have WB:=((HA.out.keep HKx.out (fun k x=>by have x':k=xb:=x;omega)).keep Nx.out (fun _ x=>x.elim)).keep vu (fun k x=>by have x':k=xb:=x;omega)
   have qdg:wa.heap.size<=wb.heap.size:=Nat.le_trans jE.out.size HKx.out.size
   have WC:=(Gl.keep Vy.out (fun _ x=>x.elim)).keep vu (fun k x=>by have x':k=xb:=x;omega)
   have Qx:=BB (WB.ana Yg) (WC.ana Yg)
   have qbR:∀j,w3.frozen? ⟨xb,j,none⟩=false:=fun j=>bh (show ai w3 xb=_ from J4)
   obtain⟨e0,e1,e2,e3,e4⟩:=bS Gr
   obtain⟨g0,g1,g2,g3,g4⟩:=bS W4
   have UP:=av e0
   have lV:=av g0
   have VJ:=ae Qx
   have qac:=ae vu
   have NB:=ae WT
   have HP4:=ae hP4
   have Z7:=ae hD4
   have Z2:=ae Gr
   have Nz:=ae wo
   clear Qx WB WC WT hP4 hD4 Gr W4 wo vu mx Gl K2 zP Cx C7 AA sS J4 JX UD v0 v1 v2 v3 v4 v5 v6 v7 hvl
   go_upto_region 7 with fail
   rw[<-gT,<-sQ]
   clear gT sQ
   go_upto_region 12 with fail
   rw[<-ib]
   clear ib c0 c1 c2 c3 c4 ri y0 y1 y2 y3 y4 y5 y6 y7 IA qbR
   go_wp2_with fail
   refine VJ.out.mono ?_
   rintro e5 w5 ⟨rfl,K5⟩
   have WU:=K5.blk Z2.out (fun x=>x)
   have Dg:w5.heap[rb]?=some (.cells #[.bool false,.int .i64 0,.slice none 0 0,.int .i64 0,.slice none 0 0] 31 (0,0)):=K5.blk Nz.out (fun x=>x)
   obtain⟨d0,d1,d2,d3,d4⟩:=bS WU
   obtain⟨r0,r1,r2,r3,r4⟩:=bS Dg
   have UO:=av d0
   have Cn:=av r0
   have KS:∀j,w5.frozen? ⟨rb,j,none⟩=false:=fun j=>bh (show ai w5 rb=_ from Dg)
   have hX5:ji w5 xb pb gb c (s.size:Int) (mr:Int):=K5.blk NB.out (fun x=>x)
   have HX5:=ae hX5
   have HP5:=ae (HP4.out.same K5)
   have HD5:=ae (Z7.out.kept3 K5 (fun _ _ _ x=>x.elim))
   have VH:=ae Dg
   have IK:Hid (aa (fun k=>nb<=k) w w5):=(((Nw.out.trans (Nx.out.mono (fun _ _ x=>x.elim))).trans (qac.out.mono (fun k _ x=>by have x':k=xb:=x;omega))).trans (K5.mono (fun _ _ x=>x.elim)))
   clear WU Dg hX5 K5 e0 e1 e2 e3 e4 UP g0 g1 g2 g3 g4 lV
   go_wp2
   obtain⟨w9,wu⟩:∃w9,w9=gp w5 rb (.bool B) (.int .i64 T) (.slice tp tn tc) (.int .i64 (cH o.ev).1) (.slice fp fn fc):=⟨_,rfl⟩
   have nT:=wu
   unfold gp at nT
   rw[<-nT]
   have Cd:w9.heap[rb]?=some (.cells #[.bool B,.int .i64 T,.slice tp tn tc,.int .i64 (cH o.ev).1,.slice fp fn fc] 31 (0,0)):=by rw[wu];exact fj VH.out _ _ _ _ _
   have K9:aa (fun k=>k=rb) w5 w9:=by rw[wu];exact dB _ _ _ _ _ _ _
   obtain⟨y0,y1,y2,y3,y4⟩:=bS Cd
   have hq:=zj oe HX5.out HP5.out HD5.out VH.out K9
   rw[HMQ.out]at hq
   refine bodyPost_ret (v:=.tuple #[.agg #[.bool B,.int .i64 T,.slice tp tn tc,.int .i64 (cH o.ev).1,.slice fp fn fc],.bool true]) (by simp[results,Tryz.results13,go_sem,y0,y1,y2,y3,y4]) rfl ⟨⟨_,_,_,_,_,_,_,_,_,rfl⟩,.inr ⟨sT,f,o,HF.out,hr,br,nn,t,s',r,HW.out,HKC.out,Ip,hq⟩,IK.out.trans (K9.mono (fun k _ x=>by have x':k=rb:=x;have:=Rm.out;omega))⟩
  ·have hmc:(c.runs:Int)<(mr:Int):=by have:=VB.out;unfold cJ at this;omega
   go_enter Tryz.func13,Tryz.ntmps13
   go_wp2_with fail
   rw[<-mI,<-Dh]
   clear mI Dh
   refine FZ.out.mono ?_
   intro e' w1 hZ
   have K1:=hZ.kept
   obtain⟨he,EJ⟩:=hZ.spent (by omega)
   unfold mZ at he
   subst he
   obtain⟨xi,Qa⟩:=zi VO.out MT.out Z8.out K1
   have X7:¬rb=pb:=fun x=>by
    obtain⟨Wy,bg,YJ,P,ρ,h1,_,_⟩:=MT.out.ex
    rw[<-x,PN.out]at h1;simp at h1
   have ry:w1.heap[rb]?=_:=K1.blk PN.out X7
   have UX:¬xb=rb:=xi.ne ry (by decide)
   obtain⟨y0,y1,y2,y3,y4,y5,y6,y7⟩:=fg xi
   have IA:=av y0
   have Yt:∀j,w1.frozen? ⟨xb,j,none⟩=false:=fun j=>bh (show ai w1 xb=_ from xi)
   have hxa:xb<wa.heap.size:=ag (show ai wa xb=_ from VO.out)
   obtain⟨ab,gu⟩:∃ab,ab=w1.heap.size:=⟨_,rfl⟩
   obtain⟨wb,rA⟩:∃wb,wb=(w1.setCell ⟨xb,6,none⟩ (.int .i64 (-1))).alloc (.cells #[.bool false,.int .i64 0,.slice none 0 0,.int .i64 0,.slice none 0 0] 31):=⟨_,rfl⟩
   have Kx:aa (fun k=>k=xb) w1 wb:=by rw[rA];exact((aa.refl (fun k=>k=xb) w1).setCell (p:=⟨xb,6,none⟩) (fun _=>rfl) _).alloc _
   have In:ji wb xb pb gb c (-1) rn:=by
    rw[rA]
    have h1:=zk xi (-1)
    exact((aa.refl (fun _=>False) _).alloc _).blk h1 (fun x=>x)
   obtain⟨Qf,M1⟩:=tz xi EJ Qa Kx
   have AX:wb.heap[rb]?=some (.cells #[.bool false,.int .i64 0,.slice none 0 0,.int .i64 0,.slice none 0 0] 31 (0,0)):=Kx.blk ry (fun x=>UX (Eq.symm x))
   have uu:wb.heap[ab]?=some (.cells #[.bool false,.int .i64 0,.slice none 0 0,.int .i64 0,.slice none 0 0] 31 (0,0)):=by
    rw[rA,gu]
    have:=heap_alloc_new (w1.setCell ⟨xb,6,none⟩ (.int .i64 (-1))) (.cells #[.bool false,.int .i64 0,.slice none 0 0,.int .i64 0,.slice none 0 0] 31)
    simpa using this
   have S1:¬rb=ab:=fun x=>by
    have:=ag (show ai w1 rb=_ from ry)
    omega
   have Yq:¬xb=ab:=In.ne uu (by decide)
   have KV:=pX hG sT M1 HF.out
   obtain⟨v0,v1,v2,v3,v4,v5,v6,v7⟩:=fg In
   have hvl:=av v0
   have HRP:=ae KV
   have VP:=ae In
   have VE:=ae Qf
   have Vv:=ae M1
   have IP:=ae AX
   have IG:=ae uu
   have HKx:=ae Kx
   have jE:=ae K1
   have Nw:Hid (aa (fun k=>nb<=k) w wb):=(MR.out.trans (K1.mono (fun k _ x=>by have x':k=pb:=x;omega))).trans (Kx.mono (fun k _ x=>by have x':k=xb:=x;omega))
   clear KV In Qf M1 AX uu Kx xi Qa EJ K1 ry hZ
   go_upto_region 3 with fail
   rw[<-rA,<-gu]
   clear rA gu y0 y1 y2 y3 y4 y5 y6 y7 IA Yt
   go_wp2_with fail
   refine HRP.out.mono ?_
   intro e2 w2 mx
   obtain⟨B2,T2,Vi,UB,Vh,Vg,UA,Uy,Qi,Gl⟩:=mx.ex
   rw[<-VB.out]at Qi
   subst Qi
   have K2:=mx.kept
   obtain⟨cb,sQ⟩:∃cb,cb=w2.heap.size:=⟨_,rfl⟩
   obtain⟨w3,gT⟩:∃w3,w3=w2.alloc (.cells #[.bool B2,.int .i64 T2,.slice Vi Vh Vg,.int .i64 (cH o.ev).1,.slice UB UA Uy] 31):=⟨_,rfl⟩
   have zP:aa (fun _=>False) w2 w3:=by rw[gT];exact(aa.refl _ w2).alloc _
   have Cx:aa (fun _=>False) wb w3:=K2.trans zP
   have C7:w3.heap[cb]?=some (.cells #[.bool B2,.int .i64 T2,.slice Vi Vh Vg,.int .i64 (cH o.ev).1,.slice UB UA Uy] 31 (0,0)):=by rw[gT,sQ];exact heap_alloc_new _ _
   have AA:w3.heap[ab]?=some (.cells #[.bool false,.int .i64 0,.slice none 0 0,.int .i64 0,.slice none 0 0] 31 (0,0)):=Cx.blk IG.out (fun x=>x)
   have sS:w3.heap[rb]?=some (.cells #[.bool false,.int .i64 0,.slice none 0 0,.int .i64 0,.slice none 0 0] 31 (0,0)):=Cx.blk IP.out (fun x=>x)
   have J4:ji w3 xb pb gb c (-1) rn:=Cx.blk VP.out (fun x=>x)
   have JX:=VE.out.same Cx
   have UD:=Vv.out.kept3 Cx (fun _ _ _ x=>x.elim)
   obtain⟨y0,y1,y2,y3,y4,y5,y6,y7⟩:=fg J4
   obtain⟨c0,c1,c2,c3,c4⟩:=bS AA
   have IA:=av y0
   have ri:=av c0
   have Nx:=ae Cx
   have HA2:=ae Gl
   have HX3:=ae J4
   have PM:=ae JX
   have Y6:=ae UD
   have Vt:=ae AA
   have VG:=ae sS
   have Z6:=ae C7
   have Vy:=ae zP
   have Hcb:Hid (wb.heap.size<=cb):=by unfold Hid;rw[sQ];exact K2.size
   have hz:=B4 w3
   unfold mZ at hz
   have HZ:=ae hz
   clear hz mx Gl K2 zP Cx C7 AA sS J4 JX UD v0 v1 v2 v3 v4 v5 v6 v7 hvl
   go_upto_region 7 with fail
   rw[<-gT,<-sQ]
   clear gT sQ
   go_wp2_with fail
   refine HZ.out.mono ?_
   rintro e4 w4 ⟨rfl,K4⟩
   have Gr:=K4.blk Vt.out (fun x=>x)
   have wo:w4.heap[rb]?=some (.cells #[.bool false,.int .i64 0,.slice none 0 0,.int .i64 0,.slice none 0 0] 31 (0,0)):=K4.blk VG.out (fun x=>x)
   obtain⟨d0,d1,d2,d3,d4⟩:=bS Gr
   obtain⟨r0,r1,r2,r3,r4⟩:=bS wo
   have UO:=av d0
   have Cn:=av r0
   have KS:∀j,w4.frozen? ⟨rb,j,none⟩=false:=fun j=>bh (show ai w4 rb=_ from wo)
   have WT:ji w4 xb pb gb c (-1) rn:=K4.blk HX3.out (fun x=>x)
   have NB:=ae WT
   have HP4:=ae (PM.out.same K4)
   have Z7:=ae (Y6.out.kept3 K4 (fun _ _ _ x=>x.elim))
   have Nz:=ae wo
   have IK:Hid (aa (fun k=>nb<=k) w w4):=((Nw.out.trans (Nx.out.mono (fun _ _ x=>x.elim))).trans (K4.mono (fun _ _ x=>x.elim)))
   clear Gr wo WT K4 c0 c1 c2 c3 c4 ri y0 y1 y2 y3 y4 y5 y6 y7 IA
   go_wp2
   obtain⟨w9,wu⟩:∃w9,w9=gp w4 rb (.bool false) (.int .i64 0) (.slice none 0 0) (.int .i64 0) (.slice none 0 0):=⟨_,rfl⟩
   have nT:=wu
   unfold gp at nT
   rw[<-nT]
   have Cd:w9.heap[rb]?=some (.cells #[.bool false,.int .i64 0,.slice none 0 0,.int .i64 0,.slice none 0 0] 31 (0,0)):=by rw[wu];exact fj Nz.out _ _ _ _ _
   have K9:aa (fun k=>k=rb) w4 w9:=by rw[wu];exact dB _ _ _ _ _ _ _
   obtain⟨y0,y1,y2,y3,y4⟩:=bS Cd
   have hq:=zj oe NB.out HP4.out Z7.out Nz.out K9
   refine bodyPost_ret (v:=.tuple #[.agg #[.bool false,.int .i64 0,.slice none 0 0,.int .i64 0,.slice none 0 0],.bool true]) (by simp[results,Tryz.results13,go_sem,y0,y1,y2,y3,y4]) rfl ⟨⟨_,_,_,_,_,_,_,_,_,rfl⟩,.inl ⟨rn,hq⟩,IK.out.trans (K9.mono (fun k _ x=>by have x':k=rb:=x;have:=Rm.out;omega))⟩
end Go.Proofs.YtagklnaaoclmhaaGreatDoor
