import Derived.Test.YtagklnaaoclmhaaGreatDoorMnDE
set_option linter.unusedSimpArgs false
set_option linter.unusedVariables false
set_option maxRecDepth 100000
set_option maxHeartbeats 16000000
namespace Go.Proofs.YtagklnaaoclmhaaGreatDoor
open Go.RowKit
attribute [local go_sem ↓] bw aX aZ aY aF bU bB bF bD cC bT bV cg bN
attribute [local go_sem] bc aQ aS bY bv aT aU aV aW aD bG bp bu bi bX bJ bK bx cA b9 cd bf aK au aN
theorem JJ {R:Rc}{f:Nat}(hR:If R)(hG:tJ R f){i a dp t base:Nat}{o:Ot}{tv:Value}{L:List iN}{w:World}(hi:i<R.ns.length)(ha:a<=R.s.size)(co:(ap R.ns i).kind=4)(hm:iP (fun j=>bR (am R.s) R.s.size R.rs R.ns f j a dp) (ap R.ns i).subs=some o)(eQ:o.to=some t)(hT:Gt R base tv L w)(hl:L.length+o.tr.length<=kA)(hdp:dp<=L.length):
  Calls Tryz.prog 90 #[.pointer (some ⟨R.fb,0,none⟩),.int .i64 (i:Int),.int .i64 (a:Int),.int .i64 (dp:Int)] w fun e w'=>vH R base tv (L++o.tr.map nI) t w e w':=by
 obtain⟨c,hS⟩:=hT.st
 obtain⟨f0,f1,f2,f3⟩:=di hS.fld.at_
 have mz:=av f0
 have eM:i<(aq R.G).1.ns.length:=hi
 obtain⟨g,iH,nc,v,gz,iR,yJ,gh,qz,NI,c9,dV⟩:=hS.rdy.rg.nodes.get eM
 obtain⟨g0,g1,gx⟩:=hS.rdy.rg.gis.cells
 rw[iR]at g0
 have dm:((w.alloc (.cells df 179)).setRow w.heap.size nc)=w.alloc (.cells nc 179):=World.setRow_alloc_new w df nc 179
 have ho:=cM NI.one
 have lE:Sz nc:=NI.size
 have hz:Sz df:=cy
 have gC:∀j,(w.alloc (.cells nc 179)).cell? ⟨w.heap.size,j,none⟩=nc[j]?:=fun j=>al (au w _)
 have wh:∀j o,((w.alloc (.cells nc 179)).alloc o).cell? ⟨w.heap.size,j,none⟩=nc[j]?:=fun j o=>al ((aN _ _ (by simp)).trans (au w _))
 have jo:ap R.ns i=(aq R.G).1.ns[i]:=bA hi
 have xY:=ae (Gs.start (nc:=nc) hT)
 have zL:=hR.n5
 have sT:=hR.s
 have hM:=fM hR f
 have yH:=hR.low i hi
 rw[jo]at co hm yH
 have eZ:=NI.kind
 have k6:=NI.subs
 unfold ee at eZ
 rw[co]at eZ
 obtain⟨ND,oa⟩:∃X,X=(aq R.G).1.ns[i]:=⟨_,rfl⟩
 rw[<-oa]at hm yH c9
 have HM:=ae hm
 have vI:=ae eQ
 have MU:=ae c9
 have HT:=ae hT
 have ws:=dG c9
 obtain⟨p0,oV,jH⟩:=an c9
 have R5:Hid (∀q,q<ND.subs.length->ND.subs.getD q 0<R.ns.length):=fF yH
 have Rg:=ae hl
 clear hm c9 dV gx jo oa yH eQ hT hS hl
 go_enter Tryz.func90,Tryz.ntmps90
 go_wp2_with fail
 obtain⟨kb,dx⟩:∃kb,kb=w.heap.size:=⟨_,rfl⟩
 obtain⟨tb,qA⟩:∃tb,tb=w.heap.size+1:=⟨_,rfl⟩
 rw[<-qA,<-dx]at xY
 rw[<-qA,<-dx]
 generalize oi:((w.alloc (.cells nc 179)).alloc (.cells (vj (0,0) 0) 185))=w0 at *
 clear dx qA dm gC wh oi
 go_loopg [11] ND.subs.length (fun gn v11 wz=>∃(q:Nat) (p:Ot),q<=ND.subs.length/\gn=ND.subs.length-q/\v11=.int .i64 q/\Hid (Gs R base w tv L kb tb nc wz)/\Hid (iP (fun j=>bR (am R.s) R.s.size R.rs R.ns f j a dp) (ND.subs.drop q)=some p/\p.to=some t/\p.tr=o.tr))
 case atStart=>exact⟨0,o,by omega,rfl,rfl,xY,HM.out,vI.out,rfl⟩
 case round=>
  obtain⟨q,p,hq,iI,rfl,HL,HP⟩:=hrel
  have lR:=ae iI
  clear iI
  obtain⟨zu,sM,dE⟩:=HL.out.ex
  obtain⟨far,rn,ju,oh,pA⟩:=HL.out.trc
  obtain⟨c1,iL⟩:=sM.st
  have cU:wr.cell? ⟨kb,261,none⟩=some v:=by rw[al HL.out.nod];exact k6
  have et:=HL.out.subs HT.out MU.out
  by_cases hqlt:q<ND.subs.length
  ·obtain⟨sb,iK,hv,kj⟩:=cD et hqlt
   rw[hv]at cU
   obtain⟨h1,h2,h3⟩:=HP.out
   rw[fH hqlt]at h1
   obtain⟨oj,vD,rq⟩:=Ad h1
   have hj:=R5.out q hqlt
   have bO:=hM (ND.subs.getD q 0) a dp oj tb far rn c1 zu wr hj ha vD iL ju oh pA
   have HC:=ae bO
   have HN:Hid (∀e w',fu R c1 zu oj a tb far rn wr e w'->Gs R base w tv L kb tb nc w'):=fun e w' hO=>HL.out.mat sM dE ju pA hO
   have Y8:=ae vD
   have xZ:=ae rq
   have VK:Hid (∀w',Gs R base w tv L kb tb nc w'->w'.cell? ⟨sb,q,none⟩=some (.int .i64 (ND.subs.getD q 0:Int))):=fun w' h=>by
    obtain⟨sb2,QN,sW,sU⟩:=cD (h.subs HT.out MU.out) hqlt
    rw[hv]at sW
    simp only[Value.slice.injEq,Option.some.injEq,Addr.mk.injEq,and_true,true_and]at sW
    rw[<-sW.1]at sU
    exact sU
   generalize ND.subs.getD q 0=j at *
   have H2:=ae h2
   have H3:=ae h3
   have mG:(q:Int)<(ND.subs.length:Int):=by omega
   have AG:j<=5000:=by omega
   clear h1 vD rq bO HP et iL h2 h3 jH sM dE ju oh pA
   go_wp2_with fail
   refine HC.out.mono ?_
   intro e w7 hO
   have he:=hO.res
   subst he
   have iM:=ae (HN.out _ _ hO)
   have Tn:w7.cell? ⟨kb,261,none⟩=some (.slice (some ⟨sb,0,none⟩) ND.subs.length iK):=by
    rw[al iM.out.nod,<-hv];exact k6
   have Dk:=VK.out w7 iM.out
   rcases xZ.out with⟨u,hu,rfl⟩ | ⟨hu,p2,lO,rfl⟩
   ·rw[hu]
    simp only[Option.getD_some,Option.isSome_some]
    obtain⟨QZ,J2,N9⟩:=iM.out.ex
    have sj:=hG j a dp p t base QZ L w7 hj ha Y8.out H2.out J2 (by rw[H3.out];exact Rg.out) hdp
    have IJ:=ae sj
    have Ri:Hid (∀e w',vH R base QZ (L++p.tr.map nI) t w7 e w'->Gs R base w tv (L++p.tr.map nI) kb tb nc w'):=fun e w' h=>iM.out.gro J2 N9 h
    clear hu xZ HC hO sj J2 N9 hv
    go_wp2_with fail
    refine IJ.out.mono ?_
    intro e w8 sI
    have Xf:=sI.res
    subst Xf
    have Rh:=ae (Ri.out _ _ sI)
    clear sI IJ
    go_wp2
    go_ret
    rw[<-H3.out]
    exact Rh.out.fin
   ·rw[hu]
    simp only[Option.getD_none,Option.isSome_none]
    have nW:=ae lO
    clear hu lO xZ HC hO hv
    go_wp2
    go_roundg (ND.subs.length-(q+1))
    case measure=>have:=lR.out;omega
    case rel=>exact⟨q+1,p2,by omega,rfl,by go_num,iM.out,nW.out,H2.out,H3.out⟩
  ·obtain⟨h1,h2,h3⟩:=HP.out
   rw[List.drop_of_length_le (by omega),iP]at h1
   have N0:=Option.some.inj h1
   rw[<-N0]at h2
   cases h2
theorem JM {R:Rc}{f:Nat}(hR:If R)(hG:tJ R f){i a dp t base:Nat}{o:Ot}{tv:Value}{L:List iN}{w:World}(hi:i<R.ns.length)(ha:a<=R.s.size)(co:(ap R.ns i).kind=5)(hm:iE (fun j a=>bR (am R.s) R.s.size R.rs R.ns f j a dp) (ap R.ns i).subs a=some o)(eQ:o.to=some t)(hT:Gt R base tv L w)(hl:L.length+o.tr.length<=kA)(hdp:dp<=L.length):
  Calls Tryz.prog 90 #[.pointer (some ⟨R.fb,0,none⟩),.int .i64 (i:Int),.int .i64 (a:Int),.int .i64 (dp:Int)] w fun e w'=>vH R base tv (L++o.tr.map nI) t w e w':=by
 obtain⟨c,hS⟩:=hT.st
 obtain⟨f0,f1,f2,f3⟩:=di hS.fld.at_
 have mz:=av f0
 have eM:i<(aq R.G).1.ns.length:=hi
 obtain⟨g,iH,nc,v,gz,iR,yJ,gh,qz,NI,c9,dV⟩:=hS.rdy.rg.nodes.get eM
 obtain⟨g0,g1,gx⟩:=hS.rdy.rg.gis.cells
 rw[iR]at g0
 have dm:((w.alloc (.cells df 179)).setRow w.heap.size nc)=w.alloc (.cells nc 179):=World.setRow_alloc_new w df nc 179
 have ho:=cM NI.one
 have lE:Sz nc:=NI.size
 have hz:Sz df:=cy
 have gC:∀j,(w.alloc (.cells nc 179)).cell? ⟨w.heap.size,j,none⟩=nc[j]?:=fun j=>al (au w _)
 have wh:∀j o,((w.alloc (.cells nc 179)).alloc o).cell? ⟨w.heap.size,j,none⟩=nc[j]?:=fun j o=>al ((aN _ _ (by simp)).trans (au w _))
 have jo:ap R.ns i=(aq R.G).1.ns[i]:=bA hi
 have xY:=ae (Gs.start (nc:=nc) hT)
 have zL:=hR.n5
 have sT:=hR.s
 have yH:=hR.low i hi
 have dA:=fun j a o t=>hR.at_ f j a dp o t
 rw[jo]at co hm yH
 have eZ:=NI.kind
 have k6:=NI.subs
 unfold ee at eZ
 rw[co]at eZ
 obtain⟨ND,oa⟩:∃X,X=(aq R.G).1.ns[i]:=⟨_,rfl⟩
 rw[<-oa]at hm yH c9
 have HM:=ae hm
 have vI:=ae eQ
 have MU:=ae c9
 have HT:=ae hT
 have ws:=dG c9
 obtain⟨p0,oV,jH⟩:=an c9
 have R5:Hid (∀q,q<ND.subs.length->ND.subs.getD q 0<R.ns.length):=fF yH
 have Rg:=ae hl
 clear hm c9 dV gx jo oa yH eQ hT hS hl
 go_enter Tryz.func90,Tryz.ntmps90
 go_wp2_with fail
 obtain⟨kb,dx⟩:∃kb,kb=w.heap.size:=⟨_,rfl⟩
 obtain⟨tb,qA⟩:∃tb,tb=w.heap.size+1:=⟨_,rfl⟩
 rw[<-qA,<-dx]at xY
 rw[<-qA,<-dx]
 generalize oi:((w.alloc (.cells nc 179)).alloc (.cells (vj (0,0) 0) 185))=w0 at *
 clear dx qA dm gC wh oi
 go_loopg [2,14] ND.subs.length (fun gn v2 v14 wz=>∃(q a':Nat) (p:Ot) (Lq:List iN),q<=ND.subs.length/\gn=ND.subs.length-q/\a'<=R.s.size/\v2=.int .i64 a'/\v14=.int .i64 q/\Hid (Gs R base w tv Lq kb tb nc wz)/\Hid (iE (fun j a=>bR (am R.s) R.s.size R.rs R.ns f j a dp) (ND.subs.drop q) a'=some p/\p.to=some t/\Lq++p.tr.map nI=L++o.tr.map nI/\L.length<=Lq.length))
 case atStart=>exact⟨0,a,o,L,by omega,rfl,ha,rfl,rfl,xY,HM.out,vI.out,rfl,Nat.le_refl _⟩
 case round=>
  obtain⟨q,a',p,Lq,hq,iI,J5,rfl,rfl,HL,HP⟩:=hrel
  have lR:=ae iI
  clear iI
  obtain⟨zu,sM,dE⟩:=HL.out.ex
  have cU:wr.cell? ⟨kb,261,none⟩=some v:=by rw[al HL.out.nod];exact k6
  have et:=HL.out.subs HT.out MU.out
  by_cases hqlt:q<ND.subs.length
  ·obtain⟨sb,iK,hv,kj⟩:=cD et hqlt
   rw[hv]at cU
   obtain⟨h1,h2,h3,h4⟩:=HP.out
   rw[fH hqlt]at h1
   obtain⟨oj,vD,rq⟩:=BL h1
   rcases rq with⟨_,hpn,_,_⟩ | ⟨u,hu,p2,lO,rfl⟩
   ·rw[hpn]at h2;cases h2
   have hj:=R5.out q hqlt
   have Gk:p2.to=some t:=h2
   have e5:(if p2.to.isSome then oj.tr++p2.tr else [])=oj.tr++p2.tr:=by rw[Gk];rfl
   have MY:Lq++(oj.tr.map nI++p2.tr.map nI)=L++o.tr.map nI:=by
    have h6:Lq++(if p2.to.isSome then oj.tr++p2.tr else []).map nI=L++o.tr.map nI:=h3
    rw[e5,List.map_append]at h6;exact h6
   have eI:Lq.length+oj.tr.length<=kA:=by
    have h7:=congrArg List.length MY
    simp only[List.length_append,List.length_map]at h7
    have:=Rg.out
    omega
   have GN:=(dA _ a' oj u hj J5 vD hu).2
   have sj:=hG (ND.subs.getD q 0) a' dp oj u base zu Lq wr hj J5 vD hu sM eI (by omega)
   have IJ:=ae sj
   have Ri:Hid (∀e w',vH R base zu (Lq++oj.tr.map nI) u wr e w'->Gs R base w tv (Lq++oj.tr.map nI) kb tb nc w'):=fun e w' h=>HL.out.gro sM dE h
   generalize ND.subs.getD q 0=j at *
   have H2:=ae Gk
   have H3:Hid (Lq++oj.tr.map nI++p2.tr.map nI=L++o.tr.map nI):=by unfold Hid;rw[List.append_assoc];exact MY
   have nW:=ae lO
   have HLE:Hid (L.length<=(Lq++oj.tr.map nI).length):=by unfold Hid;rw[List.length_append];omega
   have mG:(q:Int)<(ND.subs.length:Int):=by omega
   have AG:j<=5000:=by omega
   clear h1 vD HP et h2 Gk h3 MY jH sM dE sj hu lO e5 eI h4 hv
   go_wp2_with fail
   refine IJ.out.mono ?_
   intro e w7 hO
   have he:=hO.res
   subst he
   have iM:=ae (Ri.out _ _ hO)
   clear hO IJ
   go_wp2
   go_roundg (ND.subs.length-(q+1))
   case measure=>have:=lR.out;omega
   case rel=>exact⟨q+1,u,p2,_,by omega,rfl,GN,rfl,by go_num,iM.out,nW.out,H2.out,H3.out,HLE.out⟩
  ·obtain⟨h1,h2,h3,h4⟩:=HP.out
   rw[List.drop_of_length_le (by omega),iE]at h1
   have N0:=Option.some.inj h1
   rw[<-N0]at h2 h3
   have Gk:a'=t:=by simpa using h2
   have MY:Lq=L++o.tr.map nI:=by simpa using h3
   subst Gk
   have H3:=ae MY
   rw[jH]at cU
   clear h1 h2 h3 MY HP jH et sM dE N0
   go_wp2
   go_ret
   rw[<-H3.out]
   exact HL.out.fin
theorem LP {step:Nat->Option Ot}{n a:Nat}{p:Ot}(h:gy step n a=some p):∃g,n=g+1/\∃oj,step a=some oj/\((oj.to=none/\p.to=some a/\p.tr=[])\/(∃u,oj.to=some u/\∃p2,gy step g u=some p2/\p.to=p2.to/\p.tr=oj.tr++p2.tr)):=by
 cases n with
 | zero=>rw[gy]at h;cases h
 | succ g=>
  refine⟨g,rfl,?_⟩
  rw[gy]at h
  cases hx:step a with
  | none=>rw[hx]at h;cases h
  | some oj=>
   rw[hx]at h
   simp only at h
   refine⟨oj,rfl,?_⟩
   cases eQ:oj.to with
   | none=>
    rw[eQ]at h
    have h':=Option.some.inj h
    subst h'
    exact .inl ⟨rfl,rfl,rfl⟩
   | some u=>
    rw[eQ]at h
    simp only at h
    cases hl:gy step g u with
    | none=>rw[hl]at h;cases h
    | some p2=>
     rw[hl]at h
     simp only[Option.map_some,Option.some.injEq]at h
     subst h
     exact .inr ⟨u,rfl,p2,hl,rfl,rfl⟩
theorem At {R:Rc}{f:Nat}(hR:If R)(hG:tJ R f){i a dp t base n x:Nat}{o:Ot}{tv:Value}{L:List iN}{w:World}(hi:i<R.ns.length)(ha:a<=R.s.size)(co:(ap R.ns i).kind=7\/(ap R.ns i).kind=8)(hx:(ap R.ns i).subs=[x])(oL:x<R.ns.length)(hm:gy (fun a=>bR (am R.s) R.s.size R.rs R.ns f x a dp) n a=some o)(eQ:o.to=some t)(hT:Gt R base tv L w)(hl:L.length+o.tr.length<=kA)(hdp:dp<=L.length):
  Calls Tryz.prog 90 #[.pointer (some ⟨R.fb,0,none⟩),.int .i64 (i:Int),.int .i64 (a:Int),.int .i64 (dp:Int)] w fun e w'=>vH R base tv (L++o.tr.map nI) t w e w':=by
 obtain⟨c,hS⟩:=hT.st
 obtain⟨f0,f1,f2,f3⟩:=di hS.fld.at_
 have mz:=av f0
 have eM:i<(aq R.G).1.ns.length:=hi
 obtain⟨g,iH,nc,v,gz,iR,yJ,gh,qz,NI,c9,dV⟩:=hS.rdy.rg.nodes.get eM
 obtain⟨g0,g1,gx⟩:=hS.rdy.rg.gis.cells
 rw[iR]at g0
 have dm:((w.alloc (.cells df 179)).setRow w.heap.size nc)=w.alloc (.cells nc 179):=World.setRow_alloc_new w df nc 179
 have ho:=cM NI.one
 have lE:Sz nc:=NI.size
 have hz:Sz df:=cy
 have gC:∀j,(w.alloc (.cells nc 179)).cell? ⟨w.heap.size,j,none⟩=nc[j]?:=fun j=>al (au w _)
 have wh:∀j o,((w.alloc (.cells nc 179)).alloc o).cell? ⟨w.heap.size,j,none⟩=nc[j]?:=fun j o=>al ((aN _ _ (by simp)).trans (au w _))
 have jo:ap R.ns i=(aq R.G).1.ns[i]:=bA hi
 have xY:=ae (Gs.start (nc:=nc) hT)
 have zL:=hR.n5
 have sT:=hR.s
 have hM:=fM hR f
 have dA:=fun a o t=>hR.at_ f x a dp o t
 rw[jo]at co hx
 have eZ:=NI.kind
 have k6:=NI.subs
 unfold ee at eZ
 obtain⟨ND,oa⟩:∃X,X=(aq R.G).1.ns[i]:=⟨_,rfl⟩
 rw[<-oa]at hx c9 eZ co
 obtain⟨K,hK⟩:∃K,K=ND.kind:=⟨_,rfl⟩
 rw[<-hK]at eZ co
 have q6:((K:Int) == 6)=false:=beq_eq_false_iff_ne.2 (by omega)
 have HM:=ae hm
 have vI:=ae eQ
 have MU:=ae c9
 have HT:=ae hT
 have HX:=ae hx
 have Rg:=ae hl
 have tK:=ae co
 have hKl:K<=10:=by omega
 clear hm c9 dV gx jo oa eQ hT hS hl hx hK NI
 have key:∀(w9:World) (ac:Act),True:=fun _ _=>trivial
 clear key
 rcases co with co | co
 all_goals
  subst co
  go_enter Tryz.func90,Tryz.ntmps90
  go_wp2_with fail
  obtain⟨kb,dx⟩:∃kb,kb=w.heap.size:=⟨_,rfl⟩
  obtain⟨tb,qA⟩:∃tb,tb=w.heap.size+1:=⟨_,rfl⟩
  rw[<-qA,<-dx]at xY
  rw[<-qA,<-dx]
  generalize oi:((w.alloc (.cells nc 179)).alloc (.cells (vj (0,0) 0) 185))=w0 at *
  clear dx qA dm gC wh oi
  go_loopg [2] n (fun gn v2 wz=>∃(a':Nat) (p:Ot) (Lq:List iN),a'<=R.s.size/\v2=.int .i64 a'/\Hid (Gs R base w tv Lq kb tb nc wz)/\Hid (gy (fun a=>bR (am R.s) R.s.size R.rs R.ns f x a dp) gn a'=some p/\p.to=some t/\Lq++p.tr.map nI=L++o.tr.map nI/\L.length<=Lq.length))
  case atStart=>exact⟨a,o,L,ha,rfl,xY,HM.out,vI.out,rfl,Nat.le_refl _⟩
  case round=>
   obtain⟨a',p,Lq,J5,rfl,HL,HP⟩:=hrel
   obtain⟨zu,sM,dE⟩:=HL.out.ex
   obtain⟨far,rn,ju,oh,pA⟩:=HL.out.trc
   obtain⟨c1,iL⟩:=sM.st
   have cU:wr.cell? ⟨kb,261,none⟩=some v:=by rw[al HL.out.nod];exact k6
   have et:=HL.out.subs HT.out MU.out
   obtain⟨sb,iK,hv,kj⟩:=cD et (k:=0) (by rw[HX.out];simp)
   rw[HX.out]at hv kj
   simp only[List.length_cons,List.length_nil,List.getD_cons_zero]at hv kj
   rw[hv]at cU
   obtain⟨h1,h2,h3,h4⟩:=HP.out
   obtain⟨gg,Ko,oj,vD,rq⟩:=LP h1
   have bO:=hM x a' dp oj tb far rn c1 zu wr oL J5 vD iL ju oh pA
   have HC:=ae bO
   have HN:Hid (∀e w',fu R c1 zu oj a' tb far rn wr e w'->Gs R base w tv Lq kb tb nc w'):=fun e w' hO=>HL.out.mat sM dE ju pA hO
   have Y8:=ae vD
   have xZ:=ae rq
   have HGG:=ae Ko
   have VK:Hid (∀w',Gs R base w tv Lq kb tb nc w'->w'.cell? ⟨sb,0,none⟩=some (.int .i64 (x:Int))):=fun w' h=>by
    obtain⟨sb2,QN,sW,sU⟩:=cD (h.subs HT.out MU.out) (k:=0) (by rw[HX.out];simp)
    rw[HX.out]at sW sU
    simp only[List.length_cons,List.length_nil,List.getD_cons_zero]at sW sU
    rw[hv]at sW
    simp only[Value.slice.injEq,Option.some.injEq,Addr.mk.injEq,and_true,true_and]at sW
    rw[<-sW.1]at sU
    exact sU
   have H2:=ae h2
   have H3:=ae h3
   have H4:=ae h4
   have E3:x<=5000:=by omega
   clear h1 vD rq bO HP et iL h2 h3 h4 sM dE ju oh pA Ko
   go_wp2_with fail
   refine HC.out.mono ?_
   intro e w7 hO
   have he:=hO.res
   subst he
   have iM:=ae (HN.out _ _ hO)
   have Tn:w7.cell? ⟨kb,261,none⟩=some (.slice (some ⟨sb,0,none⟩) 1 iK):=by
    rw[al iM.out.nod,<-hv];exact k6
   have Dk:=VK.out w7 iM.out
   rcases xZ.out with⟨hu,ia,hptr⟩ | ⟨u,hu,p2,lO,ia,hptr⟩
   ·rw[hu]
    simp only[Option.getD_none,Option.isSome_none]
    have e1:a'=t:=by have:=H2.out;rw[ia]at this;exact Option.some.inj this
    have H5:Hid (Lq=L++o.tr.map nI):=by have:=H3.out;rw[hptr]at this;simpa [Hid] using this
    subst e1
    clear hu xZ HC hO hv ia hptr
    go_wp2
    go_ret
    rw[<-H5.out]
    exact iM.out.fin
   ·rw[hu]
    simp only[Option.getD_some,Option.isSome_some]
    obtain⟨QZ,J2,N9⟩:=iM.out.ex
    have GN:=(dA a' oj u oL J5 Y8.out hu).2
    have MY:Lq++(oj.tr.map nI++p2.tr.map nI)=L++o.tr.map nI:=by have h6:=H3.out;rw[hptr,List.map_append]at h6;exact h6
    have eI:Lq.length+oj.tr.length<=kA:=by
     have h7:=congrArg List.length MY
     simp only[List.length_append,List.length_map]at h7
     have:=Rg.out
     omega
    have sj:=hG x a' dp oj u base QZ Lq w7 oL J5 Y8.out hu J2 eI (by have:=H4.out;omega)
    have IJ:=ae sj
    have Ri:Hid (∀e w',vH R base QZ (Lq++oj.tr.map nI) u w7 e w'->Gs R base w tv (Lq++oj.tr.map nI) kb tb nc w'):=fun e w' h=>iM.out.gro J2 N9 h
    have H5:Hid (p2.to=some t):=by have:=H2.out;rw[ia]at this;exact this
    have H6:Hid (Lq++oj.tr.map nI++p2.tr.map nI=L++o.tr.map nI):=by unfold Hid;rw[List.append_assoc];exact MY
    have H7:Hid (L.length<=(Lq++oj.tr.map nI).length):=by unfold Hid;rw[List.length_append];have:=H4.out;omega
    have nW:=ae lO
    clear hu xZ HC hO hv ia hptr lO MY eI sj J2 N9
    go_wp2_with fail
    refine IJ.out.mono ?_
    intro e w8 sI
    have Xf:=sI.res
    subst Xf
    have Rh:=ae (Ri.out _ _ sI)
    have Yv:w8.cell? ⟨kb,0,none⟩=nc[0]?:=al Rh.out.nod
    rw[eZ]at Yv
    clear sI IJ
    go_wp2
    go_roundg gg
    case measure=>have:=HGG.out;omega
    case rel=>exact⟨u,p2,_,GN,rfl,Rh.out,nW.out,H5.out,H6.out,H7.out⟩
theorem JK {R:Rc}{f:Nat}(hR:If R)(hG:tJ R f){i a dp t base x:Nat}{p o:Ot}{tv:Value}{L:List iN}{w:World}(hi:i<R.ns.length)(ha:a<=R.s.size)(co:(ap R.ns i).kind=6)(hx:(ap R.ns i).subs=[x])(oL:x<R.ns.length)(hm:bR (am R.s) R.s.size R.rs R.ns f x a dp=some p)(eQ:o.to=some t)(OH:(p.to=none/\t=a/\o.tr=[])\/(p.to=some t/\o.tr=p.tr))(hT:Gt R base tv L w)(hl:L.length+o.tr.length<=kA)(hdp:dp<=L.length):
  Calls Tryz.prog 90 #[.pointer (some ⟨R.fb,0,none⟩),.int .i64 (i:Int),.int .i64 (a:Int),.int .i64 (dp:Int)] w fun e w'=>vH R base tv (L++o.tr.map nI) t w e w':=by
 obtain⟨c,hS⟩:=hT.st
 obtain⟨f0,f1,f2,f3⟩:=di hS.fld.at_
 have mz:=av f0
 have eM:i<(aq R.G).1.ns.length:=hi
 obtain⟨g,iH,nc,v,gz,iR,yJ,gh,qz,NI,c9,dV⟩:=hS.rdy.rg.nodes.get eM
 obtain⟨g0,g1,gx⟩:=hS.rdy.rg.gis.cells
 rw[iR]at g0
 have dm:((w.alloc (.cells df 179)).setRow w.heap.size nc)=w.alloc (.cells nc 179):=World.setRow_alloc_new w df nc 179
 have ho:=cM NI.one
 have lE:Sz nc:=NI.size
 have hz:Sz df:=cy
 have gC:∀j,(w.alloc (.cells nc 179)).cell? ⟨w.heap.size,j,none⟩=nc[j]?:=fun j=>al (au w _)
 have wh:∀j o,((w.alloc (.cells nc 179)).alloc o).cell? ⟨w.heap.size,j,none⟩=nc[j]?:=fun j o=>al ((aN _ _ (by simp)).trans (au w _))
 have jo:ap R.ns i=(aq R.G).1.ns[i]:=bA hi
 have xY:=ae (Gs.start (nc:=nc) hT)
 have zL:=hR.n5
 have sT:=hR.s
 have hM:=fM hR f
 rw[jo]at co hx
 have eZ:=NI.kind
 have k6:=NI.subs
 unfold ee at eZ
 rw[co]at eZ
 obtain⟨ND,oa⟩:∃X,X=(aq R.G).1.ns[i]:=⟨_,rfl⟩
 rw[<-oa]at hx c9
 have HM:=ae hm
 have HPO:=ae OH
 have MU:=ae c9
 have HT:=ae hT
 have HX:=ae hx
 have Rg:=ae hl
 clear hm c9 dV gx jo oa eQ hT hS hl hx NI co OH
 go_enter Tryz.func90,Tryz.ntmps90
 go_wp2_with fail
 obtain⟨kb,dx⟩:∃kb,kb=w.heap.size:=⟨_,rfl⟩
 obtain⟨tb,qA⟩:∃tb,tb=w.heap.size+1:=⟨_,rfl⟩
 rw[<-qA,<-dx]at xY
 rw[<-qA,<-dx]
 generalize oi:((w.alloc (.cells nc 179)).alloc (.cells (vj (0,0) 0) 185))=w0 at *
 clear dx qA dm gC wh oi
 go_loopg [2] 0 (fun gn v2 wz=>v2=.int .i64 a/\Hid (Gs R base w tv L kb tb nc wz))
 case atStart=>exact⟨rfl,xY⟩
 case round=>
  obtain⟨rfl,HL⟩:=hrel
  obtain⟨zu,sM,dE⟩:=HL.out.ex
  obtain⟨far,rn,ju,oh,pA⟩:=HL.out.trc
  obtain⟨c1,iL⟩:=sM.st
  have cU:wr.cell? ⟨kb,261,none⟩=some v:=by rw[al HL.out.nod];exact k6
  have et:=HL.out.subs HT.out MU.out
  obtain⟨sb,iK,hv,kj⟩:=cD et (k:=0) (by rw[HX.out];simp)
  rw[HX.out]at hv kj
  simp only[List.length_cons,List.length_nil,List.getD_cons_zero]at hv kj
  rw[hv]at cU
  have bO:=hM x a dp p tb far rn c1 zu wr oL ha HM.out iL ju oh pA
  have HC:=ae bO
  have HN:Hid (∀e w',fu R c1 zu p a tb far rn wr e w'->Gs R base w tv L kb tb nc w'):=fun e w' hO=>HL.out.mat sM dE ju pA hO
  have VK:Hid (∀w',Gs R base w tv L kb tb nc w'->w'.cell? ⟨sb,0,none⟩=some (.int .i64 (x:Int))):=fun w' h=>by
   obtain⟨sb2,QN,sW,sU⟩:=cD (h.subs HT.out MU.out) (k:=0) (by rw[HX.out];simp)
   rw[HX.out]at sW sU
   simp only[List.length_cons,List.length_nil,List.getD_cons_zero]at sW sU
   rw[hv]at sW
   simp only[Value.slice.injEq,Option.some.injEq,Addr.mk.injEq,and_true,true_and]at sW
   rw[<-sW.1]at sU
   exact sU
  have E3:x<=5000:=by omega
  clear bO et iL sM dE ju oh pA
  go_wp2_with fail
  refine HC.out.mono ?_
  intro e w7 hO
  have he:=hO.res
  subst he
  have iM:=ae (HN.out _ _ hO)
  have Tn:w7.cell? ⟨kb,261,none⟩=some (.slice (some ⟨sb,0,none⟩) 1 iK):=by
   rw[al iM.out.nod,<-hv];exact k6
  have Dk:=VK.out w7 iM.out
  rcases HPO.out with⟨hu,e1,hptr⟩ | ⟨hu,hptr⟩
  ·rw[hu]
   simp only[Option.getD_none,Option.isSome_none]
   have H5:=ae hptr
   subst e1
   clear hu HC hO hv hptr
   go_wp2
   go_ret
   rw[H5.out,List.map_nil,List.append_nil]
   exact iM.out.fin
  ·rw[hu]
   simp only[Option.getD_some,Option.isSome_some]
   obtain⟨QZ,J2,N9⟩:=iM.out.ex
   have sj:=hG x a dp p t base QZ L w7 oL ha HM.out hu J2 (by rw[<-hptr];exact Rg.out) hdp
   have IJ:=ae sj
   have Ri:Hid (∀e w',vH R base QZ (L++p.tr.map nI) t w7 e w'->Gs R base w tv (L++p.tr.map nI) kb tb nc w'):=fun e w' h=>iM.out.gro J2 N9 h
   have H5:=ae hptr
   clear hu HC hO hv hptr sj J2 N9
   go_wp2_with fail
   refine IJ.out.mono ?_
   intro e w8 sI
   have Xf:=sI.res
   subst Xf
   have Rh:=ae (Ri.out _ _ sI)
   have Yv:w8.cell? ⟨kb,0,none⟩=nc[0]?:=al Rh.out.nod
   rw[eZ]at Yv
   clear sI IJ
   go_wp2
   go_ret
   rw[H5.out]
   exact Rh.out.fin
end Go.Proofs.YtagklnaaoclmhaaGreatDoor
