import Derived.Test.YtagklnaaoclmhaaGreatDoorMnCB
set_option linter.unusedSimpArgs false
set_option linter.unusedVariables false
set_option maxRecDepth 100000
set_option maxHeartbeats 16000000
namespace Go.Proofs.YtagklnaaoclmhaaGreatDoor
open Go.RowKit
def Sz (c:Array Value):Prop:=c.size=262
theorem bY (W:World)(c c':Array Value)(k:Nat)(h:Sz c)(h':Sz c')(h1:kB c'=true):kG Tryz.prog (some (.cells c 179 (0,0))) k c' W=.ok .skip (W.setRow k c'):=dX W c c' k h h' h1
attribute [local go_sem ↓] bw aX aZ aY aF
attribute [local go_sem] bc aQ aS bY bv aT aU aV aW aD bf aK au aN
theorem Wo {rs:List Rl}{N:Nd}{L:List Bool}{o:Bool}(h:N.kind=0):vy rs N L o=N.text.isEmpty:=by simp[vy,h]
theorem Ez {rs:List Rl}{N:Nd}{L:List Bool}{o:Bool}(h:N.kind=6\/N.kind=7\/N.kind=9\/N.kind=10):vy rs N L o=true:=by
 unfold vy;rw[if_neg (by omega),if_neg (by omega),if_pos h]
theorem Wq {rs:List Rl}{N:Nd}{L:List Bool}{o:Bool}(h:N.kind=3):vy rs N L o=L.getD ((rs.map Rl.is).getD ((dg rs N.name).getD 0) 0) false:=by simp[vy,h]
theorem Wv {rs:List Rl}{N:Nd}{L:List Bool}{o:Bool}(h:N.kind=8):vy rs N L o=L.getD (N.subs.getD 0 0) false:=by simp[vy,h]
theorem Ws {rs:List Rl}{N:Nd}{L:List Bool}{o:Bool}(h:N.kind=4):vy rs N L o=(o||N.subs.any (fun j=>L.getD j false)):=by simp[vy,h]
theorem Wu {rs:List Rl}{N:Nd}{L:List Bool}{o:Bool}(h:N.kind=5):vy rs N L o=N.subs.all (fun j=>L.getD j false):=by simp[vy,h]
theorem Wp {rs:List Rl}{N:Nd}{L:List Bool}{o:Bool}(h:N.kind=1\/N.kind=2):vy rs N L o=o:=by
 unfold vy;rw[if_neg (by omega),if_neg (by omega),if_neg (by omega),if_neg (by omega),if_neg (by omega),if_neg (by omega)]
theorem Ge (b base:Nat)(s:ByteArray)(nv rv:Value)(U:Nat->Prop)(A:St)(rs:List Rl)(w:World)(hR:lS w base b s nv rv U A rs)(hW:lK A.ns rs)
  (hN:∀N∈A.ns,N.kind=3->(dg rs N.name).isSome=true) (hn:A.ns.length<=5000):
  Calls Tryz.prog 87 #[.pointer (some ⟨b,0,none⟩)] w fun e w'=>e=.returned (.slice (some ⟨w.heap.size,0,none⟩) A.ns.length A.ns.length)/\aA w' w.heap.size (ir rs A.ns)/\aa (fun _=>False) w w':=by
 obtain⟨i0,iC,gH,iD,iz⟩:=info_parts E8
 have Ni:∃p' kT,nv=.slice p' A.ns.length kT:=by obtain⟨cs,_,ho,_⟩:=hR.rg.nodes;exact an ho
 obtain⟨p',kT,iR⟩:=Ni
 obtain⟨c0,c1,c2,c3,c4,c5,c6⟩:=hR.rg.gis.cells
 rw[iR]at c0
 have GC:=hW.len
 have HEM:Hid (ir rs A.ns=emp rs A.ns (A.ns.length+1)):=rfl
 have gV:=hR.rg.hb
 go_enter Tryz.func87,Tryz.ntmps87
 have ld:=mkB w A.ns.length hn
 go_wp2_with fail
 have sh:aA (w.alloc (.cells (Array.replicate A.ns.length (.bool false)) 4)) w.heap.size (List.replicate A.ns.length false):=rG w _
 have dd:aa (fun _=>False) w (w.alloc (.cells (Array.replicate A.ns.length (.bool false)) 4)):=(aa.refl _ w).alloc _
 have jM:=hR.alloc (.cells (Array.replicate A.ns.length (.bool false)) 4)
 clear ld
 generalize dZ:w.alloc (.cells (Array.replicate A.ns.length (.bool false)) 4)=w1 at *
 clear dZ
 obtain⟨eb,tg⟩:∃eb,eb=w.heap.size:=⟨_,rfl⟩
 rw[<-tg]at sh ⊢
 have Zc:=ae tg
 have XF:∀r,(emp rs A.ns r).length=A.ns.length:=fY rs A.ns
 clear tg
 go_loopg [4] (A.ns.length+1) (fun gn v wx=>∃r:Nat,r<=A.ns.length+1/\gn=A.ns.length+1-r/\v=.int .i64 r/\aA wx eb (emp rs A.ns r)/\aa (·=eb) w1 wx)
 case atStart=>exact⟨0,by omega,rfl,rfl,sh,aa.refl _ _⟩
 case round=>
  obtain⟨r,hr,Oh,rfl,P9,vU⟩:=hrel
  obtain⟨wx,hwx⟩:∃m,m=wr:=⟨wr,rfl⟩
  subst hwx
  obtain⟨m,hm⟩:∃m,m=gk:=⟨gk,rfl⟩
  subst hm
  have HGR:=ae Oh
  clear Oh
  have hRx:=jM.bools sh vU
  obtain⟨d0,d1,d2,d3,d4,d5,d6⟩:=hRx.rg.gis.cells
  rw[iR]at d0
  by_cases gW:r<=A.ns.length
  ·go_wp2_with fail
   go_loopg [5] A.ns.length (fun gn v wz=>∃k:Nat,k<=A.ns.length/\gn=A.ns.length-k/\v=.int .i64 k/\aA wz eb (rS rs A.ns k (emp rs A.ns r))/\aa (·=eb) w1 wz)
   case atStart=>exact⟨0,by omega,rfl,rfl,P9,vU⟩
   case round=>
    obtain⟨k,hk,zK,rfl,Ij,zH⟩:=hrel
    obtain⟨wy,hwy⟩:∃m,m=wr:=⟨wr,rfl⟩
    subst hwy
    obtain⟨m2,AN⟩:∃m,m=gk:=⟨gk,rfl⟩
    subst AN
    have UF:=jM.bools sh zH
    obtain⟨e0,e1,e2,e3,e4,e5,e6⟩:=UF.rg.gis.cells
    rw[iR]at e0
    by_cases bj:k<A.ns.length
    ·have qb6:(rS rs A.ns k (emp rs A.ns r)).length=A.ns.length:=by rw[lx,XF]
     generalize hLL:rS rs A.ns k (emp rs A.ns r)=L at *
     obtain⟨g,iH,c,v,gz,SQ,yJ,gh,qz,NI,c9,_⟩:=UF.rg.nodes.get bj
     rw[iR]at SQ
     simp only[Value.slice.injEq]at SQ
     obtain⟨hp,_,fO⟩:=SQ
     subst hp fO
     obtain⟨kb,dx⟩:∃kb,kb=wy.heap.size:=⟨_,rfl⟩
     have dm:((wy.alloc (.cells df 179)).setRow wy.heap.size c)=wy.alloc (.cells c 179):=World.setRow_alloc_new wy df c 179
     have ho:=cM NI.one
     have lE:Sz c:=NI.size
     have hz:Sz df:=cy
     have gC:∀j,(wy.alloc (.cells c 179)).cell? ⟨wy.heap.size,j,none⟩=c[j]?:=fun j=>al (au wy _)
     have tg:=ag Ij
     have Zu:k<L.length:=by omega
     have ri:∀o,(wy.alloc (.cells c 179)).cell? ⟨eb,o,none⟩=wy.cell? ⟨eb,o,none⟩:=fun o=>World.cell?_alloc_lt _ _ _ tg
     have mz:∀o,(wy.alloc (.cells c 179)).frozen? ⟨eb,o,none⟩=wy.frozen? ⟨eb,o,none⟩:=fun o=>World.frozen?_alloc_past _ _ _ tg
     have qx:=Ij.cell Zu
     have hbf:=Ij.frozen k
     have HSW:Hid (rS rs A.ns (k+1) (emp rs A.ns r)=L.set k (vy rs A.ns[k] L (L.getD k false))):=by
      unfold Hid;rw[rS,hLL,bA bj]
     have iW:Hid (∀x,vy rs A.ns[k] L (L.getD k false)=x->
       aA ((wy.alloc (.cells c 179)).setCell ⟨eb,k,none⟩ (.bool x)) eb (rS rs A.ns (k+1) (emp rs A.ns r))/\aa (·=eb) w1 ((wy.alloc (.cells c 179)).setCell ⟨eb,k,none⟩ (.bool x))/\
       aA ((wy.setCell ⟨eb,k,none⟩ (.bool x)).alloc (.cells c 179)) eb (rS rs A.ns (k+1) (emp rs A.ns r))/\aa (·=eb) w1 ((wy.setCell ⟨eb,k,none⟩ (.bool x)).alloc (.cells c 179))):=by
      intro x hx
      subst hx
      rw[HSW.out]
      refine⟨(Ij.kept ((aa.refl (fun _=>False) wy).alloc _) id).set k _,(zH.alloc _).setCell (fun _=>rfl) _,(Ij.set k _).kept ((aa.refl (fun _=>False) _).alloc _) id,(zH.setCell (fun _=>rfl) _).alloc _⟩
     have k0:c[0]?=some (.int .i64 (A.ns[k].kind:Int)):=NI.kind
     have k1:=NI.text
     have k4:=NI.name
     have k6:=NI.subs
     have xh:=hW.wf k A.ns[k] (List.getElem?_eq_getElem bj)
     clear dx
     by_cases h0:A.ns[k].kind=0
     ·have ja:=h0
      clear h0
      have q0:((A.ns[k].kind:Int) == 0)=true:=beq_iff_eq.2 (by omega)
      have hE:(ba A.ns[k].text).toList.isEmpty=A.ns[k].text.isEmpty:=by rw[dS]
      have XV:=ae (Wo (rs:=rs) (L:=L) (o:=L.getD k false) ja)
      clear ja
      go_wp2
      go_roundg (A.ns.length-(k+1))
      case measure=>omega
      case rel=>
       first
        | exact⟨k+1,by omega,rfl,by go_num,(iW.out _ XV.out).1,(iW.out _ XV.out).2.1⟩
        | exact⟨k+1,by omega,rfl,by go_num,(iW.out _ XV.out).2.2.1,(iW.out _ XV.out).2.2.2⟩
     ·by_cases h3:A.ns[k].kind=3
      ·have ja:=h3
       clear h3
       have q0:((A.ns[k].kind:Int) == 0)=false:=beq_eq_false_iff_ne.2 (by omega)
       have q3:((A.ns[k].kind:Int) == 3)=true:=beq_iff_eq.2 (by omega)
       have XV:=ae (Wq (rs:=rs) (L:=L) (o:=L.getD k false) ja)
       obtain⟨fi,vC⟩:=Option.isSome_iff_exists.1 (hN A.ns[k] (List.getElem_mem _) ja)
       have Sr:=kY vC
       have xn:j9 rs A.ns[k].name=(fi:Int):=by unfold j9;rw[vC]
       have Un:=ae vC
       obtain⟨rb,wH,dU,r0,r1,r2⟩:=UF.ru.cells Sr
       have uw:=hW.is rs[fi] (List.getElem_mem _)
       have zI:=Ij.cell (i:=rs[fi].is) (by omega)
       have wn:rb<wy.heap.size:=((show wy.ownsRow base 132 3 rv rs.length (rs.flatMap f9) from UF.ru).lt rb (by rw[dU];rfl)).2
       have fT:=g9 b s base nv rv A.sc rs A.ns[k].name
       rw[xn]at fT
       have HF:=ae fT
       have C2:=UF.alloc (.cells c 179)
       have kM:=UF.rg.gis.lt
       have kP:∀o,(wy.alloc (.cells c 179)).cell? ⟨rb,o,none⟩=wy.cell? ⟨rb,o,none⟩:=fun o=>World.cell?_alloc_lt _ _ _ wn
       have iB:∀o,(wy.alloc (.cells c 179)).cell? ⟨b,o,none⟩=wy.cell? ⟨b,o,none⟩:=fun o=>World.cell?_alloc_lt _ _ _ kM
       rw[dU]at e1
       have HX:Hid ((rs.map Rl.is).getD ((dg rs A.ns[k].name).getD 0) 0=rs[fi].is):=by unfold Hid;rw[Un.out];exact bQ _ _ _ _ Sr
       have q1:(0:Int)<=(fi:Int):=by omega
       have q2:(fi:Int)<(rs.length:Int):=by omega
       have q3':(0:Int)<=(rs[fi].is:Int):=by omega
       have q4':(rs[fi].is:Int)<(A.ns.length:Int):=by omega
       have q5':(0:Int)<=(k:Int):=by omega
       have q6':(k:Int)<(A.ns.length:Int):=by omega
       clear ja vC xn fT dU
       go_wp2_with fail
       go_region_with (first | (go_at_call 86;refine(HF.out _ (C2.same _).rg.gis (C2.same _).ru GC).mono ?_;rintro e w' ⟨rfl,rfl⟩))
       all_goals
        go_wp2
        go_roundg (A.ns.length-(k+1))
        case measure=>omega
        case rel=>
         first
          | exact⟨k+1,by omega,rfl,by go_num,(iW.out _ (XV.out.trans (by rw[HX.out];exact pw (by omega)))).1,(iW.out _ (XV.out.trans (by rw[HX.out];exact pw (by omega)))).2.1.drew⟩
          | exact⟨k+1,by omega,rfl,by go_num,(iW.out _ (XV.out.trans (by rw[HX.out];exact pw (by omega)))).2.2.1,(iW.out _ (XV.out.trans (by rw[HX.out];exact pw (by omega)))).2.2.2.drew⟩
      ·by_cases h6:A.ns[k].kind=6
       ·have ja:=h6
        clear h6
        have q0:((A.ns[k].kind:Int) == 0)=false:=beq_eq_false_iff_ne.2 (by omega)
        have q3:((A.ns[k].kind:Int) == 3)=false:=beq_eq_false_iff_ne.2 (by omega)
        have q6:((A.ns[k].kind:Int) == 6)=true:=beq_iff_eq.2 (by omega)
        have XV:=ae (Ez (rs:=rs) (L:=L) (o:=L.getD k false) (N:=A.ns[k]) (by omega))
        clear ja
        go_wp2
        go_roundg (A.ns.length-(k+1))
        case measure=>omega
        case rel=>
         first
          | exact⟨k+1,by omega,rfl,by go_num,(iW.out _ XV.out).1,(iW.out _ XV.out).2.1⟩
          | exact⟨k+1,by omega,rfl,by go_num,(iW.out _ XV.out).2.2.1,(iW.out _ XV.out).2.2.2⟩
       ·by_cases h7:A.ns[k].kind=7
        ·have ja:=h7
         clear h7
         have q0:((A.ns[k].kind:Int) == 0)=false:=beq_eq_false_iff_ne.2 (by omega)
         have q3:((A.ns[k].kind:Int) == 3)=false:=beq_eq_false_iff_ne.2 (by omega)
         have q6:((A.ns[k].kind:Int) == 6)=false:=beq_eq_false_iff_ne.2 (by omega)
         have q7:((A.ns[k].kind:Int) == 7)=true:=beq_iff_eq.2 (by omega)
         have XV:=ae (Ez (rs:=rs) (L:=L) (o:=L.getD k false) (N:=A.ns[k]) (by omega))
         clear ja
         go_wp2
         go_roundg (A.ns.length-(k+1))
         case measure=>omega
         case rel=>
          first
           | exact⟨k+1,by omega,rfl,by go_num,(iW.out _ XV.out).1,(iW.out _ XV.out).2.1⟩
           | exact⟨k+1,by omega,rfl,by go_num,(iW.out _ XV.out).2.2.1,(iW.out _ XV.out).2.2.2⟩
        ·by_cases h9:A.ns[k].kind=9
         ·have ja:=h9
          clear h9
          have q0:((A.ns[k].kind:Int) == 0)=false:=beq_eq_false_iff_ne.2 (by omega)
          have q3:((A.ns[k].kind:Int) == 3)=false:=beq_eq_false_iff_ne.2 (by omega)
          have q6:((A.ns[k].kind:Int) == 6)=false:=beq_eq_false_iff_ne.2 (by omega)
          have q7:((A.ns[k].kind:Int) == 7)=false:=beq_eq_false_iff_ne.2 (by omega)
          have q9:((A.ns[k].kind:Int) == 9)=true:=beq_iff_eq.2 (by omega)
          have XV:=ae (Ez (rs:=rs) (L:=L) (o:=L.getD k false) (N:=A.ns[k]) (by omega))
          clear ja
          go_wp2
          go_roundg (A.ns.length-(k+1))
          case measure=>omega
          case rel=>
           first
            | exact⟨k+1,by omega,rfl,by go_num,(iW.out _ XV.out).1,(iW.out _ XV.out).2.1⟩
            | exact⟨k+1,by omega,rfl,by go_num,(iW.out _ XV.out).2.2.1,(iW.out _ XV.out).2.2.2⟩
         ·by_cases Ih:A.ns[k].kind=10
          ·have ja:=Ih
           clear Ih
           have q0:((A.ns[k].kind:Int) == 0)=false:=beq_eq_false_iff_ne.2 (by omega)
           have q3:((A.ns[k].kind:Int) == 3)=false:=beq_eq_false_iff_ne.2 (by omega)
           have q6:((A.ns[k].kind:Int) == 6)=false:=beq_eq_false_iff_ne.2 (by omega)
           have q7:((A.ns[k].kind:Int) == 7)=false:=beq_eq_false_iff_ne.2 (by omega)
           have q9:((A.ns[k].kind:Int) == 9)=false:=beq_eq_false_iff_ne.2 (by omega)
           have Ve:((A.ns[k].kind:Int) == 10)=true:=beq_iff_eq.2 (by omega)
           have XV:=ae (Ez (rs:=rs) (L:=L) (o:=L.getD k false) (N:=A.ns[k]) (by omega))
           clear ja
           go_wp2
           go_roundg (A.ns.length-(k+1))
           case measure=>omega
           case rel=>
            first
             | exact⟨k+1,by omega,rfl,by go_num,(iW.out _ XV.out).1,(iW.out _ XV.out).2.1⟩
             | exact⟨k+1,by omega,rfl,by go_num,(iW.out _ XV.out).2.2.1,(iW.out _ XV.out).2.2.2⟩
          ·by_cases h8:A.ns[k].kind=8
           ·have ja:=h8
            clear h8
            have q0:((A.ns[k].kind:Int) == 0)=false:=beq_eq_false_iff_ne.2 (by omega)
            have q3:((A.ns[k].kind:Int) == 3)=false:=beq_eq_false_iff_ne.2 (by omega)
            have q6:((A.ns[k].kind:Int) == 6)=false:=beq_eq_false_iff_ne.2 (by omega)
            have q7:((A.ns[k].kind:Int) == 7)=false:=beq_eq_false_iff_ne.2 (by omega)
            have q9:((A.ns[k].kind:Int) == 9)=false:=beq_eq_false_iff_ne.2 (by omega)
            have Ve:((A.ns[k].kind:Int) == 10)=false:=beq_eq_false_iff_ne.2 (by omega)
            have q8:((A.ns[k].kind:Int) == 8)=true:=beq_iff_eq.2 (by omega)
            have XV:=ae (Wv (rs:=rs) (L:=L) (o:=L.getD k false) ja)
            obtain⟨x,hx⟩:=xh.one (by omega)
            have mE:0<A.ns[k].subs.length:=by rw[hx];simp
            obtain⟨sb,iK,hv,kj⟩:=cD c9 mE
            have hj:A.ns[k].subs.getD 0 0<k:=xh.low _ (by rw[hx];simp)
            have Qy:sb<wy.heap.size:=(c9.lt sb (by rw[hv];rfl)).2
            have kP:∀o,(wy.alloc (.cells c 179)).cell? ⟨sb,o,none⟩=wy.cell? ⟨sb,o,none⟩:=fun o=>World.cell?_alloc_lt _ _ _ Qy
            rw[hv]at k6
            generalize A.ns[k].subs.getD 0 0=j at *
            have zI:=Ij.cell (i:=j) (by omega)
            have Qu:(0:Int)<(A.ns[k].subs.length:Int):=by omega
            clear ja hx hv xh c9
            go_wp2
            go_roundg (A.ns.length-(k+1))
            case measure=>omega
            case rel=>
             first
              | exact⟨k+1,by omega,rfl,by go_num,(iW.out _ XV.out).1,(iW.out _ XV.out).2.1⟩
              | exact⟨k+1,by omega,rfl,by go_num,(iW.out _ XV.out).2.2.1,(iW.out _ XV.out).2.2.2⟩
           ·by_cases h4:A.ns[k].kind=4
            ·have ja:=h4
             clear h4
             have q0:((A.ns[k].kind:Int) == 0)=false:=beq_eq_false_iff_ne.2 (by omega)
             have q3:((A.ns[k].kind:Int) == 3)=false:=beq_eq_false_iff_ne.2 (by omega)
             have q6:((A.ns[k].kind:Int) == 6)=false:=beq_eq_false_iff_ne.2 (by omega)
             have q7:((A.ns[k].kind:Int) == 7)=false:=beq_eq_false_iff_ne.2 (by omega)
             have q9:((A.ns[k].kind:Int) == 9)=false:=beq_eq_false_iff_ne.2 (by omega)
             have Ve:((A.ns[k].kind:Int) == 10)=false:=beq_eq_false_iff_ne.2 (by omega)
             have q8:((A.ns[k].kind:Int) == 8)=false:=beq_eq_false_iff_ne.2 (by omega)
             have q4:((A.ns[k].kind:Int) == 4)=true:=beq_iff_eq.2 (by omega)
             have XV:=ae (Ws (rs:=rs) (L:=L) (o:=L.getD k false) ja)
             have vV:=fF xh.low
             have ws:=dG c9
             have Sl:eb≠wy.heap.size:=by omega
             have qv:ai (wy.alloc (.cells c 179)) wy.heap.size=some (.cells c 179 (0,0)):=au _ _
             have JO:aA (wy.alloc (.cells c 179)) eb L:=Ij.kept ((aa.refl (fun _=>False) wy).alloc _) id
             have CZ:aa (·=eb) wy (wy.alloc (.cells c 179)):=(aa.refl _ wy).alloc _
             have qaq:aa (·=eb) w1 (wy.alloc (.cells c 179)):=zH.alloc _
             clear ja xh
             go_wp2_with fail
             obtain⟨kb,dx⟩:∃kb,kb=wy.heap.size:=⟨_,rfl⟩
             rw[<-dx]at qv Sl ⊢
             generalize hW1:wy.alloc (.cells c 179)=W1 at *
             clear hW1 dx dm gC ri mz qx hbf iW
             go_loopg [7] A.ns[k].subs.length (fun gn v wz=>∃q:Nat,q<=A.ns[k].subs.length/\gn=A.ns[k].subs.length-q/\v=.int .i64 q/\aA wz eb (L.set k (L.getD k false||(A.ns[k].subs.take q).any (fun j=>L.getD j false)))/\aa (·=eb) wy wz/\aa (·=eb) w1 wz/\ai wz kb=some (.cells c 179 (0,0)))
             case atStart=>exact⟨0,by omega,rfl,rfl,by simp only[List.take_zero,List.any_nil,Bool.or_false,BI];exact JO,CZ,qaq,qv⟩
             case round=>
              obtain⟨q,hq,iI,rfl,qX,lD,R4,uo⟩:=hrel
              have lR:=ae iI
              clear iI
              obtain⟨wz,hwz⟩:∃m,m=wr:=⟨wr,rfl⟩
              subst hwz
              have cU:wz.cell? ⟨kb,261,none⟩=some v:=by rw[al uo];exact NI.subs
              by_cases hqlt:q<A.ns[k].subs.length
              ·have et:=az c9 lD (fun i e h=>by
                obtain⟨x,hx⟩:=ak c9 e
                subst h
                rw[show ai wy i=_ from Ij]at hx;simp at hx)
               obtain⟨sb,iK,hv,kj⟩:=cD et hqlt
               rw[hv]at cU
               have hj:=vV q hqlt
               have Do:=vM (l:=A.ns[k].subs) (fun j=>L.getD j false) hqlt
               generalize A.ns[k].subs.getD q 0=j at *
               generalize hV:(L.getD k false||(A.ns[k].subs.take q).any (fun j=>L.getD j false))=V at *
               have HV:=ae hV
               clear hV
               have ek:(L.set k V).getD k false=V:=cN Zu
               have ej:(L.set k V).getD j false=L.getD j false:=dO (by omega)
               have b1:=qX.cell (i:=k) (by simp;omega)
               have b2:=qX.cell (i:=j) (by simp;omega)
               rw[ek]at b1
               rw[ej]at b2
               have b3:=qX.frozen k
               have VN:Hid ((L.getD k false||(A.ns[k].subs.take (q+1)).any (fun j=>L.getD j false))=(V||L.getD j false)):=by
                unfold Hid;rw[Do,<-HV.out,Bool.or_assoc]
               have mG:(q:Int)<(A.ns[k].subs.length:Int):=by omega
               clear Do ek ej hv et
               cases V
               ·go_wp2
                go_roundg (A.ns[k].subs.length-(q+1))
                case measure=>have:=lR.out;omega
                case rel=>exact⟨q+1,by omega,rfl,by go_num,by rw[VN.out,Bool.false_or];have:=qX.set k (L.getD j false);rw[List.set_set]at this;exact this,lD.setCell (fun _=>rfl) _,R4.setCell (fun _=>rfl) _,by rw[eR _ _ _ (Ne.symm Sl)];exact uo⟩
               ·go_wp2
                go_roundg (A.ns[k].subs.length-(q+1))
                case measure=>have:=lR.out;omega
                case rel=>exact⟨q+1,by omega,rfl,by go_num,by rw[VN.out,Bool.true_or];have:=qX.set k true;rw[List.set_set]at this;exact this,lD.setCell (fun _=>rfl) _,R4.setCell (fun _=>rfl) _,by rw[eR _ _ _ (Ne.symm Sl)];exact uo⟩
              ·have hqe:q=A.ns[k].subs.length:=by omega
               subst hqe
               rw[List.take_of_length_le (Nat.le_refl _),<-XV.out,<-HSW.out]at qX
               obtain⟨p0,oV,jH⟩:=an c9
               rw[jH]at cU
               clear jH
               go_wp2
               go_roundg (A.ns.length-(k+1))
               case measure=>omega
               case rel=>exact⟨k+1,by omega,rfl,by go_num,qX,R4⟩
            ·by_cases h5:A.ns[k].kind=5
             ·have ja:=h5
              clear h5
              have q0:((A.ns[k].kind:Int) == 0)=false:=beq_eq_false_iff_ne.2 (by omega)
              have q3:((A.ns[k].kind:Int) == 3)=false:=beq_eq_false_iff_ne.2 (by omega)
              have q6:((A.ns[k].kind:Int) == 6)=false:=beq_eq_false_iff_ne.2 (by omega)
              have q7:((A.ns[k].kind:Int) == 7)=false:=beq_eq_false_iff_ne.2 (by omega)
              have q9:((A.ns[k].kind:Int) == 9)=false:=beq_eq_false_iff_ne.2 (by omega)
              have Ve:((A.ns[k].kind:Int) == 10)=false:=beq_eq_false_iff_ne.2 (by omega)
              have q8:((A.ns[k].kind:Int) == 8)=false:=beq_eq_false_iff_ne.2 (by omega)
              have q4:((A.ns[k].kind:Int) == 4)=false:=beq_eq_false_iff_ne.2 (by omega)
              have q5:((A.ns[k].kind:Int) == 5)=true:=beq_iff_eq.2 (by omega)
              have XV:=ae (Wu (rs:=rs) (L:=L) (o:=L.getD k false) ja)
              have vV:=fF xh.low
              have ws:=dG c9
              obtain⟨p0,oV,jH⟩:=an c9
              rw[jH]at k6
              have HV0:=ae jH
              clear ja xh jH
              go_wp2_with fail
              go_loopg [8,9] A.ns[k].subs.length (fun gn a v wz=>∃q:Nat,q<=A.ns[k].subs.length/\gn=A.ns[k].subs.length-q/\v=.int .i64 q/\a=.bool ((A.ns[k].subs.take q).all (fun j=>L.getD j false))/\wz=wy.alloc (.cells c 179))
              case atStart=>exact⟨0,by omega,rfl,rfl,rfl,rfl⟩
              case round=>
               obtain⟨q,hq,iI,rfl,rfl,rfl⟩:=hrel
               have lR:=ae iI
               clear iI
               by_cases hqlt:q<A.ns[k].subs.length
               ·obtain⟨sb,iK,hv,kj⟩:=cD c9 hqlt
                have Qy:sb<wy.heap.size:=(c9.lt sb (by rw[hv];rfl)).2
                have kP:∀o,(wy.alloc (.cells c 179)).cell? ⟨sb,o,none⟩=wy.cell? ⟨sb,o,none⟩:=fun o=>World.cell?_alloc_lt _ _ _ Qy
                have sW:=HV0.out
                rw[hv]at sW
                simp only[Value.slice.injEq]at sW
                obtain⟨e1,_,e2⟩:=sW
                subst e1 e2
                have hj:=vV q hqlt
                have Do:=vL (l:=A.ns[k].subs) (fun j=>L.getD j false) hqlt
                generalize A.ns[k].subs.getD q 0=j at *
                have zI:=Ij.cell (i:=j) (by omega)
                generalize hV:(A.ns[k].subs.take q).all (fun j=>L.getD j false)=V at *
                have VN:=ae Do
                have mG:(q:Int)<(A.ns[k].subs.length:Int):=by omega
                clear Do hV hv
                cases V
                ·go_wp2
                 go_roundg (A.ns[k].subs.length-(q+1))
                 case measure=>have:=lR.out;omega
                 case rel=>exact⟨q+1,by omega,rfl,by go_num,by rw[VN.out];rfl,rfl⟩
                ·go_wp2
                 go_roundg (A.ns[k].subs.length-(q+1))
                 case measure=>have:=lR.out;omega
                 case rel=>exact⟨q+1,by omega,rfl,by go_num,by rw[VN.out];rfl,rfl⟩
               ·have hqe:q=A.ns[k].subs.length:=by omega
                subst hqe
                rw[List.take_of_length_le (Nat.le_refl _)]
                go_wp2
                go_roundg (A.ns.length-(k+1))
                case measure=>omega
                case rel=>
                 first
                  | exact⟨k+1,by omega,rfl,by go_num,(iW.out _ XV.out).1,(iW.out _ XV.out).2.1⟩
                  | exact⟨k+1,by omega,rfl,by go_num,(iW.out _ XV.out).2.2.1,(iW.out _ XV.out).2.2.2⟩
             ·have q0:((A.ns[k].kind:Int) == 0)=false:=beq_eq_false_iff_ne.2 (by omega)
              have q3:((A.ns[k].kind:Int) == 3)=false:=beq_eq_false_iff_ne.2 (by omega)
              have q6:((A.ns[k].kind:Int) == 6)=false:=beq_eq_false_iff_ne.2 (by omega)
              have q7:((A.ns[k].kind:Int) == 7)=false:=beq_eq_false_iff_ne.2 (by omega)
              have q9:((A.ns[k].kind:Int) == 9)=false:=beq_eq_false_iff_ne.2 (by omega)
              have Ve:((A.ns[k].kind:Int) == 10)=false:=beq_eq_false_iff_ne.2 (by omega)
              have q8:((A.ns[k].kind:Int) == 8)=false:=beq_eq_false_iff_ne.2 (by omega)
              have q4:((A.ns[k].kind:Int) == 4)=false:=beq_eq_false_iff_ne.2 (by omega)
              have q5:((A.ns[k].kind:Int) == 5)=false:=beq_eq_false_iff_ne.2 (by omega)
              have XV:=ae (Wp (rs:=rs) (L:=L) (o:=L.getD k false) (N:=A.ns[k]) (by have:=xh.kind;omega))
              clear h0 h3 h6 h7 h9 Ih h8 h4 h5
              go_wp2
              go_roundg (A.ns.length-(k+1))
              case measure=>omega
              case rel=>exact⟨k+1,by omega,rfl,by go_num,by rw[HSW.out,XV.out,BI];exact Ij.kept ((aa.refl (fun _=>False) wy).alloc _) id,zH.alloc _⟩
    ·have On:k=A.ns.length:=by omega
     subst On
     go_wp2
     go_roundg (A.ns.length+1-(r+1))
     case measure=>have:=HGR.out;omega
     case rel=>exact⟨r+1,by omega,rfl,by go_num,Ij,zH⟩
  ·have KR:r=A.ns.length+1:=by omega
   subst KR
   go_wp2
   go_ret
   exact⟨by rw[Zc.out];rfl,by rw[<-Zc.out,HEM.out];exact P9,dd.then vU (fun i hi e=>by have:=Zc.out;omega)⟩
end Go.Proofs.YtagklnaaoclmhaaGreatDoor
