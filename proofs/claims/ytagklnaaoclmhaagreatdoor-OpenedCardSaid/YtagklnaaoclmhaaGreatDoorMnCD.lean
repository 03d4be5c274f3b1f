import Derived.Test.YtagklnaaoclmhaaGreatDoorMnCC
set_option linter.unusedSimpArgs false
set_option linter.unusedVariables false
set_option maxRecDepth 100000
set_option maxHeartbeats 16000000
namespace Go.Proofs.YtagklnaaoclmhaaGreatDoor
open Go.RowKit
attribute [local go_sem ↓] bw aX aZ aY aF
attribute [local go_sem] bc aQ aS bY bv aT aU aV aW aD bf aK au aN
def qD (s:ByteArray)(rs:List Rl)(A:St)(E:List Bool)(f:Nat):Prop:=∀(base b eb wb i:Nat) (nv rv:Value) (U:Nat->Prop) (ahead:Bool) (L:List Bool) (w:World),lS w base b s nv rv U A rs->aA w eb E->aA w wb L->eb≠wb->L.length=rs.length->i<A.ns.length->i<f->
 Calls Tryz.prog 88 #[.pointer (some ⟨b,0,none⟩),.int .i64 (i:Int),.slice (some ⟨eb,0,none⟩) A.ns.length A.ns.length,.bool ahead,.slice (some ⟨wb,0,none⟩) rs.length rs.length] w fun e w'=>
  e=.returned (.bool (ga rs A.ns E f i ahead L).1)/\aA w' wb (ga rs A.ns E f i ahead L).2/\aa (·=wb) w w'
theorem fH {l:List Nat}{q:Nat}(h:q<l.length):l.drop q=l.getD q 0 :: l.drop (q+1):=by
 rw[List.drop_eq_getElem_cons h]
 simp[List.getD,List.getElem?_eq_getElem h]
theorem yi {s:ByteArray}{rs:List Rl}{A:St}{E:List Bool}{f:Nat}(IH:qD s rs A E f)(hW:lK A.ns rs)(hN:∀N∈A.ns,N.kind=3->(dg rs N.name).isSome=true)(hn:A.ns.length<=5000)(hE:E.length=A.ns.length)
  (base b eb wb i:Nat) (nv rv:Value) (U:Nat->Prop) (ahead:Bool) (L:List Bool) (w:World) (hR:lS w base b s nv rv U A rs) (qu:aA w eb E) (hBw:aA w wb L) (hew:eb≠wb) (hL:L.length=rs.length) (bj:i<A.ns.length) (hif:i<f+1) (h3:A.ns[i].kind≠3) (h7:A.ns[i].kind≠7) (h8:A.ns[i].kind≠8):
  Calls Tryz.prog 88 #[.pointer (some ⟨b,0,none⟩),.int .i64 (i:Int),.slice (some ⟨eb,0,none⟩) A.ns.length A.ns.length,.bool ahead,.slice (some ⟨wb,0,none⟩) rs.length rs.length] w fun e w'=>
   e=.returned (.bool (ga rs A.ns E (f+1) i ahead L).1)/\aA w' wb (ga rs A.ns E (f+1) i ahead L).2/\aa (·=wb) w w':=by
 have GC:=hW.len
 obtain⟨g,iH,c,v,gz,iR,yJ,gh,qz,NI,c9,_⟩:=hR.rg.nodes.get bj
 obtain⟨c0,c1,c2,c3,c4,c5,c6⟩:=hR.rg.gis.cells
 rw[iR]at c0
 have dm:((w.alloc (.cells df 179)).setRow w.heap.size c)=w.alloc (.cells c 179):=World.setRow_alloc_new w df c 179
 have ho:=cM NI.one
 have lE:Sz c:=NI.size
 have hz:Sz df:=cy
 have gC:∀j,(w.alloc (.cells c 179)).cell? ⟨w.heap.size,j,none⟩=c[j]?:=fun j=>al (au w _)
 have tg:=ag qu
 have rA:=ag hBw
 have xh:=hW.wf i A.ns[i] (List.getElem?_eq_getElem bj)
 have vV:=fF xh.low
 have ws:=dG c9
 have HB:Hid (ga rs A.ns E (f+1) i ahead L=lT (ga rs A.ns E f) E A.ns[i].kind A.ns[i].subs (decide (A.ns[i].kind=7\/A.ns[i].kind=8)&&E.getD (A.ns[i].subs.getD 0 0) false) ahead
   (if A.ns[i].kind=3/\ahead=true then L.set ((dg rs A.ns[i].name).getD 0) true else L)):=by
  unfold Hid;rw[ga,bA bj]
 have pD:∀j a W,W.length=rs.length->(ga rs A.ns E f j a W).2.length=rs.length:=fun j a W h=>kR f j a W h
 generalize ga rs A.ns E (f+1) i ahead L=R at *
 have k0:c[0]?=some (.int .i64 (A.ns[i].kind:Int)):=NI.kind
 have k4:=NI.name
 have k6:=NI.subs
 have q3:((A.ns[i].kind:Int) == 3)=false:=beq_eq_false_iff_ne.2 (by omega)
 have q7:((A.ns[i].kind:Int) == 7)=false:=beq_eq_false_iff_ne.2 (by omega)
 have q8:((A.ns[i].kind:Int) == 8)=false:=beq_eq_false_iff_ne.2 (by omega)
 have jb:lT (ga rs A.ns E f) E A.ns[i].kind A.ns[i].subs false ahead L=R:=by
  rw[HB.out,if_neg (fun h=>h3 h.1),show decide (A.ns[i].kind=7\/A.ns[i].kind=8)=false by simp[h7,h8]];rfl
 have sz:=ae jb
 clear jb
 go_enter Tryz.func88,Tryz.ntmps88
 go_wp2_with fail
 have k9:=hL
 obtain⟨kb,dx⟩:∃kb,kb=w.heap.size:=⟨_,rfl⟩
 rw[<-dx]
 have Ck:wb≠kb:=by omega
 have qv:ai (w.alloc (.cells c 179)) kb=some (.cells c 179 (0,0)):=(by rw[dx];exact au _ _)
 have JO:aA (w.alloc (.cells c 179)) wb L:=(hBw.kept ((aa.refl (fun _=>False) w).alloc _) id)
 have dd:aa (·=wb) w (w.alloc (.cells c 179)):=((aa.refl _ w).alloc _)
 generalize oi:(w.alloc (.cells c 179))=w0 at *
 generalize AL:L=L0 at *
 clear oi AL dx dm gC k0 k4 k6 HB
 go_loopg [12,13,3] A.ns[i].subs.length (fun gn v12 v13 v3 wz=>∃(q:Nat) (bad ah:Bool) (W:List Bool),q<=A.ns[i].subs.length/\gn=A.ns[i].subs.length-q/\v12=.bool bad/\v13=.int .i64 q/\v3=.bool ah/\W.length=rs.length/\aA wz wb W/\aa (·=wb) w wz/\ai wz kb=some (.cells c 179 (0,0))/\
  Hid (lT (ga rs A.ns E f) E A.ns[i].kind (A.ns[i].subs.drop q) bad ah W=R))
 case atStart=>exact⟨0,false,ahead,L0,by omega,rfl,rfl,rfl,rfl,k9,JO,dd,qv,sz.out⟩
 case round=>
  obtain⟨q,bad,ah,W,hq,iI,rfl,rfl,rfl,Az,qX,lD,uo,s6⟩:=hrel
  have lR:=ae iI
  clear iI
  have cU:wr.cell? ⟨kb,261,none⟩=some v:=by rw[al uo];exact NI.subs
  have gH:wr.cell? ⟨kb,0,none⟩=some (.int .i64 (A.ns[i].kind:Int)):=by rw[al uo];exact NI.kind
  have et:=az c9 lD (fun m e h=>by
   obtain⟨x,hx⟩:=ak c9 e
   subst h
   rw[show ai w m=_ from hBw]at hx;simp at hx)
  by_cases hqlt:q<A.ns[i].subs.length
  ·obtain⟨sb,iK,hv,kj⟩:=cD et hqlt
   rw[hv]at cU
   have hj:=vV q hqlt
   have EK:=hR.bools hBw lD
   have kZ:aA wr eb E:=qu.kept lD hew
   have h1:=s6.out
   rw[fH hqlt,lT]at h1
   generalize A.ns[i].subs.getD q 0=j at *
   have gF:=pD j ah W Az
   have bO:=IH base b eb wb j nv rv U ah W wr EK kZ qX hew Az (by omega) (by omega)
   generalize ga rs A.ns E f j ah W=X at *
   obtain⟨xb,X2⟩:=X
   dsimp only at *
   have HC:=ae bO
   have H1:=ae h1
   have mG:(q:Int)<(A.ns[i].subs.length:Int):=by omega
   have AG:(j:Int)<(A.ns.length:Int):=by omega
   clear h1 bO s6 et
   go_wp2_with fail
   refine HC.out.mono ?_
   rintro e w7 ⟨rfl,yv,eE⟩
   have la:=bI uo eE (fun h=>Ck h.symm)
   have jG:=lD.trans eE
   have yw:aA w7 eb E:=kZ.kept eE hew
   have ER:w7.cell? ⟨kb,261,none⟩=some (.slice (some ⟨sb,0,none⟩) A.ns[i].subs.length iK):=by rw[al la,<-hv];exact NI.subs
   have Cj:w7.cell? ⟨kb,0,none⟩=some (.int .i64 (A.ns[i].kind:Int)):=by rw[al la];exact NI.kind
   have Dk:w7.cell? ⟨sb,q,none⟩=some (.int .i64 (j:Int)):=by
    rw[eE.cell (p:=⟨sb,q,none⟩) (World.block_lt_of_cell? _ _ kj) (fun h=>by
     have h2:sb=wb:=h
     subst h2
     have og:=(az c9 lD (fun m e h=>by
      obtain⟨x,hx⟩:=ak c9 e
      subst h
      rw[show ai w m=_ from hBw]at hx;simp at hx))
     obtain⟨x,hx⟩:=ak og (k:=sb) (by rw[hv];rfl)
     rw[show ai wr sb=_ from qX]at hx;simp at hx)]
    exact kj
   have zI:=yw.cell (i:=j) (by omega)
   clear HC EK kZ cU gH kj hv
   by_cases h5:A.ns[i].kind=5
   ·have q5:((A.ns[i].kind:Int) == 5)=true:=beq_iff_eq.2 (by omega)
    cases hEj:E.getD j false
    ·have h2:=H1.out
     rw[if_pos ⟨h5,hEj⟩]at h2
     rw[hEj]at zI
     have H2:=ae h2
     clear h2 H1 h5 hEj
     cases bad
     all_goals
      go_wp2
      go_roundg (A.ns[i].subs.length-(q+1))
      case measure=>have:=lR.out;omega
      case rel=>exact⟨q+1,_,_,X2,by omega,rfl,rfl,by go_num,rfl,gF,yv,jG,la,H2.out⟩
    ·have h2:=H1.out
     rw[if_neg (by rintro⟨_,h⟩;rw[hEj]at h;cases h)]at h2
     rw[hEj]at zI
     have H2:=ae h2
     clear h2 H1 h5 hEj
     cases bad
     all_goals
      go_wp2
      go_roundg (A.ns[i].subs.length-(q+1))
      case measure=>have:=lR.out;omega
      case rel=>exact⟨q+1,_,_,X2,by omega,rfl,rfl,by go_num,rfl,gF,yv,jG,la,H2.out⟩
   ·have q5:((A.ns[i].kind:Int) == 5)=false:=beq_eq_false_iff_ne.2 (by omega)
    have h2:=H1.out
    rw[if_neg (fun h=>h5 h.1)]at h2
    have H2:=ae h2
    clear h2 H1 h5
    cases bad
    all_goals
     go_wp2
     go_roundg (A.ns[i].subs.length-(q+1))
     case measure=>have:=lR.out;omega
     case rel=>exact⟨q+1,_,_,X2,by omega,rfl,rfl,by go_num,rfl,gF,yv,jG,la,H2.out⟩
  ·have h1:=s6.out
   rw[List.drop_of_length_le (by omega),lT]at h1
   subst h1
   obtain⟨p0,oV,jH⟩:=an c9
   rw[jH]at cU
   clear jH s6
   go_wp2
   go_ret
   exact⟨rfl,qX,lD⟩
theorem vO {s:ByteArray}{rs:List Rl}{A:St}{E:List Bool}{f:Nat}(IH:qD s rs A E f)(hW:lK A.ns rs)(hN:∀N∈A.ns,N.kind=3->(dg rs N.name).isSome=true)(hn:A.ns.length<=5000)(hE:E.length=A.ns.length)
  (base b eb wb i:Nat) (nv rv:Value) (U:Nat->Prop) (ahead:Bool) (L:List Bool) (w:World) (hR:lS w base b s nv rv U A rs) (qu:aA w eb E) (hBw:aA w wb L) (hew:eb≠wb) (hL:L.length=rs.length) (bj:i<A.ns.length) (hif:i<f+1) (h3:A.ns[i].kind=3) (ha:ahead=false):
  Calls Tryz.prog 88 #[.pointer (some ⟨b,0,none⟩),.int .i64 (i:Int),.slice (some ⟨eb,0,none⟩) A.ns.length A.ns.length,.bool ahead,.slice (some ⟨wb,0,none⟩) rs.length rs.length] w fun e w'=>
   e=.returned (.bool (ga rs A.ns E (f+1) i ahead L).1)/\aA w' wb (ga rs A.ns E (f+1) i ahead L).2/\aa (·=wb) w w':=by
 have GC:=hW.len
 obtain⟨g,iH,c,v,gz,iR,yJ,gh,qz,NI,c9,_⟩:=hR.rg.nodes.get bj
 obtain⟨c0,c1,c2,c3,c4,c5,c6⟩:=hR.rg.gis.cells
 rw[iR]at c0
 have dm:((w.alloc (.cells df 179)).setRow w.heap.size c)=w.alloc (.cells c 179):=World.setRow_alloc_new w df c 179
 have ho:=cM NI.one
 have lE:Sz c:=NI.size
 have hz:Sz df:=cy
 have gC:∀j,(w.alloc (.cells c 179)).cell? ⟨w.heap.size,j,none⟩=c[j]?:=fun j=>al (au w _)
 have tg:=ag qu
 have rA:=ag hBw
 have xh:=hW.wf i A.ns[i] (List.getElem?_eq_getElem bj)
 have vV:=fF xh.low
 have ws:=dG c9
 have HB:Hid (ga rs A.ns E (f+1) i ahead L=lT (ga rs A.ns E f) E A.ns[i].kind A.ns[i].subs (decide (A.ns[i].kind=7\/A.ns[i].kind=8)&&E.getD (A.ns[i].subs.getD 0 0) false) ahead
   (if A.ns[i].kind=3/\ahead=true then L.set ((dg rs A.ns[i].name).getD 0) true else L)):=by
  unfold Hid;rw[ga,bA bj]
 have pD:∀j a W,W.length=rs.length->(ga rs A.ns E f j a W).2.length=rs.length:=fun j a W h=>kR f j a W h
 generalize ga rs A.ns E (f+1) i ahead L=R at *
 have k0:c[0]?=some (.int .i64 (A.ns[i].kind:Int)):=NI.kind
 have k4:=NI.name
 have k6:=NI.subs
 subst ha
 have q3:((A.ns[i].kind:Int) == 3)=true:=beq_iff_eq.2 (by omega)
 have q7:((A.ns[i].kind:Int) == 7)=false:=beq_eq_false_iff_ne.2 (by omega)
 have q8:((A.ns[i].kind:Int) == 8)=false:=beq_eq_false_iff_ne.2 (by omega)
 have jb:lT (ga rs A.ns E f) E A.ns[i].kind A.ns[i].subs false false L=R:=by
  rw[HB.out,if_neg (fun h=>by cases h.2),show decide (A.ns[i].kind=7\/A.ns[i].kind=8)=false by simp[h3]];rfl
 have sz:=ae jb
 clear jb h3
 go_enter Tryz.func88,Tryz.ntmps88
 go_wp2_with fail
 have k9:=hL
 obtain⟨kb,dx⟩:∃kb,kb=w.heap.size:=⟨_,rfl⟩
 rw[<-dx]
 have Ck:wb≠kb:=by omega
 have qv:ai (w.alloc (.cells c 179)) kb=some (.cells c 179 (0,0)):=(by rw[dx];exact au _ _)
 have JO:aA (w.alloc (.cells c 179)) wb L:=(hBw.kept ((aa.refl (fun _=>False) w).alloc _) id)
 have dd:aa (·=wb) w (w.alloc (.cells c 179)):=((aa.refl _ w).alloc _)
 generalize oi:(w.alloc (.cells c 179))=w0 at *
 generalize AL:L=L0 at *
 clear oi AL dx dm gC k0 k4 k6 HB
 go_loopg [12,13,3] A.ns[i].subs.length (fun gn v12 v13 v3 wz=>∃(q:Nat) (bad ah:Bool) (W:List Bool),q<=A.ns[i].subs.length/\gn=A.ns[i].subs.length-q/\v12=.bool bad/\v13=.int .i64 q/\v3=.bool ah/\W.length=rs.length/\aA wz wb W/\aa (·=wb) w wz/\ai wz kb=some (.cells c 179 (0,0))/\
  Hid (lT (ga rs A.ns E f) E A.ns[i].kind (A.ns[i].subs.drop q) bad ah W=R))
 case atStart=>exact⟨0,false,false,L0,by omega,rfl,rfl,rfl,rfl,k9,JO,dd,qv,sz.out⟩
 case round=>
  obtain⟨q,bad,ah,W,hq,iI,rfl,rfl,rfl,Az,qX,lD,uo,s6⟩:=hrel
  have lR:=ae iI
  clear iI
  have cU:wr.cell? ⟨kb,261,none⟩=some v:=by rw[al uo];exact NI.subs
  have gH:wr.cell? ⟨kb,0,none⟩=some (.int .i64 (A.ns[i].kind:Int)):=by rw[al uo];exact NI.kind
  have et:=az c9 lD (fun m e h=>by
   obtain⟨x,hx⟩:=ak c9 e
   subst h
   rw[show ai w m=_ from hBw]at hx;simp at hx)
  by_cases hqlt:q<A.ns[i].subs.length
  ·obtain⟨sb,iK,hv,kj⟩:=cD et hqlt
   rw[hv]at cU
   have hj:=vV q hqlt
   have EK:=hR.bools hBw lD
   have kZ:aA wr eb E:=qu.kept lD hew
   have h1:=s6.out
   rw[fH hqlt,lT]at h1
   generalize A.ns[i].subs.getD q 0=j at *
   have gF:=pD j ah W Az
   have bO:=IH base b eb wb j nv rv U ah W wr EK kZ qX hew Az (by omega) (by omega)
   generalize ga rs A.ns E f j ah W=X at *
   obtain⟨xb,X2⟩:=X
   dsimp only at *
   have HC:=ae bO
   have H1:=ae h1
   have mG:(q:Int)<(A.ns[i].subs.length:Int):=by omega
   have AG:(j:Int)<(A.ns.length:Int):=by omega
   clear h1 bO s6 et
   go_wp2_with fail
   refine HC.out.mono ?_
   rintro e w7 ⟨rfl,yv,eE⟩
   have la:=bI uo eE (fun h=>Ck h.symm)
   have jG:=lD.trans eE
   have yw:aA w7 eb E:=kZ.kept eE hew
   have ER:w7.cell? ⟨kb,261,none⟩=some (.slice (some ⟨sb,0,none⟩) A.ns[i].subs.length iK):=by rw[al la,<-hv];exact NI.subs
   have Cj:w7.cell? ⟨kb,0,none⟩=some (.int .i64 (A.ns[i].kind:Int)):=by rw[al la];exact NI.kind
   have Dk:w7.cell? ⟨sb,q,none⟩=some (.int .i64 (j:Int)):=by
    rw[eE.cell (p:=⟨sb,q,none⟩) (World.block_lt_of_cell? _ _ kj) (fun h=>by
     have h2:sb=wb:=h
     subst h2
     have og:=(az c9 lD (fun m e h=>by
      obtain⟨x,hx⟩:=ak c9 e
      subst h
      rw[show ai w m=_ from hBw]at hx;simp at hx))
     obtain⟨x,hx⟩:=ak og (k:=sb) (by rw[hv];rfl)
     rw[show ai wr sb=_ from qX]at hx;simp at hx)]
    exact kj
   have zI:=yw.cell (i:=j) (by omega)
   clear HC EK kZ cU gH kj hv
   by_cases h5:A.ns[i].kind=5
   ·have q5:((A.ns[i].kind:Int) == 5)=true:=beq_iff_eq.2 (by omega)
    cases hEj:E.getD j false
    ·have h2:=H1.out
     rw[if_pos ⟨h5,hEj⟩]at h2
     rw[hEj]at zI
     have H2:=ae h2
     clear h2 H1 h5 hEj
     cases bad
     all_goals
      go_wp2
      go_roundg (A.ns[i].subs.length-(q+1))
      case measure=>have:=lR.out;omega
      case rel=>exact⟨q+1,_,_,X2,by omega,rfl,rfl,by go_num,rfl,gF,yv,jG,la,H2.out⟩
    ·have h2:=H1.out
     rw[if_neg (by rintro⟨_,h⟩;rw[hEj]at h;cases h)]at h2
     rw[hEj]at zI
     have H2:=ae h2
     clear h2 H1 h5 hEj
     cases bad
     all_goals
      go_wp2
      go_roundg (A.ns[i].subs.length-(q+1))
      case measure=>have:=lR.out;omega
      case rel=>exact⟨q+1,_,_,X2,by omega,rfl,rfl,by go_num,rfl,gF,yv,jG,la,H2.out⟩
   ·have q5:((A.ns[i].kind:Int) == 5)=false:=beq_eq_false_iff_ne.2 (by omega)
    have h2:=H1.out
    rw[if_neg (fun h=>h5 h.1)]at h2
    have H2:=ae h2
    clear h2 H1 h5
    cases bad
    all_goals
     go_wp2
     go_roundg (A.ns[i].subs.length-(q+1))
     case measure=>have:=lR.out;omega
     case rel=>exact⟨q+1,_,_,X2,by omega,rfl,rfl,by go_num,rfl,gF,yv,jG,la,H2.out⟩
  ·have h1:=s6.out
   rw[List.drop_of_length_le (by omega),lT]at h1
   subst h1
   obtain⟨p0,oV,jH⟩:=an c9
   rw[jH]at cU
   clear jH s6
   go_wp2
   go_ret
   exact⟨rfl,qX,lD⟩
theorem zX {s:ByteArray}{rs:List Rl}{A:St}{E:List Bool}{f:Nat}(IH:qD s rs A E f)(hW:lK A.ns rs)(hN:∀N∈A.ns,N.kind=3->(dg rs N.name).isSome=true)(hn:A.ns.length<=5000)(hE:E.length=A.ns.length)
  (base b eb wb i:Nat) (nv rv:Value) (U:Nat->Prop) (ahead:Bool) (L:List Bool) (w:World) (hR:lS w base b s nv rv U A rs) (qu:aA w eb E) (hBw:aA w wb L) (hew:eb≠wb) (hL:L.length=rs.length) (bj:i<A.ns.length) (hif:i<f+1) (hK:A.ns[i].kind=7):
  Calls Tryz.prog 88 #[.pointer (some ⟨b,0,none⟩),.int .i64 (i:Int),.slice (some ⟨eb,0,none⟩) A.ns.length A.ns.length,.bool ahead,.slice (some ⟨wb,0,none⟩) rs.length rs.length] w fun e w'=>
   e=.returned (.bool (ga rs A.ns E (f+1) i ahead L).1)/\aA w' wb (ga rs A.ns E (f+1) i ahead L).2/\aa (·=wb) w w':=by
 have GC:=hW.len
 obtain⟨g,iH,c,v,gz,iR,yJ,gh,qz,NI,c9,_⟩:=hR.rg.nodes.get bj
 obtain⟨c0,c1,c2,c3,c4,c5,c6⟩:=hR.rg.gis.cells
 rw[iR]at c0
 have dm:((w.alloc (.cells df 179)).setRow w.heap.size c)=w.alloc (.cells c 179):=World.setRow_alloc_new w df c 179
 have ho:=cM NI.one
 have lE:Sz c:=NI.size
 have hz:Sz df:=cy
 have gC:∀j,(w.alloc (.cells c 179)).cell? ⟨w.heap.size,j,none⟩=c[j]?:=fun j=>al (au w _)
 have tg:=ag qu
 have rA:=ag hBw
 have xh:=hW.wf i A.ns[i] (List.getElem?_eq_getElem bj)
 have vV:=fF xh.low
 have ws:=dG c9
 have HB:Hid (ga rs A.ns E (f+1) i ahead L=lT (ga rs A.ns E f) E A.ns[i].kind A.ns[i].subs (decide (A.ns[i].kind=7\/A.ns[i].kind=8)&&E.getD (A.ns[i].subs.getD 0 0) false) ahead
   (if A.ns[i].kind=3/\ahead=true then L.set ((dg rs A.ns[i].name).getD 0) true else L)):=by
  unfold Hid;rw[ga,bA bj]
 have pD:∀j a W,W.length=rs.length->(ga rs A.ns E f j a W).2.length=rs.length:=fun j a W h=>kR f j a W h
 generalize ga rs A.ns E (f+1) i ahead L=R at *
 have k0:c[0]?=some (.int .i64 (A.ns[i].kind:Int)):=NI.kind
 have k4:=NI.name
 have k6:=NI.subs
 have q3:((A.ns[i].kind:Int) == 3)=false:=beq_eq_false_iff_ne.2 (by omega)
 have q7:((A.ns[i].kind:Int) == 7)=true:=beq_iff_eq.2 (by omega)
 obtain⟨x,hx⟩:=xh.one (by omega)
 have mE:0<A.ns[i].subs.length:=by rw[hx];simp
 obtain⟨Pm,YK,jH,Tc⟩:=cD c9 mE
 have hj0:=vV 0 mE
 have Tb:Pm<w.heap.size:=(c9.lt Pm (by rw[jH];rfl)).2
 have Td:∀o,(w.alloc (.cells c 179)).cell? ⟨Pm,o,none⟩=w.cell? ⟨Pm,o,none⟩:=fun o=>World.cell?_alloc_lt _ _ _ Tb
 have So:∀o,(w.alloc (.cells c 179)).cell? ⟨eb,o,none⟩=w.cell? ⟨eb,o,none⟩:=fun o=>World.cell?_alloc_lt _ _ _ tg
 have jb:lT (ga rs A.ns E f) E A.ns[i].kind A.ns[i].subs (E.getD (A.ns[i].subs.getD 0 0) false) ahead L=R:=by
  rw[HB.out,if_neg (fun h=>by have:=h.1;omega),show decide (A.ns[i].kind=7\/A.ns[i].kind=8)=true by simp[hK],Bool.true_and]
 have sz:=ae jb
 have Qu:(0:Int)<(A.ns[i].subs.length:Int):=by omega
 have Se:=qu.cell (i:=A.ns[i].subs.getD 0 0) (by omega)
 have qaW:((A.ns[i].subs.getD 0 0:Nat):Int)<(A.ns.length:Int):=by omega
 generalize Ip:E.getD (A.ns[i].subs.getD 0 0) false=bd at *
 generalize A.ns[i].subs.getD 0 0=j0 at *
 have TG:=k6
 rw[jH]at TG
 clear k6
 have k6:=TG
 clear jb hK hx Ip jH TG
 go_enter Tryz.func88,Tryz.ntmps88
 go_wp2_with fail
 have k9:=hL
 obtain⟨kb,dx⟩:∃kb,kb=w.heap.size:=⟨_,rfl⟩
 rw[<-dx]
 have Ck:wb≠kb:=by omega
 have qv:ai (w.alloc (.cells c 179)) kb=some (.cells c 179 (0,0)):=(by rw[dx];exact au _ _)
 have JO:aA (w.alloc (.cells c 179)) wb L:=(hBw.kept ((aa.refl (fun _=>False) w).alloc _) id)
 have dd:aa (·=wb) w (w.alloc (.cells c 179)):=((aa.refl _ w).alloc _)
 generalize oi:(w.alloc (.cells c 179))=w0 at *
 generalize AL:L=L0 at *
 clear oi AL dx dm gC k0 k4 k6 HB Td So Tc Se
 go_loopg [12,13,3] A.ns[i].subs.length (fun gn v12 v13 v3 wz=>∃(q:Nat) (bad ah:Bool) (W:List Bool),q<=A.ns[i].subs.length/\gn=A.ns[i].subs.length-q/\v12=.bool bad/\v13=.int .i64 q/\v3=.bool ah/\W.length=rs.length/\aA wz wb W/\aa (·=wb) w wz/\ai wz kb=some (.cells c 179 (0,0))/\
  Hid (lT (ga rs A.ns E f) E A.ns[i].kind (A.ns[i].subs.drop q) bad ah W=R))
 case atStart=>exact⟨0,bd,ahead,L0,by omega,rfl,rfl,rfl,rfl,k9,JO,dd,qv,sz.out⟩
 case round=>
  obtain⟨q,bad,ah,W,hq,iI,rfl,rfl,rfl,Az,qX,lD,uo,s6⟩:=hrel
  have lR:=ae iI
  clear iI
  have cU:wr.cell? ⟨kb,261,none⟩=some v:=by rw[al uo];exact NI.subs
  have gH:wr.cell? ⟨kb,0,none⟩=some (.int .i64 (A.ns[i].kind:Int)):=by rw[al uo];exact NI.kind
  have et:=az c9 lD (fun m e h=>by
   obtain⟨x,hx⟩:=ak c9 e
   subst h
   rw[show ai w m=_ from hBw]at hx;simp at hx)
  by_cases hqlt:q<A.ns[i].subs.length
  ·obtain⟨sb,iK,hv,kj⟩:=cD et hqlt
   rw[hv]at cU
   have hj:=vV q hqlt
   have EK:=hR.bools hBw lD
   have kZ:aA wr eb E:=qu.kept lD hew
   have h1:=s6.out
   rw[fH hqlt,lT]at h1
   generalize A.ns[i].subs.getD q 0=j at *
   have gF:=pD j ah W Az
   have bO:=IH base b eb wb j nv rv U ah W wr EK kZ qX hew Az (by omega) (by omega)
   generalize ga rs A.ns E f j ah W=X at *
   obtain⟨xb,X2⟩:=X
   dsimp only at *
   have HC:=ae bO
   have H1:=ae h1
   have mG:(q:Int)<(A.ns[i].subs.length:Int):=by omega
   have AG:(j:Int)<(A.ns.length:Int):=by omega
   clear h1 bO s6 et
   go_wp2_with fail
   refine HC.out.mono ?_
   rintro e w7 ⟨rfl,yv,eE⟩
   have la:=bI uo eE (fun h=>Ck h.symm)
   have jG:=lD.trans eE
   have yw:aA w7 eb E:=kZ.kept eE hew
   have ER:w7.cell? ⟨kb,261,none⟩=some (.slice (some ⟨sb,0,none⟩) A.ns[i].subs.length iK):=by rw[al la,<-hv];exact NI.subs
   have Cj:w7.cell? ⟨kb,0,none⟩=some (.int .i64 (A.ns[i].kind:Int)):=by rw[al la];exact NI.kind
   have Dk:w7.cell? ⟨sb,q,none⟩=some (.int .i64 (j:Int)):=by
    rw[eE.cell (p:=⟨sb,q,none⟩) (World.block_lt_of_cell? _ _ kj) (fun h=>by
     have h2:sb=wb:=h
     subst h2
     have og:=(az c9 lD (fun m e h=>by
      obtain⟨x,hx⟩:=ak c9 e
      subst h
      rw[show ai w m=_ from hBw]at hx;simp at hx))
     obtain⟨x,hx⟩:=ak og (k:=sb) (by rw[hv];rfl)
     rw[show ai wr sb=_ from qX]at hx;simp at hx)]
    exact kj
   have zI:=yw.cell (i:=j) (by omega)
   clear HC EK kZ cU gH kj hv
   by_cases h5:A.ns[i].kind=5
   ·have q5:((A.ns[i].kind:Int) == 5)=true:=beq_iff_eq.2 (by omega)
    cases hEj:E.getD j false
    ·have h2:=H1.out
     rw[if_pos ⟨h5,hEj⟩]at h2
     rw[hEj]at zI
     have H2:=ae h2
     clear h2 H1 h5 hEj
     cases bad
     all_goals
      go_wp2
      go_roundg (A.ns[i].subs.length-(q+1))
      case measure=>have:=lR.out;omega
      case rel=>exact⟨q+1,_,_,X2,by omega,rfl,rfl,by go_num,rfl,gF,yv,jG,la,H2.out⟩
    ·have h2:=H1.out
     rw[if_neg (by rintro⟨_,h⟩;rw[hEj]at h;cases h)]at h2
     rw[hEj]at zI
     have H2:=ae h2
     clear h2 H1 h5 hEj
     cases bad
     all_goals
      go_wp2
      go_roundg (A.ns[i].subs.length-(q+1))
      case measure=>have:=lR.out;omega
      case rel=>exact⟨q+1,_,_,X2,by omega,rfl,rfl,by go_num,rfl,gF,yv,jG,la,H2.out⟩
   ·have q5:((A.ns[i].kind:Int) == 5)=false:=beq_eq_false_iff_ne.2 (by omega)
    have h2:=H1.out
    rw[if_neg (fun h=>h5 h.1)]at h2
    have H2:=ae h2
    clear h2 H1 h5
    cases bad
    all_goals
     go_wp2
     go_roundg (A.ns[i].subs.length-(q+1))
     case measure=>have:=lR.out;omega
     case rel=>exact⟨q+1,_,_,X2,by omega,rfl,rfl,by go_num,rfl,gF,yv,jG,la,H2.out⟩
  ·have h1:=s6.out
   rw[List.drop_of_length_le (by omega),lT]at h1
   subst h1
   obtain⟨p0,oV,jH⟩:=an c9
   rw[jH]at cU
   clear jH s6
   go_wp2
   go_ret
   exact⟨rfl,qX,lD⟩
theorem zY {s:ByteArray}{rs:List Rl}{A:St}{E:List Bool}{f:Nat}(IH:qD s rs A E f)(hW:lK A.ns rs)(hN:∀N∈A.ns,N.kind=3->(dg rs N.name).isSome=true)(hn:A.ns.length<=5000)(hE:E.length=A.ns.length)
  (base b eb wb i:Nat) (nv rv:Value) (U:Nat->Prop) (ahead:Bool) (L:List Bool) (w:World) (hR:lS w base b s nv rv U A rs) (qu:aA w eb E) (hBw:aA w wb L) (hew:eb≠wb) (hL:L.length=rs.length) (bj:i<A.ns.length) (hif:i<f+1) (hK:A.ns[i].kind=8):
  Calls Tryz.prog 88 #[.pointer (some ⟨b,0,none⟩),.int .i64 (i:Int),.slice (some ⟨eb,0,none⟩) A.ns.length A.ns.length,.bool ahead,.slice (some ⟨wb,0,none⟩) rs.length rs.length] w fun e w'=>
   e=.returned (.bool (ga rs A.ns E (f+1) i ahead L).1)/\aA w' wb (ga rs A.ns E (f+1) i ahead L).2/\aa (·=wb) w w':=by
 have GC:=hW.len
 obtain⟨g,iH,c,v,gz,iR,yJ,gh,qz,NI,c9,_⟩:=hR.rg.nodes.get bj
 obtain⟨c0,c1,c2,c3,c4,c5,c6⟩:=hR.rg.gis.cells
 rw[iR]at c0
 have dm:((w.alloc (.cells df 179)).setRow w.heap.size c)=w.alloc (.cells c 179):=World.setRow_alloc_new w df c 179
 have ho:=cM NI.one
 have lE:Sz c:=NI.size
 have hz:Sz df:=cy
 have gC:∀j,(w.alloc (.cells c 179)).cell? ⟨w.heap.size,j,none⟩=c[j]?:=fun j=>al (au w _)
 have tg:=ag qu
 have rA:=ag hBw
 have xh:=hW.wf i A.ns[i] (List.getElem?_eq_getElem bj)
 have vV:=fF xh.low
 have ws:=dG c9
 have HB:Hid (ga rs A.ns E (f+1) i ahead L=lT (ga rs A.ns E f) E A.ns[i].kind A.ns[i].subs (decide (A.ns[i].kind=7\/A.ns[i].kind=8)&&E.getD (A.ns[i].subs.getD 0 0) false) ahead
   (if A.ns[i].kind=3/\ahead=true then L.set ((dg rs A.ns[i].name).getD 0) true else L)):=by
  unfold Hid;rw[ga,bA bj]
 have pD:∀j a W,W.length=rs.length->(ga rs A.ns E f j a W).2.length=rs.length:=fun j a W h=>kR f j a W h
 generalize ga rs A.ns E (f+1) i ahead L=R at *
 have k0:c[0]?=some (.int .i64 (A.ns[i].kind:Int)):=NI.kind
 have k4:=NI.name
 have k6:=NI.subs
 have q3:((A.ns[i].kind:Int) == 3)=false:=beq_eq_false_iff_ne.2 (by omega)
 have q7:((A.ns[i].kind:Int) == 7)=false:=beq_eq_false_iff_ne.2 (by omega)
 have q8:((A.ns[i].kind:Int) == 8)=true:=beq_iff_eq.2 (by omega)
 obtain⟨x,hx⟩:=xh.one (by omega)
 have mE:0<A.ns[i].subs.length:=by rw[hx];simp
 obtain⟨Pm,YK,jH,Tc⟩:=cD c9 mE
 have hj0:=vV 0 mE
 have Tb:Pm<w.heap.size:=(c9.lt Pm (by rw[jH];rfl)).2
 have Td:∀o,(w.alloc (.cells c 179)).cell? ⟨Pm,o,none⟩=w.cell? ⟨Pm,o,none⟩:=fun o=>World.cell?_alloc_lt _ _ _ Tb
 have So:∀o,(w.alloc (.cells c 179)).cell? ⟨eb,o,none⟩=w.cell? ⟨eb,o,none⟩:=fun o=>World.cell?_alloc_lt _ _ _ tg
 have jb:lT (ga rs A.ns E f) E A.ns[i].kind A.ns[i].subs (E.getD (A.ns[i].subs.getD 0 0) false) ahead L=R:=by
  rw[HB.out,if_neg (fun h=>by have:=h.1;omega),show decide (A.ns[i].kind=7\/A.ns[i].kind=8)=true by simp[hK],Bool.true_and]
 have sz:=ae jb
 have Qu:(0:Int)<(A.ns[i].subs.length:Int):=by omega
 have Se:=qu.cell (i:=A.ns[i].subs.getD 0 0) (by omega)
 have qaW:((A.ns[i].subs.getD 0 0:Nat):Int)<(A.ns.length:Int):=by omega
 generalize Ip:E.getD (A.ns[i].subs.getD 0 0) false=bd at *
 generalize A.ns[i].subs.getD 0 0=j0 at *
 have TG:=k6
 rw[jH]at TG
 clear k6
 have k6:=TG
 clear jb hK hx Ip jH TG
 go_enter Tryz.func88,Tryz.ntmps88
 go_wp2_with fail
 have k9:=hL
 obtain⟨kb,dx⟩:∃kb,kb=w.heap.size:=⟨_,rfl⟩
 rw[<-dx]
 have Ck:wb≠kb:=by omega
 have qv:ai (w.alloc (.cells c 179)) kb=some (.cells c 179 (0,0)):=(by rw[dx];exact au _ _)
 have JO:aA (w.alloc (.cells c 179)) wb L:=(hBw.kept ((aa.refl (fun _=>False) w).alloc _) id)
 have dd:aa (·=wb) w (w.alloc (.cells c 179)):=((aa.refl _ w).alloc _)
 generalize oi:(w.alloc (.cells c 179))=w0 at *
 generalize AL:L=L0 at *
 clear oi AL dx dm gC k0 k4 k6 HB Td So Tc Se
 go_loopg [12,13,3] A.ns[i].subs.length (fun gn v12 v13 v3 wz=>∃(q:Nat) (bad ah:Bool) (W:List Bool),q<=A.ns[i].subs.length/\gn=A.ns[i].subs.length-q/\v12=.bool bad/\v13=.int .i64 q/\v3=.bool ah/\W.length=rs.length/\aA wz wb W/\aa (·=wb) w wz/\ai wz kb=some (.cells c 179 (0,0))/\
  Hid (lT (ga rs A.ns E f) E A.ns[i].kind (A.ns[i].subs.drop q) bad ah W=R))
 case atStart=>exact⟨0,bd,ahead,L0,by omega,rfl,rfl,rfl,rfl,k9,JO,dd,qv,sz.out⟩
 case round=>
  obtain⟨q,bad,ah,W,hq,iI,rfl,rfl,rfl,Az,qX,lD,uo,s6⟩:=hrel
  have lR:=ae iI
  clear iI
  have cU:wr.cell? ⟨kb,261,none⟩=some v:=by rw[al uo];exact NI.subs
  have gH:wr.cell? ⟨kb,0,none⟩=some (.int .i64 (A.ns[i].kind:Int)):=by rw[al uo];exact NI.kind
  have et:=az c9 lD (fun m e h=>by
   obtain⟨x,hx⟩:=ak c9 e
   subst h
   rw[show ai w m=_ from hBw]at hx;simp at hx)
  by_cases hqlt:q<A.ns[i].subs.length
  ·obtain⟨sb,iK,hv,kj⟩:=cD et hqlt
   rw[hv]at cU
   have hj:=vV q hqlt
   have EK:=hR.bools hBw lD
   have kZ:aA wr eb E:=qu.kept lD hew
   have h1:=s6.out
   rw[fH hqlt,lT]at h1
   generalize A.ns[i].subs.getD q 0=j at *
   have gF:=pD j ah W Az
   have bO:=IH base b eb wb j nv rv U ah W wr EK kZ qX hew Az (by omega) (by omega)
   generalize ga rs A.ns E f j ah W=X at *
   obtain⟨xb,X2⟩:=X
   dsimp only at *
   have HC:=ae bO
   have H1:=ae h1
   have mG:(q:Int)<(A.ns[i].subs.length:Int):=by omega
   have AG:(j:Int)<(A.ns.length:Int):=by omega
   clear h1 bO s6 et
   go_wp2_with fail
   refine HC.out.mono ?_
   rintro e w7 ⟨rfl,yv,eE⟩
   have la:=bI uo eE (fun h=>Ck h.symm)
   have jG:=lD.trans eE
   have yw:aA w7 eb E:=kZ.kept eE hew
   have ER:w7.cell? ⟨kb,261,none⟩=some (.slice (some ⟨sb,0,none⟩) A.ns[i].subs.length iK):=by rw[al la,<-hv];exact NI.subs
   have Cj:w7.cell? ⟨kb,0,none⟩=some (.int .i64 (A.ns[i].kind:Int)):=by rw[al la];exact NI.kind
   have Dk:w7.cell? ⟨sb,q,none⟩=some (.int .i64 (j:Int)):=by
    rw[eE.cell (p:=⟨sb,q,none⟩) (World.block_lt_of_cell? _ _ kj) (fun h=>by
     have h2:sb=wb:=h
     subst h2
     have og:=(az c9 lD (fun m e h=>by
      obtain⟨x,hx⟩:=ak c9 e
      subst h
      rw[show ai w m=_ from hBw]at hx;simp at hx))
     obtain⟨x,hx⟩:=ak og (k:=sb) (by rw[hv];rfl)
     rw[show ai wr sb=_ from qX]at hx;simp at hx)]
    exact kj
   have zI:=yw.cell (i:=j) (by omega)
   clear HC EK kZ cU gH kj hv
   by_cases h5:A.ns[i].kind=5
   ·have q5:((A.ns[i].kind:Int) == 5)=true:=beq_iff_eq.2 (by omega)
    cases hEj:E.getD j false
    ·have h2:=H1.out
     rw[if_pos ⟨h5,hEj⟩]at h2
     rw[hEj]at zI
     have H2:=ae h2
     clear h2 H1 h5 hEj
     cases bad
     all_goals
      go_wp2
      go_roundg (A.ns[i].subs.length-(q+1))
      case measure=>have:=lR.out;omega
      case rel=>exact⟨q+1,_,_,X2,by omega,rfl,rfl,by go_num,rfl,gF,yv,jG,la,H2.out⟩
    ·have h2:=H1.out
     rw[if_neg (by rintro⟨_,h⟩;rw[hEj]at h;cases h)]at h2
     rw[hEj]at zI
     have H2:=ae h2
     clear h2 H1 h5 hEj
     cases bad
     all_goals
      go_wp2
      go_roundg (A.ns[i].subs.length-(q+1))
      case measure=>have:=lR.out;omega
      case rel=>exact⟨q+1,_,_,X2,by omega,rfl,rfl,by go_num,rfl,gF,yv,jG,la,H2.out⟩
   ·have q5:((A.ns[i].kind:Int) == 5)=false:=beq_eq_false_iff_ne.2 (by omega)
    have h2:=H1.out
    rw[if_neg (fun h=>h5 h.1)]at h2
    have H2:=ae h2
    clear h2 H1 h5
    cases bad
    all_goals
     go_wp2
     go_roundg (A.ns[i].subs.length-(q+1))
     case measure=>have:=lR.out;omega
     case rel=>exact⟨q+1,_,_,X2,by omega,rfl,rfl,by go_num,rfl,gF,yv,jG,la,H2.out⟩
  ·have h1:=s6.out
   rw[List.drop_of_length_le (by omega),lT]at h1
   subst h1
   obtain⟨p0,oV,jH⟩:=an c9
   rw[jH]at cU
   clear jH s6
   go_wp2
   go_ret
   exact⟨rfl,qX,lD⟩
theorem yh {s:ByteArray}{rs:List Rl}{A:St}{E:List Bool}{f:Nat}(IH:qD s rs A E f)(hW:lK A.ns rs)(hN:∀N∈A.ns,N.kind=3->(dg rs N.name).isSome=true)(hn:A.ns.length<=5000)(hE:E.length=A.ns.length)
  (base b eb wb i:Nat) (nv rv:Value) (U:Nat->Prop) (ahead:Bool) (L:List Bool) (w:World) (hR:lS w base b s nv rv U A rs) (qu:aA w eb E) (hBw:aA w wb L) (hew:eb≠wb) (hL:L.length=rs.length) (bj:i<A.ns.length) (hif:i<f+1) (h3:A.ns[i].kind=3) (ha:ahead=true):
  Calls Tryz.prog 88 #[.pointer (some ⟨b,0,none⟩),.int .i64 (i:Int),.slice (some ⟨eb,0,none⟩) A.ns.length A.ns.length,.bool ahead,.slice (some ⟨wb,0,none⟩) rs.length rs.length] w fun e w'=>
   e=.returned (.bool (ga rs A.ns E (f+1) i ahead L).1)/\aA w' wb (ga rs A.ns E (f+1) i ahead L).2/\aa (·=wb) w w':=by
 have GC:=hW.len
 obtain⟨g,iH,c,v,gz,iR,yJ,gh,qz,NI,c9,_⟩:=hR.rg.nodes.get bj
 obtain⟨c0,c1,c2,c3,c4,c5,c6⟩:=hR.rg.gis.cells
 rw[iR]at c0
 have dm:((w.alloc (.cells df 179)).setRow w.heap.size c)=w.alloc (.cells c 179):=World.setRow_alloc_new w df c 179
 have ho:=cM NI.one
 have lE:Sz c:=NI.size
 have hz:Sz df:=cy
 have gC:∀j,(w.alloc (.cells c 179)).cell? ⟨w.heap.size,j,none⟩=c[j]?:=fun j=>al (au w _)
 have tg:=ag qu
 have rA:=ag hBw
 have xh:=hW.wf i A.ns[i] (List.getElem?_eq_getElem bj)
 have vV:=fF xh.low
 have ws:=dG c9
 have HB:Hid (ga rs A.ns E (f+1) i ahead L=lT (ga rs A.ns E f) E A.ns[i].kind A.ns[i].subs (decide (A.ns[i].kind=7\/A.ns[i].kind=8)&&E.getD (A.ns[i].subs.getD 0 0) false) ahead
   (if A.ns[i].kind=3/\ahead=true then L.set ((dg rs A.ns[i].name).getD 0) true else L)):=by
  unfold Hid;rw[ga,bA bj]
 have pD:∀j a W,W.length=rs.length->(ga rs A.ns E f j a W).2.length=rs.length:=fun j a W h=>kR f j a W h
 generalize ga rs A.ns E (f+1) i ahead L=R at *
 have k0:c[0]?=some (.int .i64 (A.ns[i].kind:Int)):=NI.kind
 have k4:=NI.name
 have k6:=NI.subs
 subst ha
 have q3:((A.ns[i].kind:Int) == 3)=true:=beq_iff_eq.2 (by omega)
 have q7:((A.ns[i].kind:Int) == 7)=false:=beq_eq_false_iff_ne.2 (by omega)
 have q8:((A.ns[i].kind:Int) == 8)=false:=beq_eq_false_iff_ne.2 (by omega)
 obtain⟨fi,vC⟩:=Option.isSome_iff_exists.1 (hN A.ns[i] (List.getElem_mem _) h3)
 have Sr:=kY vC
 have xn:j9 rs A.ns[i].name=(fi:Int):=by unfold j9;rw[vC]
 have jb:lT (ga rs A.ns E f) E A.ns[i].kind A.ns[i].subs false true (L.set fi true)=R:=by
  rw[HB.out,if_pos ⟨h3,rfl⟩,vC,show decide (A.ns[i].kind=7\/A.ns[i].kind=8)=false by simp[h3]];rfl
 have sz:=ae jb
 have fT:=g9 b s base nv rv A.sc rs A.ns[i].name
 rw[xn]at fT
 have HF:=ae fT
 have C2:=hR.alloc (.cells c 179)
 have UC:aA (w.alloc (.cells c 179)) wb L:=hBw.kept ((aa.refl (fun _=>False) w).alloc _) id
 have Ti:=UC.cell (i:=fi) (by omega)
 have K8:=UC.frozen fi
 have qcF:(fi:Int)<(rs.length:Int):=by omega
 have eh:(w.alloc (.cells c 179)).cell? ⟨w.heap.size,0,none⟩=some (.int .i64 (A.ns[i].kind:Int)):=by rw[gC];exact k0
 have qaX:((w.alloc (.cells c 179)).setCell ⟨wb,fi,none⟩ (.bool true)).cell? ⟨w.heap.size,0,none⟩=some (.int .i64 (A.ns[i].kind:Int)):=by
  rw[World.cell?_setCell_other _ _ _ _ (by intro h;simp at h <;> omega)];exact eh
 clear jb h3 vC xn fT
 go_enter Tryz.func88,Tryz.ntmps88
 go_wp2_with fail
 refine(HF.out _ C2.rg.gis C2.ru GC).mono ?_
 rintro e w' ⟨rfl,rfl⟩
 go_wp2_with fail
 have k9:(L.set fi true).length=rs.length:=by simp[hL]
 obtain⟨kb,dx⟩:∃kb,kb=w.heap.size:=⟨_,rfl⟩
 rw[<-dx]
 have Ck:wb≠kb:=by omega
 have qv:ai ((w.setCell ⟨wb,fi,none⟩ (.bool true)).alloc (.cells c 179)) kb=some (.cells c 179 (0,0)):=(by rw[dx];have h9:=au (w.setCell ⟨wb,fi,none⟩ (.bool true)) (.cells c 179);rw[show (w.setCell ⟨wb,fi,none⟩ (.bool true)).heap.size=w.heap.size by simp[World.setCell]]at h9;exact h9)
 have JO:aA ((w.setCell ⟨wb,fi,none⟩ (.bool true)).alloc (.cells c 179)) wb (L.set fi true):=((hBw.set fi true).kept ((aa.refl (fun _=>False) _).alloc _) id)
 have dd:aa (·=wb) w ((w.setCell ⟨wb,fi,none⟩ (.bool true)).alloc (.cells c 179)):=(((aa.refl (·=wb) w).setCell (fun _=>rfl) _).alloc _)
 generalize oi:((w.setCell ⟨wb,fi,none⟩ (.bool true)).alloc (.cells c 179))=w0 at *
 generalize AL:(L.set fi true)=L0 at *
 clear oi AL dx dm gC k0 k4 k6 HB eh qaX Ti K8 UC C2
 go_loopg [12,13,3] A.ns[i].subs.length (fun gn v12 v13 v3 wz=>∃(q:Nat) (bad ah:Bool) (W:List Bool),q<=A.ns[i].subs.length/\gn=A.ns[i].subs.length-q/\v12=.bool bad/\v13=.int .i64 q/\v3=.bool ah/\W.length=rs.length/\aA wz wb W/\aa (·=wb) w wz/\ai wz kb=some (.cells c 179 (0,0))/\
  Hid (lT (ga rs A.ns E f) E A.ns[i].kind (A.ns[i].subs.drop q) bad ah W=R))
 case atStart=>exact⟨0,false,true,L0,by omega,rfl,rfl,rfl,rfl,k9,JO,dd,qv,sz.out⟩
 case round=>
  obtain⟨q,bad,ah,W,hq,iI,rfl,rfl,rfl,Az,qX,lD,uo,s6⟩:=hrel
  have lR:=ae iI
  clear iI
  have cU:wr.cell? ⟨kb,261,none⟩=some v:=by rw[al uo];exact NI.subs
  have gH:wr.cell? ⟨kb,0,none⟩=some (.int .i64 (A.ns[i].kind:Int)):=by rw[al uo];exact NI.kind
  have et:=az c9 lD (fun m e h=>by
   obtain⟨x,hx⟩:=ak c9 e
   subst h
   rw[show ai w m=_ from hBw]at hx;simp at hx)
  by_cases hqlt:q<A.ns[i].subs.length
  ·obtain⟨sb,iK,hv,kj⟩:=cD et hqlt
   rw[hv]at cU
   have hj:=vV q hqlt
   have EK:=hR.bools hBw lD
   have kZ:aA wr eb E:=qu.kept lD hew
   have h1:=s6.out
   rw[fH hqlt,lT]at h1
   generalize A.ns[i].subs.getD q 0=j at *
   have gF:=pD j ah W Az
   have bO:=IH base b eb wb j nv rv U ah W wr EK kZ qX hew Az (by omega) (by omega)
   generalize ga rs A.ns E f j ah W=X at *
   obtain⟨xb,X2⟩:=X
   dsimp only at *
   have HC:=ae bO
   have H1:=ae h1
   have mG:(q:Int)<(A.ns[i].subs.length:Int):=by omega
   have AG:(j:Int)<(A.ns.length:Int):=by omega
   clear h1 bO s6 et
   go_wp2_with fail
   refine HC.out.mono ?_
   rintro e w7 ⟨rfl,yv,eE⟩
   have la:=bI uo eE (fun h=>Ck h.symm)
   have jG:=lD.trans eE
   have yw:aA w7 eb E:=kZ.kept eE hew
   have ER:w7.cell? ⟨kb,261,none⟩=some (.slice (some ⟨sb,0,none⟩) A.ns[i].subs.length iK):=by rw[al la,<-hv];exact NI.subs
   have Cj:w7.cell? ⟨kb,0,none⟩=some (.int .i64 (A.ns[i].kind:Int)):=by rw[al la];exact NI.kind
   have Dk:w7.cell? ⟨sb,q,none⟩=some (.int .i64 (j:Int)):=by
    rw[eE.cell (p:=⟨sb,q,none⟩) (World.block_lt_of_cell? _ _ kj) (fun h=>by
     have h2:sb=wb:=h
     subst h2
     have og:=(az c9 lD (fun m e h=>by
      obtain⟨x,hx⟩:=ak c9 e
      subst h
      rw[show ai w m=_ from hBw]at hx;simp at hx))
     obtain⟨x,hx⟩:=ak og (k:=sb) (by rw[hv];rfl)
     rw[show ai wr sb=_ from qX]at hx;simp at hx)]
    exact kj
   have zI:=yw.cell (i:=j) (by omega)
   clear HC EK kZ cU gH kj hv
   by_cases h5:A.ns[i].kind=5
   ·have q5:((A.ns[i].kind:Int) == 5)=true:=beq_iff_eq.2 (by omega)
    cases hEj:E.getD j false
    ·have h2:=H1.out
     rw[if_pos ⟨h5,hEj⟩]at h2
     rw[hEj]at zI
     have H2:=ae h2
     clear h2 H1 h5 hEj
     cases bad
     all_goals
      go_wp2
      go_roundg (A.ns[i].subs.length-(q+1))
      case measure=>have:=lR.out;omega
      case rel=>exact⟨q+1,_,_,X2,by omega,rfl,rfl,by go_num,rfl,gF,yv,jG,la,H2.out⟩
    ·have h2:=H1.out
     rw[if_neg (by rintro⟨_,h⟩;rw[hEj]at h;cases h)]at h2
     rw[hEj]at zI
     have H2:=ae h2
     clear h2 H1 h5 hEj
     cases bad
     all_goals
      go_wp2
      go_roundg (A.ns[i].subs.length-(q+1))
      case measure=>have:=lR.out;omega
      case rel=>exact⟨q+1,_,_,X2,by omega,rfl,rfl,by go_num,rfl,gF,yv,jG,la,H2.out⟩
   ·have q5:((A.ns[i].kind:Int) == 5)=false:=beq_eq_false_iff_ne.2 (by omega)
    have h2:=H1.out
    rw[if_neg (fun h=>h5 h.1)]at h2
    have H2:=ae h2
    clear h2 H1 h5
    cases bad
    all_goals
     go_wp2
     go_roundg (A.ns[i].subs.length-(q+1))
     case measure=>have:=lR.out;omega
     case rel=>exact⟨q+1,_,_,X2,by omega,rfl,rfl,by go_num,rfl,gF,yv,jG,la,H2.out⟩
  ·have h1:=s6.out
   rw[List.drop_of_length_le (by omega),lT]at h1
   subst h1
   obtain⟨p0,oV,jH⟩:=an c9
   rw[jH]at cU
   clear jH s6
   go_wp2
   go_ret
   exact⟨rfl,qX,lD⟩
theorem r7 {s:ByteArray}{rs:List Rl}{A:St}{E:List Bool}(hW:lK A.ns rs)(hN:∀N∈A.ns,N.kind=3->(dg rs N.name).isSome=true)(hn:A.ns.length<=5000)(hE:E.length=A.ns.length):∀f,qD s rs A E f
 | 0=>fun base b eb wb i nv rv U ahead L w hR qu hBw hew hL bj hif=>absurd hif (by omega)
 | f+1=>fun base b eb wb i nv rv U ahead L w hR qu hBw hew hL bj hif=>by
  have IH:=r7 (s:=s) hW hN hn hE f
  by_cases h3:A.ns[i].kind=3
  ·cases ha:ahead
   ·exact vO IH hW hN hn hE base b eb wb i nv rv U false L w hR qu hBw hew hL bj hif h3 rfl
   ·exact yh IH hW hN hn hE base b eb wb i nv rv U true L w hR qu hBw hew hL bj hif h3 rfl
  ·by_cases h7:A.ns[i].kind=7
   ·exact zX IH hW hN hn hE base b eb wb i nv rv U ahead L w hR qu hBw hew hL bj hif h7
   ·by_cases h8:A.ns[i].kind=8
    ·exact zY IH hW hN hn hE base b eb wb i nv rv U ahead L w hR qu hBw hew hL bj hif h8
    ·exact yi IH hW hN hn hE base b eb wb i nv rv U ahead L w hR qu hBw hew hL bj hif h3 h7 h8
end Go.Proofs.YtagklnaaoclmhaaGreatDoor
namespace Go.Proofs.YtagklnaaoclmhaaGreatDoor
open Go.RowKit
structure ec (w:World)(lb n:Nat)(dF:List Nat)(M:List (List Bool)):Prop where
 obj:ai w lb=some (.cells ((dF.map (fun m=>Value.slice (some ⟨m,0,none⟩) n n))++List.replicate (n-dF.length) (Value.slice none 0 0)).toArray 162 (0,0))
 row:∀i,i<dF.length->aA w (dF.getD i 0) (M.getD i [])
 len:M.length=dF.length
 lenr:∀i,i<dF.length->(M.getD i []).length=n
 dup:∀i j,i<dF.length->j<dF.length->dF.getD i 0=dF.getD j 0->i=j
 le:dF.length<=n
theorem ec.cell {w:World}{lb n:Nat}{dF:List Nat}{M:List (List Bool)}(h:ec w lb n dF M){i:Nat}(hi:i<dF.length):w.cell? ⟨lb,i,none⟩=some (.slice (some ⟨dF.getD i 0,0,none⟩) n n):=by
 rw[al h.obj]
 simp[List.getElem?_append_left,hi,List.getD]
theorem ec.spare {w:World}{lb n:Nat}{dF:List Nat}{M:List (List Bool)}(h:ec w lb n dF M){i:Nat}(hi:i<n):(∃u,w.cell? ⟨lb,i,none⟩=some u)/\w.frozen? ⟨lb,i,none⟩=false:=by
 refine⟨?_,bh h.obj⟩
 rw[al h.obj]
 exact⟨_,Array.getElem?_eq_getElem (by have:=h.le;simp;omega)⟩
theorem ec.kept {S:Nat->Prop}{w w':World}{lb n:Nat}{dF:List Nat}{M:List (List Bool)}(h:ec w lb n dF M)(hk:aa S w w')(h1:¬S lb)(h2:∀i,i<dF.length->¬S (dF.getD i 0)):ec w' lb n dF M:=
 ⟨bI h.obj hk h1,fun i hi=>(h.row i hi).kept hk (h2 i hi),h.len,h.lenr,h.dup,h.le⟩
theorem ec.nlb {w:World}{lb n:Nat}{dF:List Nat}{M:List (List Bool)}(h:ec w lb n dF M){x:Nat}{L:List Bool}(hx:aA w x L):x≠lb:=by
 rintro rfl
 have h1:=h.obj
 rw[show ai w x=_ from hx]at h1
 simp at h1
theorem ec.push {w:World}{lb n m:Nat}{dF:List Nat}{M:List (List Bool)}{L:List Bool}(h:ec w lb n dF M)(hi:dF.length<n)(hm:aA w m L)(hL:L.length=n)(hn:∀i,i<dF.length->dF.getD i 0≠m):
  ec (w.setCell ⟨lb,dF.length,none⟩ (.slice (some ⟨m,0,none⟩) n n)) lb n (dF++[m]) (M++[L]):=by
 have wl:=h.nlb hm
 have hK:aa (·=lb) w (w.setCell ⟨lb,dF.length,none⟩ (.slice (some ⟨m,0,none⟩) n n)):=(aa.refl (·=lb) w).setCell (fun _=>rfl) _
 refine⟨?_,fun i eM=>?_,by simp[h.len],fun i eM=>?_,fun i j eM AG e=>?_,by simp;omega⟩
 ·rw[gw h.obj]
  congr 2
  apply Array.ext'
  rw[Array.toList_setIfInBounds]
  simp only[List.map_append,List.map_cons,List.map_nil,List.length_append,List.length_cons,List.length_nil]
  rw[List.set_append_right _ _ (by simp),List.length_map,Nat.sub_self,show n-dF.length=(n-(dF.length+1))+1 by omega,List.replicate_succ,List.set_cons_zero]
  simp
 ·simp only[List.length_append,List.length_cons,List.length_nil]at eM
  by_cases bj:i<dF.length
  ·rw[bo bj,bo (by rw[h.len];exact bj)]
   exact(h.row i bj).kept hK (fun e=>(h.nlb (h.row i bj)) e)
  ·have:i=dF.length:=by omega
   subst this
   rw[cn (by omega),cn (by rw[h.len];omega),h.len,Nat.sub_self]
   exact hm.kept hK wl
 ·simp only[List.length_append,List.length_cons,List.length_nil]at eM
  by_cases bj:i<dF.length
  ·rw[bo (by rw[h.len];exact bj)];exact h.lenr i bj
  ·rw[cn (by rw[h.len];omega),show i-M.length=0 by rw[h.len];omega];exact hL
 ·simp only[List.length_append,List.length_cons,List.length_nil]at eM AG
  by_cases bj:i<dF.length
  ·by_cases hjt:j<dF.length
   ·rw[bo bj,bo hjt]at e;exact h.dup i j bj hjt e
   ·rw[bo bj,cn (by omega),show j-dF.length=0 by omega]at e
    exact absurd e (hn i bj)
  ·by_cases hjt:j<dF.length
   ·rw[bo hjt,cn (by omega),show i-dF.length=0 by omega]at e
    exact absurd e.symm (hn j hjt)
   ·omega
theorem ec.set {w:World}{lb n i j:Nat}{dF:List Nat}{M:List (List Bool)}(h:ec w lb n dF M)(hi:i<dF.length)(v:Bool):
  ec (w.setCell ⟨dF.getD i 0,j,none⟩ (.bool v)) lb n dF (M.set i ((M.getD i []).set j v)):=by
 have hK:aa (·=dF.getD i 0) w (w.setCell ⟨dF.getD i 0,j,none⟩ (.bool v)):=(aa.refl (·=dF.getD i 0) w).setCell (fun _=>rfl) _
 have hM:i<M.length:=by rw[h.len];exact hi
 refine⟨bI h.obj hK (fun e=>h.nlb (h.row i hi) e.symm),fun t ht=>?_,by simp[h.len],fun t ht=>?_,h.dup,h.le⟩
 ·by_cases e:t=i
  ·subst e
   rw[show (M.set t ((M.getD t []).set j v)).getD t []=(M.getD t []).set j v by simp[List.getD,hM]]
   exact(h.row t ht).set j v
  ·rw[show (M.set i ((M.getD i []).set j v)).getD t []=M.getD t [] by simp[List.getD,List.getElem?_set,Ne.symm e]]
   exact(h.row t ht).kept hK (fun e'=>e (h.dup t i ht hi e'))
 ·by_cases e:t=i
  ·subst e
   rw[show (M.set t ((M.getD t []).set j v)).getD t []=(M.getD t []).set j v by simp[List.getD,hM]]
   simp only[List.length_set];exact h.lenr t ht
  ·rw[show (M.set i ((M.getD i []).set j v)).getD t []=M.getD t [] by simp[List.getD,List.getElem?_set,Ne.symm e]]
   exact h.lenr t ht
theorem Tt:(Tryz.prog.info? 162).map (fun i=>(i.zero,i.size,i.bytes))=some (some (.slice none 0 0),1,24):=by kernel_rfl
theorem YC (W:World)(n:Nat)(hn:n<=5000):(Instr.makeSlice 181 (.int .i64 (n:Int)) (.int .i64 (n:Int))).run Tryz.prog W=.ok (.slice (some ⟨W.heap.size,0,none⟩) n n) (W.alloc (.cells (Array.replicate n (.slice none 0 0)) 162)):=by
 obtain⟨i0,iC,gH,iD,iz⟩:=info_parts Tt
 have hr:=run_make (P:=Tryz.prog) W 181 162 i0 _ Tryz.underlying181 iC gH .i64 .i64 n n (by omega) (Int.le_refl _) (by rw[iz];omega) (by omega)
 rw[hr]
 simp only[Int.toNat_natCast,iD,Nat.mul_one]
 have hz:(Value.slice none 0 0).cells=#[.slice none 0 0]:=rfl
 have:madeCells (Value.slice none 0 0).cells n=Array.replicate n (.slice none 0 0):=by
  apply Array.ext'
  rw[hz,toList_madeCells_one];simp
 rw[this]
theorem Dz (W:World)(n:Nat):ec (W.alloc (.cells (Array.replicate n (.slice none 0 0)) 162)) W.heap.size n [] []:=by
 refine⟨?_,fun i h=>absurd h (by simp),rfl,fun i h=>absurd h (by simp),fun i j h=>absurd h (by simp),by simp⟩
 rw[au]
 simp
theorem ec.last {w w':World}{lb n m:Nat}{dF:List Nat}{M:List (List Bool)}{L L':List Bool}(h:ec w lb n (dF++[m]) (M++[L]))(hk:aa (·=m) w w')(hm:aA w' m L')(hL:L'.length=n):ec w' lb n (dF++[m]) (M++[L']):=by
 have hMl:M.length=dF.length:=by have:=h.len;simp at this;exact this
 have dV:(dF++[m]).getD dF.length 0=m:=by rw[cn (Nat.le_refl _)];simp
 have hrm:=h.row dF.length (by simp)
 rw[dV]at hrm
 have wl:=h.nlb hrm
 refine⟨bI h.obj hk (fun e=>wl e.symm),fun i hi=>?_,by simp[hMl],fun i hi=>?_,h.dup,h.le⟩
 ·simp only[List.length_append,List.length_cons,List.length_nil]at hi
  by_cases bj:i<dF.length
  ·have h1:=h.row i (by simp;omega)
   rw[bo bj]at h1 ⊢
   rw[bo (by omega)]at h1 ⊢
   refine h1.kept hk (fun e=>?_)
   have:=h.dup i dF.length (by simp;omega) (by simp) (by rw[bo bj,dV];exact e)
   omega
  ·have:i=dF.length:=by omega
   subst this
   rw[dV,cn (by omega),hMl,Nat.sub_self]
   exact hm
 ·simp only[List.length_append,List.length_cons,List.length_nil]at hi
  by_cases bj:i<dF.length
  ·have h1:=h.lenr i (by simp;omega)
   rw[bo (by omega)]at h1 ⊢
   exact h1
  ·rw[cn (by omega),show i-M.length=0 by omega];exact hL
structure vK (w0 w:World)(lb bb n:Nat)(dF:List Nat)(M:List (List Bool))(B:List Bool):Prop where
 lead:ec w lb n dF M
 bad:aA w bb B
 full:dF.length=n
 nb:∀i,i<dF.length->dF.getD i 0≠bb
 kept:aa (fun _=>False) w0 w
 new:∀i,i<dF.length->w0.heap.size<=dF.getD i 0
theorem vK.set {w0 w:World}{lb bb n i j:Nat}{dF:List Nat}{M:List (List Bool)}{B:List Bool}(h:vK w0 w lb bb n dF M B)(hi:i<dF.length)(v:Bool):vK w0 (w.setCell ⟨dF.getD i 0,j,none⟩ (.bool v)) lb bb n dF (M.set i ((M.getD i []).set j v)) B:=
 ⟨h.lead.set hi v,h.bad.kept ((aa.refl (·=dF.getD i 0) w).setCell (fun _=>rfl) _) (fun e=>h.nb i hi e.symm),h.full,h.nb,h.kept.setCell (fun e=>by have:=h.new i hi;exact absurd e (by simp only;omega)) _,h.new⟩
theorem vK.drew {w0 w:World}{lb bb n:Nat}{dF:List Nat}{M:List (List Bool)}{B:List Bool}(h:vK w0 w lb bb n dF M B):vK w0 w.drew lb bb n dF M B:=
 ⟨⟨h.lead.obj,h.lead.row,h.lead.len,h.lead.lenr,h.lead.dup,h.lead.le⟩,h.bad,h.full,h.nb,h.kept.drew,h.new⟩
theorem Ao (b base:Nat)(s:ByteArray)(nv rv:Value)(U:Nat->Prop)(A:St)(rs:List Rl)(w:World)(hR:lS w base b s nv rv U A rs)(hW:lK A.ns rs)
  (hN:∀N∈A.ns,N.kind=3->(dg rs N.name).isSome=true) (hn:A.ns.length<=5000):
  Calls Tryz.prog 56 #[.pointer (some ⟨b,0,none⟩)] w fun e w'=>e=.returned (.int .i64 (dc rs A.ns))/\aa (fun _=>False) w w':=by
 have GC:=hW.len
 obtain⟨p0,Ja,dU⟩:=an (show w.ownsRow base 132 3 rv rs.length (rs.flatMap f9) from hR.ru)
 have HE:Hid (∀i,CS rs A.ns=some i->dc rs A.ns=((rs.map Rl.at_).getD i 0:Nat)):=fun i h=>by unfold dc;rw[h]
 have HE0:Hid (CS rs A.ns=none->dc rs A.ns=-1):=fun h=>by unfold dc;rw[h]
 go_enter Tryz.func56,Tryz.ntmps56
 go_wp2_with fail
 refine(Ge b base s nv rv U A rs w hR hW hN hn).mono ?_
 rintro e w1 ⟨rfl,qu,dd⟩
 obtain⟨eb,tg⟩:∃eb,eb=w.heap.size:=⟨_,rfl⟩
 rw[<-tg]at qu ⊢
 have Zc:=ae tg
 clear tg
 have jM:=hR.kept dd (fun _ x=>x.elim)
 obtain⟨c0,c1,c2,c3,c4,c5,c6⟩:=jM.rg.gis.cells
 rw[dU]at c1
 have qa8:=YC w1 rs.length (by omega)
 have XL:=mkB (w1.alloc (.cells (Array.replicate rs.length (.slice none 0 0)) 162)) rs.length (by omega)
 have sV:(w1.alloc (.cells (Array.replicate rs.length (.slice none 0 0)) 162)).heap.size=w1.heap.size+1:=by simp
 rw[sV]at XL
 have qcC:=ag qu
 go_wp2_with fail
 have hL0:=(Dz w1 rs.length)
 have hB0:=rG (w1.alloc (.cells (Array.replicate rs.length (.slice none 0 0)) 162)) rs.length
 rw[sV]at hB0
 have dl:aa (fun _=>False) w1 ((w1.alloc (.cells (Array.replicate rs.length (.slice none 0 0)) 162)).alloc (.cells (Array.replicate rs.length (.bool false)) 4)):=((aa.refl _ w1).alloc _).alloc _
 have Ik:=hL0.kept ((aa.refl (fun _=>False) _).alloc (.cells (Array.replicate rs.length (.bool false)) 4)) id (fun _ _=>id)
 obtain⟨lb,AI⟩:∃lb,lb=w1.heap.size:=⟨_,rfl⟩
 obtain⟨bb,kM⟩:∃bb,bb=w1.heap.size+1:=⟨_,rfl⟩
 rw[<-AI]at Ik
 rw[<-kM]at hB0
 rw[<-kM,<-AI]
 have Hlb:=ae AI
 have Hbb:=ae kM
 clear AI kM qa8 XL hL0 sV
 generalize gQ:((w1.alloc (.cells (Array.replicate rs.length (.slice none 0 0)) 162)).alloc (.cells (Array.replicate rs.length (.bool false)) 4))=w2 at *
 clear gQ
 have XG:(ir rs A.ns).length=A.ns.length:=fY rs A.ns _
 have C0:=dl
 go_loopg [7] rs.length (fun gn v wx=>∃(i:Nat) (dF:List Nat),i<=rs.length/\gn=rs.length-i/\v=.int .i64 i/\dF.length=i/\ec wx lb rs.length dF (dM rs A.ns i)/\aA wx bb (iO rs A.ns i)/\(∀t,t<dF.length->dF.getD t 0≠bb)/\aa (fun _=>False) w1 wx/\(∀t,t<dF.length->w1.heap.size<=dF.getD t 0))
 case atStart=>exact⟨0,[],by omega,rfl,rfl,rfl,Ik,by rw[F9];exact hB0,fun t h=>absurd h (by simp),dl,fun t h=>absurd h (by simp)⟩
 case round=>
  obtain⟨i,dF,hi,Xq,rfl,wl,R6,P9,oe,vU,yI⟩:=hrel
  obtain⟨wx,hwx⟩:∃m,m=wr:=⟨wr,rfl⟩
  subst hwx
  have HGI:=ae Xq
  clear Xq
  have hRx:=jM.kept vU (fun _ x=>x.elim)
  have qan:aA wx eb (ir rs A.ns):=qu.kept vU id
  by_cases hilt:i<rs.length
  ·have ld:=mkB wx rs.length (by omega)
   obtain⟨⟨u,hu⟩,hfu⟩:=R6.spare hilt
   have SD:=ag R6.obj
   have ri:∀o,(wx.alloc (.cells (Array.replicate rs.length (.bool false)) 4)).cell? ⟨lb,o,none⟩=wx.cell? ⟨lb,o,none⟩:=fun o=>World.cell?_alloc_lt _ _ _ SD
   have mz:∀o,(wx.alloc (.cells (Array.replicate rs.length (.bool false)) 4)).frozen? ⟨lb,o,none⟩=wx.frozen? ⟨lb,o,none⟩:=fun o=>World.frozen?_alloc_past _ _ _ SD
   have Xu:(i:Int)<(rs.length:Int):=by omega
   have qcQ:(0:Int)<=(i:Int):=by omega
   obtain⟨mb,AQ⟩:∃mb,mb=wx.heap.size:=⟨_,rfl⟩
   have qcu:=ag P9
   have qde:=vU.size
   have Uq:=ae wl
   have h3:∀W,(W=(wx.alloc (.cells (Array.replicate rs.length (.bool false)) 4)).setCell ⟨lb,i,none⟩ (.slice (some ⟨mb,0,none⟩) rs.length rs.length)\/W=(wx.setCell ⟨lb,i,none⟩ (.slice (some ⟨mb,0,none⟩) rs.length rs.length)).alloc (.cells (Array.replicate rs.length (.bool false)) 4))->
     ec W lb rs.length (dF++[mb]) (dM rs A.ns i++[List.replicate rs.length false])/\aA W bb (iO rs A.ns i)/\aA W mb (List.replicate rs.length false)/\aa (fun _=>False) w1 W:=by
    intro W hWW
    have qcU:w1.heap.size<=lb:=by have:=Hlb.out;omega
    have qbg:=R6.nlb P9
    have e1:W=(wx.alloc (.cells (Array.replicate rs.length (.bool false)) 4)).setCell ⟨lb,i,none⟩ (.slice (some ⟨mb,0,none⟩) rs.length rs.length):=by
     rcases hWW with h | h
     ·exact h
     ·rw[h];exact(World.setCell_alloc_past (w:=wx) _ _ _ _ SD).symm
    subst e1
    have sf:aa (fun _=>False) wx (wx.alloc (.cells (Array.replicate rs.length (.bool false)) 4)):=(aa.refl _ wx).alloc _
    have hL9:=R6.kept sf id (fun _ _=>id)
    have UC:aA (wx.alloc (.cells (Array.replicate rs.length (.bool false)) 4)) mb (List.replicate rs.length false):=by rw[AQ];exact rG wx _
    have hp:=hL9.push (by rw[Uq.out];exact hilt) UC (by simp) (fun t ht e=>by have:=ag (R6.row t ht);omega)
    rw[Uq.out]at hp
    have jW:aa (·=lb) (wx.alloc (.cells (Array.replicate rs.length (.bool false)) 4)) ((wx.alloc (.cells (Array.replicate rs.length (.bool false)) 4)).setCell ⟨lb,i,none⟩ (.slice (some ⟨mb,0,none⟩) rs.length rs.length)):=(aa.refl (·=lb) _).setCell (fun _=>rfl) _
    exact⟨hp,(P9.kept sf id).kept jW qbg,UC.kept jW (by omega),(vU.alloc _).setCell (fun h=>absurd h (by simp only;omega)) _⟩
   rw[<-AQ]at ld
   have Hmb:=ae AQ
   have H3:=ae h3
   clear AQ h3 wl
   go_wp2_with fail
   have Sq:=H3.out ((wx.setCell ⟨lb,i,none⟩ (.slice (some ⟨mb,0,none⟩) rs.length rs.length)).alloc (.cells (Array.replicate rs.length (.bool false)) 4)) (Or.inr rfl)
   generalize hW3:(wx.setCell ⟨lb,i,none⟩ (.slice (some ⟨mb,0,none⟩) rs.length rs.length)).alloc (.cells (Array.replicate rs.length (.bool false)) 4)=w3 at *
   obtain⟨hL3,hB3,hM3,eU⟩:=Sq
   have nh:=jM.kept eU (fun _ x=>x.elim)
   have qam:aA w3 eb (ir rs A.ns):=qu.kept eU id
   obtain⟨d0,d1,d2,d3,d4,d5,d6⟩:=nh.rg.gis.cells
   obtain⟨rb,wH,S8,r0,r1,r2⟩:=nh.ru.cells hilt
   rw[S8]at d1
   have uw:=hW.is rs[i] (List.getElem_mem _)
   have hlc:w3.cell? ⟨lb,i,none⟩=some (.slice (some ⟨mb,0,none⟩) rs.length rs.length):=by
    have h9:=hL3.cell (i:=i) (by simp[Uq.out])
    rw[cn (by rw[Uq.out];exact Nat.le_refl _),Uq.out,Nat.sub_self]at h9
    exact h9
   have Sn:eb≠mb:=by have:=Hmb.out;omega
   have SH:mb≠bb:=by have:=Hmb.out;omega
   have qw:=r7 (s:=s) hW hN hn XG A.ns.length base b eb mb rs[i].is nv rv U true (List.replicate rs.length false) w3.drew (nh.same 1) qam hM3 Sn (by simp) uw uw
   have HX:Hid (MX rs A.ns i=ga rs A.ns (ir rs A.ns) A.ns.length rs[i].is true (List.replicate rs.length false)):=by unfold Hid MX;rw[bQ _ _ _ _ hilt]
   rw[<-HX.out]at qw
   have HBG:=ae qw
   have oL:=NQ rs A.ns i
   have QA:=Ba rs A.ns i
   have Qh:=I0 rs A.ns i hilt
   have HSN:=ae QA
   have HBS:=ae Qh
   have uA:=zW rs A.ns i
   generalize MX rs A.ns i=Y at *
   obtain⟨yb,Y2⟩:=Y
   dsimp only at *
   clear qw QA Qh hW3 hu hfu ri mz ld c0 c1 c2 c3 c4 c5 c6 H3
   go_region_with (first | (go_at_call 88;refine HBG.out.mono ?_;rintro e w4 ⟨rfl,hB4,eK⟩;have Oa:aA w4 bb (iO rs A.ns i):=aA.kept (w:=w3.drew) hB3 eK (Ne.symm SH);have qcv:=Oa.cell (i:=i) (by omega);have qcw:=Oa.frozen i))
   all_goals
    go_wp2
    go_roundg (rs.length-(i+1))
    case measure=>have:=HGI.out;omega
    case rel=>
     have WI:aa (·=mb) w3 w4:=((aa.refl (·=mb) w3).drew).trans eK
     have hL4:=hL3.last WI hB4 oL
     have gR:aa (·=bb) w4 (w4.setCell ⟨bb,i,none⟩ (.bool yb)):=(aa.refl (·=bb) w4).setCell (fun _=>rfl) _
     have XS:∀t,t<(dF++[mb]).length->(dF++[mb]).getD t 0≠bb:=fun t ht=>by
      by_cases yP:t<dF.length
      ·rw[bo yP];exact oe t yP
      ·rw[cn (by omega),show t-dF.length=0 by simp at ht;omega];exact SH
     have hL5:=hL4.kept gR (fun e=>hL4.nlb Oa e.symm) (fun t ht=>XS t ht)
     have qct:w1.heap.size<=bb:=by have:=Hbb.out;omega
     have XJ:w1.heap.size<=mb:=by have:=Hmb.out;omega
     refine⟨i+1,dF++[mb],by omega,rfl,by go_num,by simp[Uq.out],by rw[HSN.out];exact hL5,by rw[<-HBS.out];exact Oa.set i yb,XS,?_,?_⟩
     ·exact(eU.then WI (fun t ht e=>by omega)).then gR (fun t ht e=>by omega)
     ·intro t ht
      by_cases yP:t<dF.length
      ·rw[bo yP];exact yI t yP
      ·rw[cn (by omega),show t-dF.length=0 by simp at ht;omega];exact XJ
  ·have It:i=rs.length:=by omega
   subst It
   have hQ0:vK w1 wx lb bb rs.length dF (dM rs A.ns rs.length) (iO rs A.ns rs.length):=⟨R6,P9,wl,oe,vU,yI⟩
   clear R6 P9 oe vU yI hRx qan
   go_wp2_with fail
   go_loopg [8] rs.length (fun gn v wy=>∃k:Nat,k<=rs.length/\gn=rs.length-k/\v=.int .i64 k/\vK w1 wy lb bb rs.length dF (wk rs.length (dM rs A.ns rs.length) k) (iO rs A.ns rs.length))
   case atStart=>exact⟨0,by omega,rfl,rfl,hQ0⟩
   case round=>
    obtain⟨k,hk,zK,rfl,Im⟩:=hrel
    have HGK:=ae zK
    clear zK
    obtain⟨mk,ld⟩:∃m,m=gk:=⟨gk,rfl⟩
    subst ld
    by_cases hklt:k<rs.length
    ·have qcb:(k:Int)<(rs.length:Int):=by omega
     go_wp2_with fail
     go_loopg [9] rs.length (fun gn v wy=>∃i:Nat,i<=rs.length/\gn=rs.length-i/\v=.int .i64 i/\vK w1 wy lb bb rs.length dF (wi rs.length (wk rs.length (dM rs A.ns rs.length) k) k i) (iO rs A.ns rs.length))
     case atStart=>exact⟨0,by omega,rfl,rfl,Im⟩
     case round=>
      obtain⟨i,hi,Xq,rfl,hQi⟩:=hrel
      have qaa:=ae Xq
      clear Xq
      obtain⟨mi,hmi⟩:∃m,m=gk:=⟨gk,rfl⟩
      subst hmi
      by_cases hilt:i<rs.length
      ·have Xu:(i:Int)<(rs.length:Int):=by omega
       go_wp2_with fail
       go_loopg [10] rs.length (fun gn v wy=>∃j:Nat,j<=rs.length/\gn=rs.length-j/\v=.int .i64 j/\vK w1 wy lb bb rs.length dF (wj (wi rs.length (wk rs.length (dM rs A.ns rs.length) k) k i) k i j) (iO rs A.ns rs.length))
       case atStart=>exact⟨0,by omega,rfl,rfl,hQi⟩
       case round=>
        obtain⟨j,hj,EQ,rfl,Gq⟩:=hrel
        have Y7:=ae EQ
        clear EQ
        by_cases hjlt:j<rs.length
        ·have qca:(j:Int)<(rs.length:Int):=by omega
         have iC:(0:Int)<=(i:Int):=by omega
         have hj0:(0:Int)<=(j:Int):=by omega
         have Cj:(0:Int)<=(k:Int):=by omega
         have Iw:i<dF.length:=by omega
         have hkm:k<dF.length:=by omega
         generalize hMM:wj (wi rs.length (wk rs.length (dM rs A.ns rs.length) k) k i) k i j=M at *
         have PL:=ae hMM
         clear hMM
         have e1:=Gq.lead.cell Iw
         have e2:=Gq.lead.cell hkm
         have l1:=Gq.lead.lenr i Iw
         have l2:=Gq.lead.lenr k hkm
         have f1:=(Gq.lead.row i Iw).cell (i:=j) (by omega)
         have f2:=(Gq.lead.row i Iw).cell (i:=k) (by omega)
         have f3:=(Gq.lead.row k hkm).cell (i:=j) (by omega)
         have z1:=(Gq.lead.row i Iw).frozen j
         have HA:Hid (gY M i j=(M.getD i []).getD j false/\gY M i k=(M.getD i []).getD k false/\gY M k j=(M.getD k []).getD j false):=⟨rfl,rfl,rfl⟩
         generalize (M.getD i []).getD j false=a at *
         generalize (M.getD i []).getD k false=bq at *
         generalize (M.getD k []).getD j false=cq at *
         have HU:Hid ((gY M i j||(gY M i k&&gY M k j))=(a||(bq&&cq))):=by
          obtain⟨g1,g2,g3⟩:=HA.out
          unfold Hid;rw[g1,g2,g3]
         clear HA l1 l2
         generalize Kv:dF.getD i 0=m1 at *
         generalize dF.getD k 0=m2 at *
         have Zd:=ae Kv
         clear Kv
         clear hQ0 Im hQi
         cases a
         ·cases bq
          ·have HV:Hid (wj (wi rs.length (wk rs.length (dM rs A.ns rs.length) k) k i) k i (j+1)=M.set i ((M.getD i []).set j false)):=by
            unfold Hid;rw[wj,PL.out,Q0,HU.out];rfl
           have hS:=(Gq.set (j:=j) Iw false).drew
           rw[Zd.out]at hS
           have HS:=ae hS
           clear hS HU PL
           go_wp2_with fail
           go_region
           all_goals
            go_wp2
            go_roundg (rs.length-(j+1))
            case measure=>have:=Y7.out;omega
            case rel=>exact⟨j+1,by omega,rfl,by go_num,by rw[HV.out];exact HS.out⟩
          ·cases cq
           ·have HV:Hid (wj (wi rs.length (wk rs.length (dM rs A.ns rs.length) k) k i) k i (j+1)=M.set i ((M.getD i []).set j false)):=by
             unfold Hid;rw[wj,PL.out,Q0,HU.out];rfl
            have hS:=(Gq.set (j:=j) Iw false).drew
            rw[Zd.out]at hS
            have HS:=ae hS
            clear hS HU PL
            go_wp2_with fail
            go_region
            all_goals
             go_wp2
             go_roundg (rs.length-(j+1))
             case measure=>have:=Y7.out;omega
             case rel=>exact⟨j+1,by omega,rfl,by go_num,by rw[HV.out];exact HS.out⟩
           ·have HV:Hid (wj (wi rs.length (wk rs.length (dM rs A.ns rs.length) k) k i) k i (j+1)=M.set i ((M.getD i []).set j true)):=by
             unfold Hid;rw[wj,PL.out,Q0,HU.out];rfl
            have hS:=(Gq.set (j:=j) Iw true).drew
            rw[Zd.out]at hS
            have HS:=ae hS
            clear hS HU PL
            go_wp2_with fail
            go_region
            all_goals
             go_wp2
             go_roundg (rs.length-(j+1))
             case measure=>have:=Y7.out;omega
             case rel=>exact⟨j+1,by omega,rfl,by go_num,by rw[HV.out];exact HS.out⟩
         ·have HV:Hid (wj (wi rs.length (wk rs.length (dM rs A.ns rs.length) k) k i) k i (j+1)=M.set i ((M.getD i []).set j true)):=by
           unfold Hid;rw[wj,PL.out,Q0,HU.out];rfl
          have hS:=(Gq.set (j:=j) Iw true).drew
          rw[Zd.out]at hS
          have HS:=ae hS
          clear hS HU PL
          go_wp2_with fail
          go_region
          all_goals
           go_wp2
           go_roundg (rs.length-(j+1))
           case measure=>have:=Y7.out;omega
           case rel=>exact⟨j+1,by omega,rfl,by go_num,by rw[HV.out];exact HS.out⟩
        ·have hje:j=rs.length:=by omega
         subst hje
         go_wp2
         go_roundg (rs.length-(i+1))
         case measure=>have:=qaa.out;omega
         case rel=>exact⟨i+1,by omega,rfl,by go_num,Gq⟩
      ·have It:i=rs.length:=by omega
       subst It
       go_wp2
       go_roundg (rs.length-(k+1))
       case measure=>have:=HGK.out;omega
       case rel=>exact⟨k+1,by omega,rfl,by go_num,hQi⟩
    ·have On:k=rs.length:=by omega
     subst On
     clear hQ0
     go_wp2_with fail
     obtain⟨wq,hwq⟩:∃m,m=wr:=⟨wr,rfl⟩
     have hRq:=jM.kept Im.kept (fun _ x=>x.elim)
     have Up:Hid (wk rs.length (dM rs A.ns rs.length) rs.length=lH rs A.ns):=rfl
     rw[Up.out]at Im
     go_loop [11] (fun v=>∃t:Nat,t<=rs.length/\v=.int .i64 t/\Hid (∀u,u<t->(gY (lH rs A.ns) u u||(iO rs A.ns rs.length).getD u false)=false)) (fun v=>rs.length-(intOf v).toNat)
     case atStart=>exact⟨0,by omega,rfl,fun u h=>absurd h (by omega)⟩
     case round=>
      obtain⟨t,ht,rfl,HT⟩:=hrel
      by_cases htlt:t<rs.length
      ·have jc:t<dF.length:=by rw[Im.full];exact htlt
       have e1:=Im.lead.cell jc
       have l1:=Im.lead.lenr t jc
       have f1:=(Im.lead.row t jc).cell (i:=t) (by omega)
       have f2:=Im.bad.cell (i:=t) (by rw[zW];exact htlt)
       have HA:Hid (gY (lH rs A.ns) t t=((lH rs A.ns).getD t []).getD t false):=rfl
       have hEI:=Ey rs A.ns t htlt
       rw[HA.out]at hEI
       have Zb:Hid ((((lH rs A.ns).getD t []).getD t false||(iO rs A.ns rs.length).getD t false)=false->∀u,u<t+1->(gY (lH rs A.ns) u u||(iO rs A.ns rs.length).getD u false)=false):=fun h u hu=>by
        rcases Nat.lt_or_eq_of_le (Nat.lt_succ_iff.1 hu) with h1 | h1
        ·exact HT.out u h1
        ·subst h1;exact h
       have Vw:=ae hEI
       clear hEI l1
       obtain⟨rb,wH,S8,r0,r1,r2⟩:=hRq.ru.cells htlt
       obtain⟨d0,d1,d2,d3,d4,d5,d6⟩:=hRq.rg.gis.cells
       rw[S8]at d1
       have Ra:Hid ((rs.map Rl.at_).getD t 0=rs[t].at_):=bQ _ _ _ _ htlt
       generalize ((lH rs A.ns).getD t []).getD t false=a at *
       generalize (iO rs A.ns rs.length).getD t false=bq at *
       generalize dF.getD t 0=mt at *
       cases a
       ·cases bq
        ·have sA:=ae (Zb.out rfl)
         clear HT Zb Vw
         go_wp2
         go_round
         case rel=>exact⟨t+1,by omega,by go_num,sA.out⟩
         case measure=>simp[intOf];omega
        ·have HF:=ae (HE.out t (Vw.out HT.out rfl))
         clear HT Zb Vw
         go_wp2
         go_ret
         exact⟨by rw[HF.out,Ra.out];rfl,dd.then Im.kept (fun _ _ h=>h)⟩
       ·have HF:=ae (HE.out t (Vw.out HT.out rfl))
        clear HT Zb Vw
        go_wp2
        go_ret
        exact⟨by rw[HF.out,Ra.out];rfl,dd.then Im.kept (fun _ _ h=>h)⟩
      ·have HF:=ae (HE0.out (wX rs A.ns (fun u hu=>HT.out u (by omega))))
       clear HT
       go_wp2
       go_ret
       exact⟨by rw[HF.out];rfl,dd.then Im.kept (fun _ _ h=>h)⟩
structure Rw (s:ByteArray)(w:World)(C:Int × Int)(e:Ending)(w':World):Prop where
 kept:aa (fun _=>False) w w'
 bad:C.1≠0->e=.returned (.tuple #[.pointer none,.int .i64 C.1,.int .i64 C.2])
 ok:C.1=0->e=.returned (.tuple #[.pointer (some ⟨w.heap.size,0,none⟩),.int .i64 C.1,.int .i64 C.2])/\∃nv rv U,lS w' w.heap.size w.heap.size s nv rv U (aq s).1 (aq s).2
theorem lr (s:ByteArray)(w:World)(hm:s.size<=maxLen):
  Calls Tryz.prog 29 #[.string s] w fun e w'=>Rw s w (dj s) e w':=by
 unfold maxLen at hm
 have HC:Hid (dj s=if 400<s.size then (1,0) else if 0<=(aq s).1.sc.bad then (2,(aq s).1.sc.bad) else if 0<=uN (aq s).2 (aq s).1.ns then (3,uN (aq s).2 (aq s).1.ns)
  else if 0<=dc (aq s).2 (aq s).1.ns then (4,dc (aq s).2 (aq s).1.ns) else (0,0)):=rfl
 generalize dj s=C at *
 by_cases sF:400<s.size
 ·have h1:=HC.out
  rw[if_pos sF]at h1
  subst h1
  clear HC
  go_enter Tryz.func29,Tryz.ntmps29
  go_wp2
  go_ret3
  exact⟨aa.refl _ _,fun _=>rfl,fun h=>absurd h (by decide)⟩
 ·have h1:=HC.out
  rw[if_neg sF]at h1
  have hs:s.size<=400:=by omega
  have hW:=rH s
  have Ov:=pW hs
  have H1:=ae h1
  clear HC h1
  go_enter Tryz.func29,Tryz.ntmps29
  go_wp2_with fail
  refine(LJ s w hs).mono ?_
  rintro e w1 ⟨rfl,nv,rv,U,hR,sJ,hK⟩
  have Sb:lS w1 w.heap.size w.heap.size s nv rv U (aq s).1 (aq s).2:=⟨hR,sJ⟩
  generalize hX:aq s=X at *
  have HX:=ae hX
  clear hX
  obtain⟨A,rs⟩:=X
  dsimp only at *
  obtain⟨b,hb⟩:∃b,b=w.heap.size:=⟨_,rfl⟩
  rw[<-hb]at hR sJ Sb ⊢
  obtain⟨c0,c1,c2,c3,c4,c5,c6⟩:=hR.gis.cells
  have Hb:=ae hb
  clear hb
  by_cases gS:0<=A.sc.bad
  ·have h2:=H1.out
   rw[if_pos gS]at h2
   subst h2
   clear H1
   go_wp2_with fail
   go_quiet (fail)
   go_wp2
   go_ret3
   exact⟨hK.drewN _,fun _=>rfl,fun h=>absurd (show (2:Int)=0 from h) (by decide)⟩
  ·have h2:=H1.out
   rw[if_neg gS]at h2
   have H2:=ae h2
   clear H1 h2
   go_wp2_with fail
   refine(O3 b b s nv rv U A rs _ hR sJ hW.len (by omega)).mono ?_
   rintro e w2 ⟨rfl,rfl⟩
   by_cases hmis:0<=uN rs A.ns
   ·have h3:=H2.out
    rw[if_pos hmis]at h3
    subst h3
    clear H2
    go_wp2
    go_ret3
    exact⟨hK,fun _=>rfl,fun h=>absurd (show (3:Int)=0 from h) (by decide)⟩
   ·have h3:=H2.out
    rw[if_neg hmis]at h3
    have H3:=ae h3
    have hN:=rF (rs:=rs) (ns:=A.ns) (by omega)
    clear H2 h3
    go_wp2_with fail
    refine(Ao b b s nv rv U A rs _ Sb hW hN (by omega)).mono ?_
    rintro e w3 ⟨rfl,eU⟩
    have EG:=hK.then eU (fun _ _ h=>h)
    have qav:=Sb.kept eU (fun _ x=>x.elim)
    by_cases lN:0<=dc rs A.ns
    ·have h4:=H3.out
     rw[if_pos lN]at h4
     subst h4
     clear H3
     go_wp2
     go_ret3
     exact⟨EG,fun _=>rfl,fun h=>absurd (show (4:Int)=0 from h) (by decide)⟩
    ·have h4:=H3.out
     rw[if_neg lN]at h4
     subst h4
     clear H3
     go_wp2
     go_ret3
     exact⟨EG,fun h=>absurd rfl h,fun _=>⟨by rw[<-Hb.out];rfl,nv,rv,U,by rw[<-Hb.out,HX.out];exact qav⟩⟩
end Go.Proofs.YtagklnaaoclmhaaGreatDoor
