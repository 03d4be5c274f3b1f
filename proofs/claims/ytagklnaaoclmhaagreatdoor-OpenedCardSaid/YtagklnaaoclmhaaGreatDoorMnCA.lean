import Derived.Test.YtagklnaaoclmhaaGreatDoorMnAC
set_option linter.unusedSimpArgs false
set_option linter.unusedVariables false
set_option maxRecDepth 100000
set_option maxHeartbeats 16000000
namespace Go.Proofs.YtagklnaaoclmhaaGreatDoor
open Go.RowKit
attribute [local go_sem ↓] bw aX aZ aY aF
attribute [local go_sem] bc aQ aS dX bv aT aU aV aW aD bf aK au aN
def oZ (F:Nat)(s:ByteArray)(f:St->St × Nat)(d:Nat):Prop:=∀(base b:Nat) (nv rv:Value) (U:Nat->Prop) (A:St) (w:World),RG w base b s nv rv U A->Ok s A->5<=A.sc.op+d->
 Calls Tryz.prog F #[.pointer (some ⟨b,0,none⟩)] w fun e w'=>e=.returned (.int .i64 ((f A).2:Int))/\∃fG U',RG w' base b s fG rv U' (f A).1/\dN w.heap.size b nv fG U U' w w'
theorem Hg (s:ByteArray)(ch:St->St × Nat)(base b:Nat)(nv rv:Value)(U:Nat->Prop)(A:St)(w:World)(hR:RG w base b s nv rv U A)(hO:Ok s A)(hl:bL (pk s (bl s A.sc))=true):
  Calls Tryz.prog 176 #[.pointer (some ⟨b,0,none⟩)] w fun e w'=>e=.returned (.int .i64 ((aR s ch A).2:Int))/\∃fG U',RG w' base b s fG rv U' (aR s ch A).1/\dN w.heap.size b nv fG U U' w w':=by
 have eI:=hO.len
 have hs:=hO.size
 have HP:Hid (aR s ch A=aP { A with sc:=(bz s (bl s A.sc)).2 } { cj with kind:=3,name:=(bz s (bl s A.sc)).1,at_:=(bl s A.sc).at_ }):=by
  unfold Hid aR;rw[hl];rfl
 have Gu:(bl s A.sc).at_<=10000:=by have:=zZ s A.sc;have:=hO.at_;omega
 generalize aR s ch A=r at *
 go_enter Tryz.func176,Tryz.ntmps176
 go_wp2_with fail
 refine(dC b s nv rv A.sc _ hR.gis hs).mono ?_
 rintro e w1 ⟨rfl,iA,dd⟩
 generalize bl s A.sc=g1 at *
 go_wp2_with fail
 refine(dz b s nv rv g1 _ iA hs).mono ?_
 rintro e w2 ⟨rfl,n2,rfl⟩
 go_wp2_with fail
 refine(gi _ _).mono ?_
 rintro e w3 ⟨rfl,rfl⟩
 rw[hl]
 obtain⟨c0,c1,c2,c3,c4,c5,c6⟩:=iA.cells
 go_wp2_with fail
 refine(vo b s nv rv g1 _ (iA.drewN n2) hs Gu).mono ?_
 rintro e w4 ⟨rfl,ij,eK⟩
 have hK:aa (·=b) w w4:=(dd.drewN n2).trans eK
 have fo:=hR.only hK ij
 generalize bz s g1=wd1 at *
 obtain⟨x,g4⟩:=wd1
 dsimp only at *
 have hc:aJ (((df.setIfInBounds 0 (.int .i64 3)).setIfInBounds 259 (.string (ba x))).setIfInBounds 260 (.int .i64 (g1.at_:Int))) { cj with kind:=3,name:=x,at_:=g1.at_ } (.slice none 0 0):=((aJ.zero.setKind 3).setName x).setAt g1.at_
 clear c0 c1 c2 c3 c4 c5 c6
 go_wp2_with fail
 refine(Cy fo hc rfl (by dsimp only;omega)).mono ?_
 rintro e w5 ⟨rfl,fG,U',fJ,gP⟩
 go_wp2
 go_ret
 exact⟨by rw[HP.out];rfl,fG,U',by rw[HP.out];exact fJ,(dN.only hK).trans gP⟩
theorem LC (s:ByteArray)(ch:St->St × Nat)(base b:Nat)(nv rv:Value)(U:Nat->Prop)(A:St)(w:World)(hR:RG w base b s nv rv U A)(hO:Ok s A)(yu:pk s (bl s A.sc)=46):
  Calls Tryz.prog 176 #[.pointer (some ⟨b,0,none⟩)] w fun e w'=>e=.returned (.int .i64 ((aR s ch A).2:Int))/\∃fG U',RG w' base b s fG rv U' (aR s ch A).1/\dN w.heap.size b nv fG U U' w w':=by
 have eI:=hO.len
 have hs:=hO.size
 have ZP:=hO.t
 have ni:=jR s A.sc
 have sO:=ip s A.sc
 have yG:=hO.iv.bl
 have hl:bL (pk s (bl s A.sc))=false:=by rw[yu];decide
 have HP:Hid (aR s ch A=aP { A with sc:=tm (bl s A.sc) } { cj with kind:=2,term:=(bl s A.sc).t }):=by
  unfold Hid aR;rw[hl,if_neg (by decide),if_pos yu]
 have H46:=ae yu
 clear yu
 generalize aR s ch A=r at *
 go_enter Tryz.func176,Tryz.ntmps176
 go_wp2_with fail
 refine(dC b s nv rv A.sc _ hR.gis hs).mono ?_
 rintro e w1 ⟨rfl,iA,dd⟩
 generalize bl s A.sc=g1 at *
 go_wp2_with fail
 refine(dz b s nv rv g1 _ iA hs).mono ?_
 rintro e w2 ⟨rfl,n2,rfl⟩
 go_wp2_with fail
 refine(gi _ _).mono ?_
 rintro e w3 ⟨rfl,rfl⟩
 rw[hl]
 have dl:aa (·=b) w (w1.drewN n2):=dd.drewN n2
 have kd:=iA.drewN n2
 generalize w1.drewN n2=w2 at *
 clear iA dd
 have LG:((pk s g1:Int) == 46)=true:=by have:=H46.out;simp;omega
 have VQ:=ae ni
 clear ni sO
 go_wp2_with fail
 refine(ly b s nv rv g1 _ kd (by rw[VQ.out];omega) (by have:=yG.2;omega)).mono ?_
 rintro e w4 ⟨rfl,ij,eK⟩
 have hK:aa (·=b) w w4:=dl.trans eK
 have fo:=hR.only hK ij
 have hc:aJ ((df.setIfInBounds 0 (.int .i64 2)).setIfInBounds 258 (.int .i64 (g1.t:Int))) { cj with kind:=2,term:=g1.t } (.slice none 0 0):=(aJ.zero.setKind 2).setTerm g1.t
 go_wp2_with fail
 refine(Cy fo hc rfl (by dsimp only;omega)).mono ?_
 rintro e w5 ⟨rfl,fG,U',fJ,gP⟩
 go_wp2
 go_ret
 exact⟨by rw[HP.out];rfl,fG,U',by rw[HP.out];exact fJ,(dN.only hK).trans gP⟩
theorem LB (s:ByteArray)(ch:St->St × Nat)(base b:Nat)(nv rv:Value)(U:Nat->Prop)(A:St)(w:World)(hR:RG w base b s nv rv U A)(hO:Ok s A)(hl:bL (pk s (bl s A.sc))=false)(yu:pk s (bl s A.sc)≠46)(h39:pk s (bl s A.sc)≠39)(h91:pk s (bl s A.sc)≠91)(qs:¬(pk s (bl s A.sc)=40/\(bl s A.sc).op<5)):
  Calls Tryz.prog 176 #[.pointer (some ⟨b,0,none⟩)] w fun e w'=>e=.returned (.int .i64 ((aR s ch A).2:Int))/\∃fG U',RG w' base b s fG rv U' (aR s ch A).1/\dN w.heap.size b nv fG U U' w w':=by
 have eI:=hO.len
 have hs:=hO.size
 have ZP:=hO.t
 have ni:=jR s A.sc
 have sO:=ip s A.sc
 have yG:=hO.iv.bl
 have HP:Hid (aR s ch A=aP { A with sc:=wr (bl s A.sc) } cj):=by
  unfold Hid aR;rw[hl,if_neg (by decide),if_neg yu,if_neg h39,if_neg h91,if_neg qs]
 generalize aR s ch A=r at *
 go_enter Tryz.func176,Tryz.ntmps176
 go_wp2_with fail
 refine(dC b s nv rv A.sc _ hR.gis hs).mono ?_
 rintro e w1 ⟨rfl,iA,dd⟩
 generalize bl s A.sc=g1 at *
 go_wp2_with fail
 refine(dz b s nv rv g1 _ iA hs).mono ?_
 rintro e w2 ⟨rfl,n2,rfl⟩
 go_wp2_with fail
 refine(gi _ _).mono ?_
 rintro e w3 ⟨rfl,rfl⟩
 rw[hl]
 have dl:aa (·=b) w (w1.drewN n2):=dd.drewN n2
 have kd:=iA.drewN n2
 generalize w1.drewN n2=w2 at *
 clear iA dd
 have LG:((pk s g1:Int) == 46)=false:=by simp;omega
 have Np:((pk s g1:Int) == 39)=false:=by simp;omega
 have Ph:((pk s g1:Int) == 91)=false:=by simp;omega
 clear ni sO yu h39 h91
 obtain⟨c0,c1,c2,c3,c4,c5,c6⟩:=kd.cells
 have hc:aJ df cj (.slice none 0 0):=aJ.zero
 by_cases h40':pk s g1=40
 ·have Nq:((pk s g1:Int) == 40)=true:=by simp;omega
  have rx:¬g1.op<5:=fun h=>qs ⟨h40',h⟩
  have q5:decide ((g1.op:Int)<5)=false:=by simp;omega
  clear qs h40'
  go_wp2_with fail
  refine(da b s nv rv g1 _ kd).mono ?_
  rintro e w4 ⟨rfl,ij,eK⟩
  have hK:aa (·=b) w w4:=dl.trans eK
  have fo:=hR.only hK ij
  go_wp2_with fail
  refine(Cy fo hc rfl (by dsimp only;omega)).mono ?_
  rintro e w5 ⟨rfl,fG,U',fJ,gP⟩
  go_wp2
  go_ret
  exact⟨by rw[HP.out];rfl,fG,U',by rw[HP.out];exact fJ,(dN.only hK).trans gP⟩
 ·have Nq:((pk s g1:Int) == 40)=false:=by simp;omega
  clear qs h40'
  go_wp2_with fail
  refine(da b s nv rv g1 _ kd).mono ?_
  rintro e w4 ⟨rfl,ij,eK⟩
  have hK:aa (·=b) w w4:=dl.trans eK
  have fo:=hR.only hK ij
  go_wp2_with fail
  refine(Cy fo hc rfl (by dsimp only;omega)).mono ?_
  rintro e w5 ⟨rfl,fG,U',fJ,gP⟩
  go_wp2
  go_ret
  exact⟨by rw[HP.out];rfl,fG,U',by rw[HP.out];exact fJ,(dN.only hK).trans gP⟩
theorem Hh (s:ByteArray)(ch:St->St × Nat)(base b:Nat)(nv rv:Value)(U:Nat->Prop)(A:St)(w:World)(hR:RG w base b s nv rv U A)(hO:Ok s A)(qs:pk s (bl s A.sc)=40)(rx:(bl s A.sc).op<5){d:Nat}(hd:5<=A.sc.op+d)(dH:oZ 85 s ch (d-1))(fK:eN s ch (d-1)):
  Calls Tryz.prog 176 #[.pointer (some ⟨b,0,none⟩)] w fun e w'=>e=.returned (.int .i64 ((aR s ch A).2:Int))/\∃fG U',RG w' base b s fG rv U' (aR s ch A).1/\dN w.heap.size b nv fG U U' w w':=by
 have eI:=hO.len
 have hs:=hO.size
 have ZP:=hO.t
 have ni:=jR s A.sc
 have sO:=ip s A.sc
 have yG:=hO.iv.bl
 have hl:bL (pk s (bl s A.sc))=false:=by rw[qs];decide
 have HP:Hid (aR s ch A=({ (ch { A with sc:=ez (bl s A.sc) }).1 with sc:=oS (mu s (ch { A with sc:=ez (bl s A.sc) }).1.sc 41) },(ch { A with sc:=ez (bl s A.sc) }).2)):=by
  unfold Hid aR;rw[hl,if_neg (by decide),if_neg (by omega),if_neg (by omega),if_neg (by omega),if_pos ⟨qs,rx⟩]
 obtain⟨p1,p2,p3⟩:=cT (s:=s) (g:=bl s A.sc) (by omega)
 clear p3
 have d9:A.sc.bad<0:=by rw[ed]at p1;exact p1
 have qcJ:=jK s A.sc
 have Y3:=ae qs
 clear qs
 generalize aR s ch A=r at *
 go_enter Tryz.func176,Tryz.ntmps176
 go_wp2_with fail
 refine(dC b s nv rv A.sc _ hR.gis hs).mono ?_
 rintro e w1 ⟨rfl,iA,dd⟩
 generalize bl s A.sc=g1 at *
 go_wp2_with fail
 refine(dz b s nv rv g1 _ iA hs).mono ?_
 rintro e w2 ⟨rfl,n2,rfl⟩
 go_wp2_with fail
 refine(gi _ _).mono ?_
 rintro e w3 ⟨rfl,rfl⟩
 rw[hl]
 have dl:aa (·=b) w (w1.drewN n2):=dd.drewN n2
 have kd:=iA.drewN n2
 generalize w1.drewN n2=w2 at *
 clear iA dd
 have LG:((pk s g1:Int) == 46)=false:=by have:=Y3.out;simp;omega
 have Np:((pk s g1:Int) == 39)=false:=by have:=Y3.out;simp;omega
 have Ph:((pk s g1:Int) == 91)=false:=by have:=Y3.out;simp;omega
 have Nq:((pk s g1:Int) == 40)=true:=by have:=Y3.out;simp;omega
 have q5:decide ((g1.op:Int)<5)=true:=by simp;omega
 have AD:Iv s (ez g1):=⟨fun _=>by simp[ez];omega,by simp[ez];omega⟩
 have M3:Ok s { A with sc:=ez g1 }:=by
  refine⟨AD,by dsimp only[ez];omega,?_,by dsimp only[ez];omega,hs⟩
  have hr:=lv (s:=s) (g:=A.sc) (g':=ez g1) hO.iv d9 (fun _=>by simp[ez];omega)
  have:=hO.pt
  unfold Pt at *
  dsimp only
  omega
 have Xc:5<=(ez g1).op+(d-1):=by dsimp only[ez];omega
 have js:=fK { A with sc:=ez g1 } AD Xc
 obtain⟨c0,c1,c2,c3,c4,c5,c6⟩:=kd.cells
 have xm:=kd.frozen 5
 have hf6:=kd.frozen 6
 have Gu:=AD.2
 dsimp only[ez]at Gu
 have Hbo:=ae sO
 clear ni sO
 go_wp2_with fail
 have jm:aI ((w2.setCell ⟨b,5,none⟩ (.int .i64 ((g1.at_:Int)+1))).setCell ⟨b,6,none⟩ (.int .i64 ((g1.op:Int)+1))) b s nv rv (ez g1):=(kd.setAt _).setOp _
 have eU:aa (·=b) w ((w2.setCell ⟨b,5,none⟩ (.int .i64 ((g1.at_:Int)+1))).setCell ⟨b,6,none⟩ (.int .i64 ((g1.op:Int)+1))):=(dl.setCell (fun _=>rfl) _).setCell (fun _=>rfl) _
 refine(dH base b nv rv U { A with sc:=ez g1 } _ (hR.only eU jm) M3 Xc).mono ?_
 rintro e w4 ⟨rfl,Fo,U4,fo,ur⟩
 have hS:dN w.heap.size b nv Fo U U4 w w4:=(dN.only eU).trans ur
 generalize ch { A with sc:=ez g1 }=X at *
 obtain⟨B,x⟩:=X
 dsimp only at *
 go_wp2_with fail
 refine(mP b s Fo rv B.sc 41 _ fo.gis hs).mono ?_
 rintro e w5 ⟨rfl,zG,gR⟩
 have qc4:1<=(mu s B.sc 41).op/\(mu s B.sc 41).op<=6:=by
  rw[QJ];have:=js.op;dsimp only[ez]at this;omega
 have fJ:=fo.only gR zG
 generalize mu s B.sc 41=m at *
 obtain⟨d0,d1,d2,d3,d4,d5,d6⟩:=zG.cells
 have hf7:=zG.frozen 6
 go_wp2
 go_ret
 have JS:aI (w5.setCell ⟨b,6,none⟩ (.int .i64 ((m.op:Int)-1))) b s Fo rv (oS m):=by
  have:=zG.setOp (m.op-1)
  rw[show ((m.op-1:Nat):Int)=(m.op:Int)-1 by omega]at this
  exact this
 have um:aa (·=b) w4 (w5.setCell ⟨b,6,none⟩ (.int .i64 ((m.op:Int)-1))):=gR.setCell (fun _=>rfl) _
 exact⟨by rw[HP.out];rfl,Fo,U4,by rw[HP.out];exact fo.only um JS,hS.trans (dN.only um)⟩
theorem DF (s:ByteArray)(ch:St->St × Nat)(base b:Nat)(nv rv:Value)(U:Nat->Prop)(A:St)(w:World)(hR:RG w base b s nv rv U A)(hO:Ok s A)(h91:pk s (bl s A.sc)=91):
  Calls Tryz.prog 176 #[.pointer (some ⟨b,0,none⟩)] w fun e w'=>e=.returned (.int .i64 ((aR s ch A).2:Int))/\∃fG U',RG w' base b s fG rv U' (aR s ch A).1/\dN w.heap.size b nv fG U U' w w':=by
 have eI:=hO.len
 have hs:=hO.size
 have ZP:=hO.t
 have ni:=jR s A.sc
 have sO:=ip s A.sc
 have yG:=hO.iv.bl
 have hl:bL (pk s (bl s A.sc))=false:=by rw[h91];decide
 have HP:Hid (aR s ch A=aP { A with sc:=(set s (tm (bl s A.sc))).2 } { cj with kind:=1,rng:=(set s (tm (bl s A.sc))).1,term:=(bl s A.sc).t }):=by
  unfold Hid aR;rw[hl,if_neg (by decide),if_neg (by omega),if_neg (by omega),if_pos h91]
 obtain⟨p1,p2,p3⟩:=cT (s:=s) (g:=bl s A.sc) (by omega)
 clear p3
 have Z0:=ae h91
 clear h91
 generalize aR s ch A=r at *
 go_enter Tryz.func176,Tryz.ntmps176
 go_wp2_with fail
 refine(dC b s nv rv A.sc _ hR.gis hs).mono ?_
 rintro e w1 ⟨rfl,iA,dd⟩
 generalize bl s A.sc=g1 at *
 go_wp2_with fail
 refine(dz b s nv rv g1 _ iA hs).mono ?_
 rintro e w2 ⟨rfl,n2,rfl⟩
 go_wp2_with fail
 refine(gi _ _).mono ?_
 rintro e w3 ⟨rfl,rfl⟩
 rw[hl]
 have dl:aa (·=b) w (w1.drewN n2):=dd.drewN n2
 have kd:=iA.drewN n2
 generalize w1.drewN n2=w2 at *
 clear iA dd
 have LG:((pk s g1:Int) == 46)=false:=by have:=Z0.out;simp;omega
 have Np:((pk s g1:Int) == 39)=false:=by have:=Z0.out;simp;omega
 have Ph:((pk s g1:Int) == 91)=true:=by have:=Z0.out;simp;omega
 have VQ:=ae ni
 clear ni sO
 go_wp2_with fail
 refine(ly b s nv rv g1 _ kd (by rw[VQ.out];omega) (by have:=yG.2;omega)).mono ?_
 rintro e w4 ⟨rfl,ij,eK⟩
 have hK:aa (·=b) w w4:=dl.trans eK
 have OK:=qj yG p2
 generalize tm g1=g4 at *
 have hz:=cy
 have Qq:=cM aJ.zero.one
 have vA:aJ ((df.setIfInBounds 0 (.int .i64 1)).setIfInBounds 258 (.int .i64 (g1.t:Int))) { cj with kind:=1,term:=g1.t } (.slice none 0 0):=(aJ.zero.setKind 1).setTerm g1.t
 have lE:=vA.size
 have ho:=cM vA.one
 generalize fS:((df.setIfInBounds 0 (.int .i64 1)).setIfInBounds 258 (.int .i64 (g1.t:Int)))=c0 at *
 have Rr:=ae fS
 clear fS
 have dm:((w4.alloc (.cells df 179)).setRow w4.heap.size c0)=w4.alloc (.cells c0 179):=World.setRow_alloc_new w4 df c0 179
 have oG:dJ Tryz.prog [(0,.int .i64 1),(3,.int .i64 (g1.t:Int))] w4=.ok (.value (.agg c0)) w4:=by rw[aU,Rr.out]
 go_wp2_with fail
 have zG:aI (w4.alloc (.cells c0 179)) b s nv rv g4:=ij.alloc _
 have S5:=BH (s:=s) (s.size+2) true g4 OK
 have dx:w.heap.size<=w4.heap.size:=hK.size
 refine(Pp b w4.heap.size s nv rv g4 c0 _ zG (au _ _) lE hs OK).mono ?_
 rintro e w6 ⟨rfl,JS,kK,um⟩
 have EG:aa (·=b) w w6:=(hK.alloc _).then um (fun i hi h=>by
  rcases h with h | h
  ·exact h
  ·omega)
 change ∀r∈(set s g4).1,r.1<256/\r.2<256 at S5
 generalize set s g4=S at *
 obtain⟨l,g6⟩:=S
 dsimp only at *
 have Oc:=vA.marks l (fun r hr=>(S5 r hr).2)
 have hs6:=Oc.size
 have M4:=hR.only EG JS
 generalize dW c0 l=c6 at *
 have qz:c6.extract 0 262=c6:=by rw[<-hs6];simp
 clear dm oG S5 ho lE Qq hz
 go_wp2_with fail
 refine(Cy M4 Oc rfl (by dsimp only;omega)).mono ?_
 rintro e w7 ⟨rfl,fG,U',pz,jN⟩
 go_wp2
 go_ret
 exact⟨by rw[HP.out];rfl,fG,U',by rw[HP.out];exact pz,(dN.only EG).trans jN⟩
end Go.Proofs.YtagklnaaoclmhaaGreatDoor
namespace Go.Proofs.YtagklnaaoclmhaaGreatDoor
open Go.RowKit
attribute [local go_sem ↓] bw aX aZ aY aF
attribute [local go_sem] bc aQ aS dX bv aT aU aV aW aD bf aK au aN
theorem LD (s:ByteArray)(ch:St->St × Nat)(base b:Nat)(nv rv:Value)(U:Nat->Prop)(A:St)(w:World)(hR:RG w base b s nv rv U A)(hO:Ok s A)(h39:pk s (bl s A.sc)=39):
  Calls Tryz.prog 176 #[.pointer (some ⟨b,0,none⟩)] w fun e w'=>e=.returned (.int .i64 ((aR s ch A).2:Int))/\∃fG U',RG w' base b s fG rv U' (aR s ch A).1/\dN w.heap.size b nv fG U U' w w':=by
 have eI:=hO.len
 have hs:=hO.size
 have ZP:=hO.t
 have ni:=jR s A.sc
 have sO:=ip s A.sc
 have yG:=hO.iv.bl
 have hl:bL (pk s (bl s A.sc))=false:=by rw[h39];decide
 have HP:Hid (aR s ch A=aP { A with sc:=(qB s (tm (bl s A.sc))).2 } { cj with kind:=0,text:=(qB s (tm (bl s A.sc))).1,term:=(bl s A.sc).t }):=by
  unfold Hid aR;rw[hl,if_neg (by decide),if_neg (by omega),if_pos h39]
 obtain⟨p1,p2,p3⟩:=cT (s:=s) (g:=bl s A.sc) (by omega)
 clear p3
 have H39:=ae h39
 clear h39
 generalize aR s ch A=r at *
 go_enter Tryz.func176,Tryz.ntmps176
 go_wp2_with fail
 refine(dC b s nv rv A.sc _ hR.gis hs).mono ?_
 rintro e w1 ⟨rfl,iA,dd⟩
 generalize bl s A.sc=g1 at *
 go_wp2_with fail
 refine(dz b s nv rv g1 _ iA hs).mono ?_
 rintro e w2 ⟨rfl,n2,rfl⟩
 go_wp2_with fail
 refine(gi _ _).mono ?_
 rintro e w3 ⟨rfl,rfl⟩
 rw[hl]
 have dl:aa (·=b) w (w1.drewN n2):=dd.drewN n2
 have kd:=iA.drewN n2
 generalize w1.drewN n2=w2 at *
 clear iA dd
 have LG:((pk s g1:Int) == 46)=false:=by have:=H39.out;simp;omega
 have Np:((pk s g1:Int) == 39)=true:=by have:=H39.out;simp;omega
 have VQ:=ae ni
 clear ni sO
 go_wp2_with fail
 refine(ly b s nv rv g1 _ kd (by rw[VQ.out];omega) (by have:=yG.2;omega)).mono ?_
 rintro e w4 ⟨rfl,ij,eK⟩
 have hK:aa (·=b) w w4:=dl.trans eK
 have OK:=qj yG p2
 generalize tm g1=g4 at *
 have hz:=cy
 have Qq:=cM aJ.zero.one
 have vA:aJ ((df.setIfInBounds 0 (.int .i64 0)).setIfInBounds 258 (.int .i64 (g1.t:Int))) { cj with kind:=0,term:=g1.t } (.slice none 0 0):=(aJ.zero.setKind 0).setTerm g1.t
 have lE:=vA.size
 have ho:=cM vA.one
 generalize fS:((df.setIfInBounds 0 (.int .i64 0)).setIfInBounds 258 (.int .i64 (g1.t:Int)))=c0 at *
 have Rr:=ae fS
 clear fS
 have dm:((w4.alloc (.cells df 179)).setRow w4.heap.size c0)=w4.alloc (.cells c0 179):=World.setRow_alloc_new w4 df c0 179
 have oG:dJ Tryz.prog [(0,.int .i64 0),(3,.int .i64 (g1.t:Int))] w4=.ok (.value (.agg c0)) w4:=by rw[aU,Rr.out]
 have HL2:Hid (qB s g4=((fP s (s.size+2) [] g4).1,bM (fP s (s.size+2) [] g4).2)):=rfl
 generalize hLL:fP s (s.size+2) [] g4=L at *
 have HL:Hid (fP s (s.size+1+1) [] g4=L):=hLL
 clear hLL
 have dx:w.heap.size<=w4.heap.size:=hK.size
 have qcx:=ij.lt
 have qx:b≠w4.heap.size:=by omega
 go_wp2_with fail
 generalize hH:w4.heap.size=kb at *
 have zG:aI (w4.alloc (.cells c0 179)) b s nv rv g4:=ij.alloc _
 have EI:ai (w4.alloc (.cells c0 179)) kb=some (.cells c0 179 (0,0)):=by rw[<-hH];exact au _ _
 have gR:aa (fun k=>k=b\/k=kb) w (w4.alloc (.cells c0 179)):=(hK.alloc _).mono (fun _ _ h=>Or.inl h)
 generalize w4.alloc (.cells c0 179)=w5 at *
 clear hH dm oG ij eK hK dl kd
 go_loopg [7] (s.size+1) (fun n v wx=>∃acc g6 c6,rk s g6<=n/\Iv s g6/\acc.length+rk s g6<=401/\aI wx b s nv rv g6/\ai wx kb=some (.cells c6 179 (0,0))/\aJ c6 { cj with kind:=0,text:=acc,term:=g1.t } (.slice none 0 0)/\aa (fun k=>k=b\/k=kb) w wx/\Hid (fP s (n+1) acc g6=L))
 case atStart=>exact⟨[],g4,c0,fW _ _,OK,by have:=fW s g4;simp;omega,zG,EI,vA,gR,HL.out⟩
 case round=>
  obtain⟨acc,g6,c6,nS,sH,kL,JS,kK,WL,um,HR⟩:=hrel
  obtain⟨m,hm⟩:∃m,m=gk:=⟨gk,rfl⟩
  subst hm
  obtain⟨c0',c1,c2,c3,c4,c5,c6'⟩:=JS.cells
  have hf:=JS.frozen 5
  have qcs:=sH.2
  by_cases hcond:g6.bad<0/\pk s g6≠39
  ·have h1:=HR.out
   rw[fP,if_pos hcond]at h1
   have H1:=ae h1
   clear h1 HR
   obtain⟨hb,oW⟩:=hcond
   have SW:((pk s g6:Int) != 39)=true:=by simp;omega
   obtain⟨i1,i2,i3,i4,i5,i6⟩:=dQ sH km 0
   have HM:Hid (rk s (ay s g6 km 0).2<rk s g6/\rk s g6<=m/\acc.length+rk s g6<=401):=⟨kC sH hb (fun h=>(i6 h).2),nS,kL⟩
   have N7:acc.length<=401:=by omega
   clear nS kL
   have oK:=uE b s ⟨#[10,39]⟩ nv rv g6
   change ∀w,aI w b s nv rv g6->s.size<=400->_<=1000->g6.at_<=10000->Calls Tryz.prog 188 #[.pointer (some ⟨b,0,none⟩),.string ⟨#[10,39]⟩,.int .i64 0] w fun e w'=>e=.returned (.int .i64 ((ay s g6 km 0).1:Int))/\aI w' b s nv rv (ay s g6 km 0).2/\aa (·=b) w w' at oK
   have Nv:=ae oK
   clear oK
   generalize ay s g6 km 0=I at *
   obtain⟨x,g8⟩:=I
   dsimp only at *
   go_wp2_with fail
   refine(dz b s nv rv g6 _ JS hs).mono ?_
   rintro e w6 ⟨rfl,n6,rfl⟩
   go_wp2_with fail
   refine(Nv.out _ (JS.drewN n6) hs (by decide) (by omega)).mono ?_
   rintro e w8 ⟨rfl,hG8,lM⟩
   have sI:ai w8 kb=some (.cells c6 179 (0,0)):=bI (show ai (wr.drewN n6) kb=_ from kK) lM (fun h=>qx h.symm)
   have vT:aa (fun k=>k=b\/k=kb) w w8:=(um.drewN n6).trans (lM.mono (fun _ _ h=>Or.inl h))
   have ju:w8.cell? ⟨kb,1,none⟩=some (.string (ba acc)):=by rw[al sI];exact WL.text
   have Na:∀o,w8.frozen? ⟨kb,o,none⟩=false:=fun o=>bh sI
   have SA:=ag sI
   clear c0' c1 c2 c3 c4 c5 c6' hf
   have hcv:=n8 (w8.alloc (.cells #[.int .u8 (x:Int)] 5)) w8.heap.size x i3 (au w8 _)
   have ri:∀o,(w8.alloc (.cells #[.int .u8 (x:Int)] 5)).cell? ⟨kb,o,none⟩=w8.cell? ⟨kb,o,none⟩:=fun o=>World.cell?_alloc_lt _ _ _ SA
   have mz:∀o,(w8.alloc (.cells #[.int .u8 (x:Int)] 5)).frozen? ⟨kb,o,none⟩=w8.frozen? ⟨kb,o,none⟩:=fun o=>World.frozen?_alloc_past _ _ _ SA
   have gh:(ba acc).size=acc.length:=by simp[ba,ByteArray.size]
   have sV:(ba [UInt8.ofNat x]).size=1:=rfl
   go_wp2
   go_roundg (m-1)
   case measure=>have:=HM.out;omega
   case rel=>
    have:=HM.out
    refine⟨acc++[x.toUInt8],g8,c6.setIfInBounds 1 (.string (ba (acc++[x.toUInt8]))),by omega,i1,by simp;omega,?_,?_,WL.setText _,?_,?_⟩
    ·exact(hG8.setOther (p:=⟨kb,1,none⟩) qx _).alloc _
    ·rw[wS]
     rw[aN _ _ (by simpa [World.setCell] using SA)]
     exact gw sI _
    ·exact(vT.setCell (p:=⟨kb,1,none⟩) (fun _=>Or.inr rfl) _).alloc _
    ·rw[show m-1+1=m by omega];exact H1.out
  ·have h1:=HR.out
   rw[fP,if_neg hcond]at h1
   subst h1
   clear HR HL
   have eE:∀W,aa (fun k=>k=b\/k=kb) w W->aa (·=b) w W:=fun W hW=>hW.drop dx
   have hs6:=WL.size
   have qz:c6.extract 0 262=c6:=by rw[<-hs6];simp
   by_cases hb:g6.bad<0
   ·have SW:((pk s g6:Int) != 39)=false:=by
     have:pk s g6=39:=Decidable.byContradiction fun h=>hcond ⟨hb,h⟩
     simp;omega
    clear hcond
    go_wp2_with fail
    refine(dz b s nv rv g6 _ JS hs).mono ?_
    rintro e w6 ⟨rfl,n6,rfl⟩
    have la:ai ((wr.drewN n6).setCell ⟨b,5,none⟩ (.int .i64 ((g6.at_:Int)+1))) kb=some (.cells c6 179 (0,0)):=by rw[eR _ _ _ (Ne.symm qx)];exact kK
    have RX:aI ((wr.drewN n6).setCell ⟨b,5,none⟩ (.int .i64 ((g6.at_:Int)+1))) b s nv rv (bM g6):=(JS.drewN n6).setAt _
    have lM:=eE _ (((um.drewN n6).setCell (p:=⟨b,5,none⟩) (fun _=>Or.inl rfl) (.int .i64 ((g6.at_:Int)+1))))
    go_wp2_with fail
    refine(Cy (hR.only lM RX) WL rfl (by dsimp only;omega)).mono ?_
    rintro e w7 ⟨rfl,fG,U',pz,jN⟩
    go_wp2
    go_ret
    exact⟨by rw[HP.out];rfl,fG,U',by rw[HP.out,HL2.out];exact pz,(dN.only lM).trans jN⟩
   ·clear hcond
    have la:ai (wr.setCell ⟨b,5,none⟩ (.int .i64 ((g6.at_:Int)+1))) kb=some (.cells c6 179 (0,0)):=by rw[eR _ _ _ (Ne.symm qx)];exact kK
    have RX:aI (wr.setCell ⟨b,5,none⟩ (.int .i64 ((g6.at_:Int)+1))) b s nv rv (bM g6):=JS.setAt _
    have lM:=eE _ ((um.setCell (p:=⟨b,5,none⟩) (fun _=>Or.inl rfl) (.int .i64 ((g6.at_:Int)+1))))
    go_wp2_with fail
    refine(Cy (hR.only lM RX) WL rfl (by dsimp only;omega)).mono ?_
    rintro e w7 ⟨rfl,fG,U',pz,jN⟩
    go_wp2
    go_ret
    exact⟨by rw[HP.out];rfl,fG,U',by rw[HP.out,HL2.out];exact pz,(dN.only lM).trans jN⟩
end Go.Proofs.YtagklnaaoclmhaaGreatDoor
namespace Go.Proofs.YtagklnaaoclmhaaGreatDoor
open Go.RowKit
attribute [local go_sem ↓] bw aX aZ aY aF
attribute [local go_sem] bc aQ aS dX bv aT aU aV aW aD bf aK au aN
theorem xJ {s:ByteArray}{ch:St->St × Nat}{d:Nat}(dH:d=0\/oZ 85 s ch (d-1)/\eN s ch (d-1)):oZ 176 s (aR s ch) d:=by
 intro base b nv rv U A w hR hO hd
 cases hl:bL (pk s (bl s A.sc):Int)
 ·by_cases yu:pk s (bl s A.sc)=46
  ·exact LC s ch base b nv rv U A w hR hO yu
  ·by_cases h39:pk s (bl s A.sc)=39
   ·exact LD s ch base b nv rv U A w hR hO h39
   ·by_cases h91:pk s (bl s A.sc)=91
    ·exact DF s ch base b nv rv U A w hR hO h91
    ·by_cases qs:pk s (bl s A.sc)=40/\(bl s A.sc).op<5
     ·rcases dH with h0 | ⟨h1,h2⟩
      ·have:=ip s A.sc;omega
      ·exact Hh s ch base b nv rv U A w hR hO qs.1 qs.2 hd h1 h2
     ·exact LB s ch base b nv rv U A w hR hO hl yu h39 h91 qs
 ·exact Hg s ch base b nv rv U A w hR hO hl
theorem TA {s:ByteArray}{ch:St->St × Nat}{d:Nat}(fK:d=0\/eN s ch (d-1))(gG:oZ 176 s (aR s ch) d)(base b:Nat)(nv rv:Value)(U:Nat->Prop)(A:St)(w:World)(hR:RG w base b s nv rv U A)(hO:Ok s A)(hd:5<=A.sc.op+d)(h1:il s A.sc 38=true):
  Calls Tryz.prog 162 #[.pointer (some ⟨b,0,none⟩)] w fun e w'=>e=.returned (.int .i64 ((bP s ch A).2:Int))/\∃fG U',RG w' base b s fG rv U' (bP s ch A).1/\dN w.heap.size b nv fG U U' w w':=by
 have hs:=hO.size
 obtain⟨f0,t0,k0⟩:=gX hO.iv
 have HP:Hid (bP s ch A=eG 9 (cG s (aR s ch { A with sc:=sg s A.sc 38 }))):=by
  unfold Hid bP cY bn;rw[h1];rfl
 have jp:Ok s { A with sc:=sg s A.sc 38 }:=by
  have:=hO.sc f0 t0
  unfold bn at this
  rw[h1]at this;exact this
 have tf:5<=({ A with sc:=sg s A.sc 38 }:St).sc.op+d:=by
  have:=f0.op
  unfold bn at this
  rw[h1]at this;simp only[if_true]at this
  dsimp only;omega
 clear f0 t0 k0
 generalize bP s ch A=r at *
 go_enter Tryz.func162,Tryz.ntmps162
 go_wp2_with fail
 refine(jz b s nv rv A.sc 38 _ hR.gis hs).mono ?_
 rintro e w1 ⟨rfl,iA,dd⟩
 rw[h1]
 generalize sg s A.sc 38=g1 at *
 go_wp2_with fail
 have js:=nA fK (A:={ A with sc:=g1 }) jp.iv tf
 refine(gG base b nv rv U { A with sc:=g1 } _ (hR.only dd iA) jp tf).mono ?_
 rintro e w2 ⟨rfl,pT,U2,dP,vX⟩
 have gA:dN w.heap.size b nv pT U U2 w w2:=(dN.only dd).trans vX
 have ia:=js.pot'
 have AU:=jp.pt
 have AF:=js.iv
 generalize aR s ch { A with sc:=g1 }=X at *
 obtain⟨B,x⟩:=X
 dsimp only at *
 have uA:B.ns.length<=3001:=by unfold Pt at ia AU;dsimp only at *;omega
 go_wp2_with fail
 refine(dC b s pT rv B.sc _ dP.gis hs).mono ?_
 rintro e w3 ⟨rfl,jm,eU⟩
 have rX:Hid (cG s (B,x)=if bm (pk s (bl s B.sc)) > 0 then aP { B with sc:=bM (bl s B.sc) } { cj with kind:=bm (pk s (bl s B.sc)),subs:=[x] } else ({ B with sc:=bl s B.sc },x)):=rfl
 have WW:=AF.bl.2
 generalize bl s B.sc=g3 at *
 go_wp2_with fail
 refine(dz b s pT rv g3 _ jm hs).mono ?_
 rintro e w4 ⟨rfl,n4,rfl⟩
 clear ia AU AF jp js fK gG
 by_cases h63:pk s g3=63
 ·have ft:Hid (cG s (B,x)=aP { B with sc:=bM g3 } { cj with kind:=6,subs:=[x] }):=by
   unfold Hid;rw[rX.out,show bm (pk s g3)=6 by unfold bm;rw[if_pos h63]];rfl
  have LH:((pk s g3:Int) == 63)=true:=by simp;omega
  clear h63
  have mC:B.ns.length<=100000:=by omega
  obtain⟨c0,c1,c2,c3,c4,c5,c6⟩:=jm.cells
  have xm:=jm.frozen 5
  have ij:aI ((w3.drewN n4).setCell ⟨b,5,none⟩ (.int .i64 ((g3.at_:Int)+1))) b s pT rv (bM g3):=(jm.drewN n4).setAt _
  have eK:aa (·=b) w2 ((w3.drewN n4).setCell ⟨b,5,none⟩ (.int .i64 ((g3.at_:Int)+1))):=(eU.drewN n4).setCell (fun _=>rfl) _
  have fo:=dP.only eK ij
  have sk:((w3.drewN n4).setCell ⟨b,5,none⟩ (.int .i64 ((g3.at_:Int)+1))).heap.size=w3.heap.size:=by simp[World.setCell]
  have qy:aJ ((df.setIfInBounds 0 (.int .i64 6)).setIfInBounds 261 (.slice (some ⟨w3.heap.size,0,none⟩) 1 1)) { cj with kind:=6,subs:=[x] } (.slice (some ⟨w3.heap.size,0,none⟩) 1 1):=(aJ.zero.setKind 6).setSubs [x] _ _ _
  go_wp2_with fail
  refine(fy x w3.heap.size fo sk qy rfl (by dsimp only;omega)).mono ?_
  rintro e w5 ⟨rfl,tw,U5,fJ,iu⟩
  have gP:dN w.heap.size b nv tw U U5 w w5:=gA.trans ((dN.only eK).trans iu)
  clear c0 c1 c2 c3 c4 c5 c6 xm ij eK fo sk qy iu
  have mB:(aP { B with sc:=bM g3 } { cj with kind:=6,subs:=[x] }).1.ns.length<=100000:=by simp[aP];omega
  generalize aP { B with sc:=bM g3 } { cj with kind:=6,subs:=[x] }=Y at *
  obtain⟨C,x5⟩:=Y
  dsimp only at *
  have Ce:aJ ((df.setIfInBounds 0 (.int .i64 9)).setIfInBounds 261 (.slice (some ⟨w5.heap.size,0,none⟩) 1 1)) { cj with kind:=9,subs:=[x5] } (.slice (some ⟨w5.heap.size,0,none⟩) 1 1):=(aJ.zero.setKind 9).setSubs [x5] _ _ _
  go_wp2_with fail
  refine(fy x5 w5.heap.size fJ rfl Ce rfl (by (try dsimp only);omega)).mono ?_
  rintro e w8 ⟨rfl,DC,U8,vW,sL⟩
  go_wp2
  go_ret
  exact⟨by rw[HP.out,ft.out];rfl,DC,U8,by rw[HP.out,ft.out];exact vW,gP.trans sL⟩
 ·by_cases h42:pk s g3=42
  ·have ft:Hid (cG s (B,x)=aP { B with sc:=bM g3 } { cj with kind:=7,subs:=[x] }):=by
    unfold Hid;rw[rX.out,show bm (pk s g3)=7 by unfold bm;rw[if_neg h63,if_pos h42]];rfl
   have LH:((pk s g3:Int) == 63)=false:=by simp;omega
   have QL:((pk s g3:Int) == 42)=true:=by simp;omega
   clear h63 h42
   have mC:B.ns.length<=100000:=by omega
   obtain⟨c0,c1,c2,c3,c4,c5,c6⟩:=jm.cells
   have xm:=jm.frozen 5
   have ij:aI ((w3.drewN n4).setCell ⟨b,5,none⟩ (.int .i64 ((g3.at_:Int)+1))) b s pT rv (bM g3):=(jm.drewN n4).setAt _
   have eK:aa (·=b) w2 ((w3.drewN n4).setCell ⟨b,5,none⟩ (.int .i64 ((g3.at_:Int)+1))):=(eU.drewN n4).setCell (fun _=>rfl) _
   have fo:=dP.only eK ij
   have sk:((w3.drewN n4).setCell ⟨b,5,none⟩ (.int .i64 ((g3.at_:Int)+1))).heap.size=w3.heap.size:=by simp[World.setCell]
   have qy:aJ ((df.setIfInBounds 0 (.int .i64 7)).setIfInBounds 261 (.slice (some ⟨w3.heap.size,0,none⟩) 1 1)) { cj with kind:=7,subs:=[x] } (.slice (some ⟨w3.heap.size,0,none⟩) 1 1):=(aJ.zero.setKind 7).setSubs [x] _ _ _
   go_wp2_with fail
   refine(fy x w3.heap.size fo sk qy rfl (by dsimp only;omega)).mono ?_
   rintro e w5 ⟨rfl,tw,U5,fJ,iu⟩
   have gP:dN w.heap.size b nv tw U U5 w w5:=gA.trans ((dN.only eK).trans iu)
   clear c0 c1 c2 c3 c4 c5 c6 xm ij eK fo sk qy iu
   have mB:(aP { B with sc:=bM g3 } { cj with kind:=7,subs:=[x] }).1.ns.length<=100000:=by simp[aP];omega
   generalize aP { B with sc:=bM g3 } { cj with kind:=7,subs:=[x] }=Y at *
   obtain⟨C,x5⟩:=Y
   dsimp only at *
   have Ce:aJ ((df.setIfInBounds 0 (.int .i64 9)).setIfInBounds 261 (.slice (some ⟨w5.heap.size,0,none⟩) 1 1)) { cj with kind:=9,subs:=[x5] } (.slice (some ⟨w5.heap.size,0,none⟩) 1 1):=(aJ.zero.setKind 9).setSubs [x5] _ _ _
   go_wp2_with fail
   refine(fy x5 w5.heap.size fJ rfl Ce rfl (by (try dsimp only);omega)).mono ?_
   rintro e w8 ⟨rfl,DC,U8,vW,sL⟩
   go_wp2
   go_ret
   exact⟨by rw[HP.out,ft.out];rfl,DC,U8,by rw[HP.out,ft.out];exact vW,gP.trans sL⟩
  ·by_cases h43:pk s g3=43
   ·have ft:Hid (cG s (B,x)=aP { B with sc:=bM g3 } { cj with kind:=8,subs:=[x] }):=by
     unfold Hid;rw[rX.out,show bm (pk s g3)=8 by unfold bm;rw[if_neg h63,if_neg h42,if_pos h43]];rfl
    have LH:((pk s g3:Int) == 63)=false:=by simp;omega
    have QL:((pk s g3:Int) == 42)=false:=by simp;omega
    have YI:((pk s g3:Int) == 43)=true:=by simp;omega
    clear h63 h42 h43
    have mC:B.ns.length<=100000:=by omega
    obtain⟨c0,c1,c2,c3,c4,c5,c6⟩:=jm.cells
    have xm:=jm.frozen 5
    have ij:aI ((w3.drewN n4).setCell ⟨b,5,none⟩ (.int .i64 ((g3.at_:Int)+1))) b s pT rv (bM g3):=(jm.drewN n4).setAt _
    have eK:aa (·=b) w2 ((w3.drewN n4).setCell ⟨b,5,none⟩ (.int .i64 ((g3.at_:Int)+1))):=(eU.drewN n4).setCell (fun _=>rfl) _
    have fo:=dP.only eK ij
    have sk:((w3.drewN n4).setCell ⟨b,5,none⟩ (.int .i64 ((g3.at_:Int)+1))).heap.size=w3.heap.size:=by simp[World.setCell]
    have qy:aJ ((df.setIfInBounds 0 (.int .i64 8)).setIfInBounds 261 (.slice (some ⟨w3.heap.size,0,none⟩) 1 1)) { cj with kind:=8,subs:=[x] } (.slice (some ⟨w3.heap.size,0,none⟩) 1 1):=(aJ.zero.setKind 8).setSubs [x] _ _ _
    go_wp2_with fail
    refine(fy x w3.heap.size fo sk qy rfl (by dsimp only;omega)).mono ?_
    rintro e w5 ⟨rfl,tw,U5,fJ,iu⟩
    have gP:dN w.heap.size b nv tw U U5 w w5:=gA.trans ((dN.only eK).trans iu)
    clear c0 c1 c2 c3 c4 c5 c6 xm ij eK fo sk qy iu
    have mB:(aP { B with sc:=bM g3 } { cj with kind:=8,subs:=[x] }).1.ns.length<=100000:=by simp[aP];omega
    generalize aP { B with sc:=bM g3 } { cj with kind:=8,subs:=[x] }=Y at *
    obtain⟨C,x5⟩:=Y
    dsimp only at *
    have Ce:aJ ((df.setIfInBounds 0 (.int .i64 9)).setIfInBounds 261 (.slice (some ⟨w5.heap.size,0,none⟩) 1 1)) { cj with kind:=9,subs:=[x5] } (.slice (some ⟨w5.heap.size,0,none⟩) 1 1):=(aJ.zero.setKind 9).setSubs [x5] _ _ _
    go_wp2_with fail
    refine(fy x5 w5.heap.size fJ rfl Ce rfl (by (try dsimp only);omega)).mono ?_
    rintro e w8 ⟨rfl,DC,U8,vW,sL⟩
    go_wp2
    go_ret
    exact⟨by rw[HP.out,ft.out];rfl,DC,U8,by rw[HP.out,ft.out];exact vW,gP.trans sL⟩
   ·have ft:Hid (cG s (B,x)=({ B with sc:=g3 },x)):=by
     unfold Hid;rw[rX.out,show bm (pk s g3)=0 by unfold bm;rw[if_neg h63,if_neg h42,if_neg h43]];rfl
    have LH:((pk s g3:Int) == 63)=false:=by simp;omega
    have QL:((pk s g3:Int) == 42)=false:=by simp;omega
    have YI:((pk s g3:Int) == 43)=false:=by simp;omega
    clear h63 h42 h43
    have mB:(B.ns).length<=100000:=by omega
    have fJ:RG (w3.drewN n4) base b s pT rv U2 { B with sc:=g3 }:=(dP.only eU jm).same n4
    have gP:dN w.heap.size b nv pT U U2 w (w3.drewN n4):=gA.trans (dN.only (eU.drewN n4))
    obtain⟨tw,AS⟩:∃n,n=pT:=⟨_,rfl⟩
    rw[<-AS]at fJ gP
    clear AS
    obtain⟨U5,WS⟩:∃n,n=U2:=⟨_,rfl⟩
    subst WS
    obtain⟨x5,Tl⟩:∃n,n=x:=⟨_,rfl⟩
    subst Tl
    generalize jX:w3.drewN n4=w5 at *
    clear jX
    have Ce:aJ ((df.setIfInBounds 0 (.int .i64 9)).setIfInBounds 261 (.slice (some ⟨w5.heap.size,0,none⟩) 1 1)) { cj with kind:=9,subs:=[x5] } (.slice (some ⟨w5.heap.size,0,none⟩) 1 1):=(aJ.zero.setKind 9).setSubs [x5] _ _ _
    go_wp2_with fail
    refine(fy x5 w5.heap.size fJ rfl Ce rfl (by (try dsimp only);omega)).mono ?_
    rintro e w8 ⟨rfl,DC,U8,vW,sL⟩
    go_wp2
    go_ret
    exact⟨by rw[HP.out,ft.out];rfl,DC,U8,by rw[HP.out,ft.out];exact vW,gP.trans sL⟩
theorem OU {s:ByteArray}{ch:St->St × Nat}{d:Nat}(fK:d=0\/eN s ch (d-1))(gG:oZ 176 s (aR s ch) d)(base b:Nat)(nv rv:Value)(U:Nat->Prop)(A:St)(w:World)(hR:RG w base b s nv rv U A)(hO:Ok s A)(hd:5<=A.sc.op+d)(h1:il s A.sc 38=false)(h2:il s (sg s A.sc 38) 33=true):
  Calls Tryz.prog 162 #[.pointer (some ⟨b,0,none⟩)] w fun e w'=>e=.returned (.int .i64 ((bP s ch A).2:Int))/\∃fG U',RG w' base b s fG rv U' (bP s ch A).1/\dN w.heap.size b nv fG U U' w w':=by
 have hs:=hO.size
 obtain⟨f0,t0,k0⟩:=gX hO.iv
 have HP:Hid (bP s ch A=eG 10 (cG s (aR s ch { A with sc:=sg s (sg s A.sc 38) 33 }))):=by
  unfold Hid bP cY bn;rw[h1,h2];rfl
 have jp:Ok s { A with sc:=sg s (sg s A.sc 38) 33 }:=by
  have:=hO.sc f0 t0
  unfold bn at this
  rw[h1]at this;exact this
 have tf:5<=({ A with sc:=sg s (sg s A.sc 38) 33 }:St).sc.op+d:=by
  have:=f0.op
  unfold bn at this
  rw[h1]at this;simp only[Bool.false_eq_true,if_false]at this
  dsimp only;omega
 clear f0 t0 k0
 generalize bP s ch A=r at *
 go_enter Tryz.func162,Tryz.ntmps162
 go_wp2_with fail
 refine(jz b s nv rv A.sc 38 _ hR.gis hs).mono ?_
 rintro e w1 ⟨rfl,iA,dd⟩
 rw[h1]
 go_wp2_with fail
 refine(jz b s nv rv (sg s A.sc 38) 33 _ iA hs).mono ?_
 rintro e w1' ⟨rfl,JQ,CZ⟩
 rw[h2]
 replace dd:=dd.trans CZ
 clear iA CZ h1 h2
 have iA:=JQ
 clear JQ
 generalize sg s (sg s A.sc 38) 33=g1 at *
 go_wp2_with fail
 have js:=nA fK (A:={ A with sc:=g1 }) jp.iv tf
 refine(gG base b nv rv U { A with sc:=g1 } _ (hR.only dd iA) jp tf).mono ?_
 rintro e w2 ⟨rfl,pT,U2,dP,vX⟩
 have gA:dN w.heap.size b nv pT U U2 w w2:=(dN.only dd).trans vX
 have ia:=js.pot'
 have AU:=jp.pt
 have AF:=js.iv
 generalize aR s ch { A with sc:=g1 }=X at *
 obtain⟨B,x⟩:=X
 dsimp only at *
 have uA:B.ns.length<=3001:=by unfold Pt at ia AU;dsimp only at *;omega
 go_wp2_with fail
 refine(dC b s pT rv B.sc _ dP.gis hs).mono ?_
 rintro e w3 ⟨rfl,jm,eU⟩
 have rX:Hid (cG s (B,x)=if bm (pk s (bl s B.sc)) > 0 then aP { B with sc:=bM (bl s B.sc) } { cj with kind:=bm (pk s (bl s B.sc)),subs:=[x] } else ({ B with sc:=bl s B.sc },x)):=rfl
 have WW:=AF.bl.2
 generalize bl s B.sc=g3 at *
 go_wp2_with fail
 refine(dz b s pT rv g3 _ jm hs).mono ?_
 rintro e w4 ⟨rfl,n4,rfl⟩
 clear ia AU AF jp js fK gG
 by_cases h63:pk s g3=63
 ·have ft:Hid (cG s (B,x)=aP { B with sc:=bM g3 } { cj with kind:=6,subs:=[x] }):=by
   unfold Hid;rw[rX.out,show bm (pk s g3)=6 by unfold bm;rw[if_pos h63]];rfl
  have LH:((pk s g3:Int) == 63)=true:=by simp;omega
  clear h63
  have mC:B.ns.length<=100000:=by omega
  obtain⟨c0,c1,c2,c3,c4,c5,c6⟩:=jm.cells
  have xm:=jm.frozen 5
  have ij:aI ((w3.drewN n4).setCell ⟨b,5,none⟩ (.int .i64 ((g3.at_:Int)+1))) b s pT rv (bM g3):=(jm.drewN n4).setAt _
  have eK:aa (·=b) w2 ((w3.drewN n4).setCell ⟨b,5,none⟩ (.int .i64 ((g3.at_:Int)+1))):=(eU.drewN n4).setCell (fun _=>rfl) _
  have fo:=dP.only eK ij
  have sk:((w3.drewN n4).setCell ⟨b,5,none⟩ (.int .i64 ((g3.at_:Int)+1))).heap.size=w3.heap.size:=by simp[World.setCell]
  have qy:aJ ((df.setIfInBounds 0 (.int .i64 6)).setIfInBounds 261 (.slice (some ⟨w3.heap.size,0,none⟩) 1 1)) { cj with kind:=6,subs:=[x] } (.slice (some ⟨w3.heap.size,0,none⟩) 1 1):=(aJ.zero.setKind 6).setSubs [x] _ _ _
  go_wp2_with fail
  refine(fy x w3.heap.size fo sk qy rfl (by dsimp only;omega)).mono ?_
  rintro e w5 ⟨rfl,tw,U5,fJ,iu⟩
  have gP:dN w.heap.size b nv tw U U5 w w5:=gA.trans ((dN.only eK).trans iu)
  clear c0 c1 c2 c3 c4 c5 c6 xm ij eK fo sk qy iu
  have mB:(aP { B with sc:=bM g3 } { cj with kind:=6,subs:=[x] }).1.ns.length<=100000:=by simp[aP];omega
  generalize aP { B with sc:=bM g3 } { cj with kind:=6,subs:=[x] }=Y at *
  obtain⟨C,x5⟩:=Y
  dsimp only at *
  have Ce:aJ ((df.setIfInBounds 0 (.int .i64 10)).setIfInBounds 261 (.slice (some ⟨w5.heap.size,0,none⟩) 1 1)) { cj with kind:=10,subs:=[x5] } (.slice (some ⟨w5.heap.size,0,none⟩) 1 1):=(aJ.zero.setKind 10).setSubs [x5] _ _ _
  go_wp2_with fail
  refine(fy x5 w5.heap.size fJ rfl Ce rfl (by (try dsimp only);omega)).mono ?_
  rintro e w8 ⟨rfl,DC,U8,vW,sL⟩
  go_wp2
  go_ret
  exact⟨by rw[HP.out,ft.out];rfl,DC,U8,by rw[HP.out,ft.out];exact vW,gP.trans sL⟩
 ·by_cases h42:pk s g3=42
  ·have ft:Hid (cG s (B,x)=aP { B with sc:=bM g3 } { cj with kind:=7,subs:=[x] }):=by
    unfold Hid;rw[rX.out,show bm (pk s g3)=7 by unfold bm;rw[if_neg h63,if_pos h42]];rfl
   have LH:((pk s g3:Int) == 63)=false:=by simp;omega
   have QL:((pk s g3:Int) == 42)=true:=by simp;omega
   clear h63 h42
   have mC:B.ns.length<=100000:=by omega
   obtain⟨c0,c1,c2,c3,c4,c5,c6⟩:=jm.cells
   have xm:=jm.frozen 5
   have ij:aI ((w3.drewN n4).setCell ⟨b,5,none⟩ (.int .i64 ((g3.at_:Int)+1))) b s pT rv (bM g3):=(jm.drewN n4).setAt _
   have eK:aa (·=b) w2 ((w3.drewN n4).setCell ⟨b,5,none⟩ (.int .i64 ((g3.at_:Int)+1))):=(eU.drewN n4).setCell (fun _=>rfl) _
   have fo:=dP.only eK ij
   have sk:((w3.drewN n4).setCell ⟨b,5,none⟩ (.int .i64 ((g3.at_:Int)+1))).heap.size=w3.heap.size:=by simp[World.setCell]
   have qy:aJ ((df.setIfInBounds 0 (.int .i64 7)).setIfInBounds 261 (.slice (some ⟨w3.heap.size,0,none⟩) 1 1)) { cj with kind:=7,subs:=[x] } (.slice (some ⟨w3.heap.size,0,none⟩) 1 1):=(aJ.zero.setKind 7).setSubs [x] _ _ _
   go_wp2_with fail
   refine(fy x w3.heap.size fo sk qy rfl (by dsimp only;omega)).mono ?_
   rintro e w5 ⟨rfl,tw,U5,fJ,iu⟩
   have gP:dN w.heap.size b nv tw U U5 w w5:=gA.trans ((dN.only eK).trans iu)
   clear c0 c1 c2 c3 c4 c5 c6 xm ij eK fo sk qy iu
   have mB:(aP { B with sc:=bM g3 } { cj with kind:=7,subs:=[x] }).1.ns.length<=100000:=by simp[aP];omega
   generalize aP { B with sc:=bM g3 } { cj with kind:=7,subs:=[x] }=Y at *
   obtain⟨C,x5⟩:=Y
   dsimp only at *
   have Ce:aJ ((df.setIfInBounds 0 (.int .i64 10)).setIfInBounds 261 (.slice (some ⟨w5.heap.size,0,none⟩) 1 1)) { cj with kind:=10,subs:=[x5] } (.slice (some ⟨w5.heap.size,0,none⟩) 1 1):=(aJ.zero.setKind 10).setSubs [x5] _ _ _
   go_wp2_with fail
   refine(fy x5 w5.heap.size fJ rfl Ce rfl (by (try dsimp only);omega)).mono ?_
   rintro e w8 ⟨rfl,DC,U8,vW,sL⟩
   go_wp2
   go_ret
   exact⟨by rw[HP.out,ft.out];rfl,DC,U8,by rw[HP.out,ft.out];exact vW,gP.trans sL⟩
  ·by_cases h43:pk s g3=43
   ·have ft:Hid (cG s (B,x)=aP { B with sc:=bM g3 } { cj with kind:=8,subs:=[x] }):=by
     unfold Hid;rw[rX.out,show bm (pk s g3)=8 by unfold bm;rw[if_neg h63,if_neg h42,if_pos h43]];rfl
    have LH:((pk s g3:Int) == 63)=false:=by simp;omega
    have QL:((pk s g3:Int) == 42)=false:=by simp;omega
    have YI:((pk s g3:Int) == 43)=true:=by simp;omega
    clear h63 h42 h43
    have mC:B.ns.length<=100000:=by omega
    obtain⟨c0,c1,c2,c3,c4,c5,c6⟩:=jm.cells
    have xm:=jm.frozen 5
    have ij:aI ((w3.drewN n4).setCell ⟨b,5,none⟩ (.int .i64 ((g3.at_:Int)+1))) b s pT rv (bM g3):=(jm.drewN n4).setAt _
    have eK:aa (·=b) w2 ((w3.drewN n4).setCell ⟨b,5,none⟩ (.int .i64 ((g3.at_:Int)+1))):=(eU.drewN n4).setCell (fun _=>rfl) _
    have fo:=dP.only eK ij
    have sk:((w3.drewN n4).setCell ⟨b,5,none⟩ (.int .i64 ((g3.at_:Int)+1))).heap.size=w3.heap.size:=by simp[World.setCell]
    have qy:aJ ((df.setIfInBounds 0 (.int .i64 8)).setIfInBounds 261 (.slice (some ⟨w3.heap.size,0,none⟩) 1 1)) { cj with kind:=8,subs:=[x] } (.slice (some ⟨w3.heap.size,0,none⟩) 1 1):=(aJ.zero.setKind 8).setSubs [x] _ _ _
    go_wp2_with fail
    refine(fy x w3.heap.size fo sk qy rfl (by dsimp only;omega)).mono ?_
    rintro e w5 ⟨rfl,tw,U5,fJ,iu⟩
    have gP:dN w.heap.size b nv tw U U5 w w5:=gA.trans ((dN.only eK).trans iu)
    clear c0 c1 c2 c3 c4 c5 c6 xm ij eK fo sk qy iu
    have mB:(aP { B with sc:=bM g3 } { cj with kind:=8,subs:=[x] }).1.ns.length<=100000:=by simp[aP];omega
    generalize aP { B with sc:=bM g3 } { cj with kind:=8,subs:=[x] }=Y at *
    obtain⟨C,x5⟩:=Y
    dsimp only at *
    have Ce:aJ ((df.setIfInBounds 0 (.int .i64 10)).setIfInBounds 261 (.slice (some ⟨w5.heap.size,0,none⟩) 1 1)) { cj with kind:=10,subs:=[x5] } (.slice (some ⟨w5.heap.size,0,none⟩) 1 1):=(aJ.zero.setKind 10).setSubs [x5] _ _ _
    go_wp2_with fail
    refine(fy x5 w5.heap.size fJ rfl Ce rfl (by (try dsimp only);omega)).mono ?_
    rintro e w8 ⟨rfl,DC,U8,vW,sL⟩
    go_wp2
    go_ret
    exact⟨by rw[HP.out,ft.out];rfl,DC,U8,by rw[HP.out,ft.out];exact vW,gP.trans sL⟩
   ·have ft:Hid (cG s (B,x)=({ B with sc:=g3 },x)):=by
     unfold Hid;rw[rX.out,show bm (pk s g3)=0 by unfold bm;rw[if_neg h63,if_neg h42,if_neg h43]];rfl
    have LH:((pk s g3:Int) == 63)=false:=by simp;omega
    have QL:((pk s g3:Int) == 42)=false:=by simp;omega
    have YI:((pk s g3:Int) == 43)=false:=by simp;omega
    clear h63 h42 h43
    have mB:(B.ns).length<=100000:=by omega
    have fJ:RG (w3.drewN n4) base b s pT rv U2 { B with sc:=g3 }:=(dP.only eU jm).same n4
    have gP:dN w.heap.size b nv pT U U2 w (w3.drewN n4):=gA.trans (dN.only (eU.drewN n4))
    obtain⟨tw,AS⟩:∃n,n=pT:=⟨_,rfl⟩
    rw[<-AS]at fJ gP
    clear AS
    obtain⟨U5,WS⟩:∃n,n=U2:=⟨_,rfl⟩
    subst WS
    obtain⟨x5,Tl⟩:∃n,n=x:=⟨_,rfl⟩
    subst Tl
    generalize jX:w3.drewN n4=w5 at *
    clear jX
    have Ce:aJ ((df.setIfInBounds 0 (.int .i64 10)).setIfInBounds 261 (.slice (some ⟨w5.heap.size,0,none⟩) 1 1)) { cj with kind:=10,subs:=[x5] } (.slice (some ⟨w5.heap.size,0,none⟩) 1 1):=(aJ.zero.setKind 10).setSubs [x5] _ _ _
    go_wp2_with fail
    refine(fy x5 w5.heap.size fJ rfl Ce rfl (by (try dsimp only);omega)).mono ?_
    rintro e w8 ⟨rfl,DC,U8,vW,sL⟩
    go_wp2
    go_ret
    exact⟨by rw[HP.out,ft.out];rfl,DC,U8,by rw[HP.out,ft.out];exact vW,gP.trans sL⟩
theorem Tz {s:ByteArray}{ch:St->St × Nat}{d:Nat}(fK:d=0\/eN s ch (d-1))(gG:oZ 176 s (aR s ch) d)(base b:Nat)(nv rv:Value)(U:Nat->Prop)(A:St)(w:World)(hR:RG w base b s nv rv U A)(hO:Ok s A)(hd:5<=A.sc.op+d)(h1:il s A.sc 38=false)(h2:il s (sg s A.sc 38) 33=false):
  Calls Tryz.prog 162 #[.pointer (some ⟨b,0,none⟩)] w fun e w'=>e=.returned (.int .i64 ((bP s ch A).2:Int))/\∃fG U',RG w' base b s fG rv U' (bP s ch A).1/\dN w.heap.size b nv fG U U' w w':=by
 have hs:=hO.size
 obtain⟨f0,t0,k0⟩:=gX hO.iv
 have HP:Hid (bP s ch A=eG 0 (cG s (aR s ch { A with sc:=sg s (sg s A.sc 38) 33 }))):=by
  unfold Hid bP cY bn;rw[h1,h2];rfl
 have jp:Ok s { A with sc:=sg s (sg s A.sc 38) 33 }:=by
  have:=hO.sc f0 t0
  unfold bn at this
  rw[h1]at this;exact this
 have tf:5<=({ A with sc:=sg s (sg s A.sc 38) 33 }:St).sc.op+d:=by
  have:=f0.op
  unfold bn at this
  rw[h1]at this;simp only[Bool.false_eq_true,if_false]at this
  dsimp only;omega
 clear f0 t0 k0
 generalize bP s ch A=r at *
 go_enter Tryz.func162,Tryz.ntmps162
 go_wp2_with fail
 refine(jz b s nv rv A.sc 38 _ hR.gis hs).mono ?_
 rintro e w1 ⟨rfl,iA,dd⟩
 rw[h1]
 go_wp2_with fail
 refine(jz b s nv rv (sg s A.sc 38) 33 _ iA hs).mono ?_
 rintro e w1' ⟨rfl,JQ,CZ⟩
 rw[h2]
 replace dd:=dd.trans CZ
 clear iA CZ h1 h2
 have iA:=JQ
 clear JQ
 generalize sg s (sg s A.sc 38) 33=g1 at *
 go_wp2_with fail
 have js:=nA fK (A:={ A with sc:=g1 }) jp.iv tf
 refine(gG base b nv rv U { A with sc:=g1 } _ (hR.only dd iA) jp tf).mono ?_
 rintro e w2 ⟨rfl,pT,U2,dP,vX⟩
 have gA:dN w.heap.size b nv pT U U2 w w2:=(dN.only dd).trans vX
 have ia:=js.pot'
 have AU:=jp.pt
 have AF:=js.iv
 generalize aR s ch { A with sc:=g1 }=X at *
 obtain⟨B,x⟩:=X
 dsimp only at *
 have uA:B.ns.length<=3001:=by unfold Pt at ia AU;dsimp only at *;omega
 go_wp2_with fail
 refine(dC b s pT rv B.sc _ dP.gis hs).mono ?_
 rintro e w3 ⟨rfl,jm,eU⟩
 have rX:Hid (cG s (B,x)=if bm (pk s (bl s B.sc)) > 0 then aP { B with sc:=bM (bl s B.sc) } { cj with kind:=bm (pk s (bl s B.sc)),subs:=[x] } else ({ B with sc:=bl s B.sc },x)):=rfl
 have WW:=AF.bl.2
 generalize bl s B.sc=g3 at *
 go_wp2_with fail
 refine(dz b s pT rv g3 _ jm hs).mono ?_
 rintro e w4 ⟨rfl,n4,rfl⟩
 clear ia AU AF jp js fK gG
 by_cases h63:pk s g3=63
 ·have ft:Hid (cG s (B,x)=aP { B with sc:=bM g3 } { cj with kind:=6,subs:=[x] }):=by
   unfold Hid;rw[rX.out,show bm (pk s g3)=6 by unfold bm;rw[if_pos h63]];rfl
  have LH:((pk s g3:Int) == 63)=true:=by simp;omega
  clear h63
  have mC:B.ns.length<=100000:=by omega
  obtain⟨c0,c1,c2,c3,c4,c5,c6⟩:=jm.cells
  have xm:=jm.frozen 5
  have ij:aI ((w3.drewN n4).setCell ⟨b,5,none⟩ (.int .i64 ((g3.at_:Int)+1))) b s pT rv (bM g3):=(jm.drewN n4).setAt _
  have eK:aa (·=b) w2 ((w3.drewN n4).setCell ⟨b,5,none⟩ (.int .i64 ((g3.at_:Int)+1))):=(eU.drewN n4).setCell (fun _=>rfl) _
  have fo:=dP.only eK ij
  have sk:((w3.drewN n4).setCell ⟨b,5,none⟩ (.int .i64 ((g3.at_:Int)+1))).heap.size=w3.heap.size:=by simp[World.setCell]
  have qy:aJ ((df.setIfInBounds 0 (.int .i64 6)).setIfInBounds 261 (.slice (some ⟨w3.heap.size,0,none⟩) 1 1)) { cj with kind:=6,subs:=[x] } (.slice (some ⟨w3.heap.size,0,none⟩) 1 1):=(aJ.zero.setKind 6).setSubs [x] _ _ _
  go_wp2_with fail
  refine(fy x w3.heap.size fo sk qy rfl (by dsimp only;omega)).mono ?_
  rintro e w5 ⟨rfl,tw,U5,fJ,iu⟩
  have gP:dN w.heap.size b nv tw U U5 w w5:=gA.trans ((dN.only eK).trans iu)
  clear c0 c1 c2 c3 c4 c5 c6 xm ij eK fo sk qy iu
  have mB:(aP { B with sc:=bM g3 } { cj with kind:=6,subs:=[x] }).1.ns.length<=100000:=by simp[aP];omega
  generalize aP { B with sc:=bM g3 } { cj with kind:=6,subs:=[x] }=Y at *
  obtain⟨C,x5⟩:=Y
  dsimp only at *
  go_wp2
  go_ret
  exact⟨by rw[HP.out,ft.out];rfl,tw,U5,by rw[HP.out,ft.out];exact fJ,gP⟩
 ·by_cases h42:pk s g3=42
  ·have ft:Hid (cG s (B,x)=aP { B with sc:=bM g3 } { cj with kind:=7,subs:=[x] }):=by
    unfold Hid;rw[rX.out,show bm (pk s g3)=7 by unfold bm;rw[if_neg h63,if_pos h42]];rfl
   have LH:((pk s g3:Int) == 63)=false:=by simp;omega
   have QL:((pk s g3:Int) == 42)=true:=by simp;omega
   clear h63 h42
   have mC:B.ns.length<=100000:=by omega
   obtain⟨c0,c1,c2,c3,c4,c5,c6⟩:=jm.cells
   have xm:=jm.frozen 5
   have ij:aI ((w3.drewN n4).setCell ⟨b,5,none⟩ (.int .i64 ((g3.at_:Int)+1))) b s pT rv (bM g3):=(jm.drewN n4).setAt _
   have eK:aa (·=b) w2 ((w3.drewN n4).setCell ⟨b,5,none⟩ (.int .i64 ((g3.at_:Int)+1))):=(eU.drewN n4).setCell (fun _=>rfl) _
   have fo:=dP.only eK ij
   have sk:((w3.drewN n4).setCell ⟨b,5,none⟩ (.int .i64 ((g3.at_:Int)+1))).heap.size=w3.heap.size:=by simp[World.setCell]
   have qy:aJ ((df.setIfInBounds 0 (.int .i64 7)).setIfInBounds 261 (.slice (some ⟨w3.heap.size,0,none⟩) 1 1)) { cj with kind:=7,subs:=[x] } (.slice (some ⟨w3.heap.size,0,none⟩) 1 1):=(aJ.zero.setKind 7).setSubs [x] _ _ _
   go_wp2_with fail
   refine(fy x w3.heap.size fo sk qy rfl (by dsimp only;omega)).mono ?_
   rintro e w5 ⟨rfl,tw,U5,fJ,iu⟩
   have gP:dN w.heap.size b nv tw U U5 w w5:=gA.trans ((dN.only eK).trans iu)
   clear c0 c1 c2 c3 c4 c5 c6 xm ij eK fo sk qy iu
   have mB:(aP { B with sc:=bM g3 } { cj with kind:=7,subs:=[x] }).1.ns.length<=100000:=by simp[aP];omega
   generalize aP { B with sc:=bM g3 } { cj with kind:=7,subs:=[x] }=Y at *
   obtain⟨C,x5⟩:=Y
   dsimp only at *
   go_wp2
   go_ret
   exact⟨by rw[HP.out,ft.out];rfl,tw,U5,by rw[HP.out,ft.out];exact fJ,gP⟩
  ·by_cases h43:pk s g3=43
   ·have ft:Hid (cG s (B,x)=aP { B with sc:=bM g3 } { cj with kind:=8,subs:=[x] }):=by
     unfold Hid;rw[rX.out,show bm (pk s g3)=8 by unfold bm;rw[if_neg h63,if_neg h42,if_pos h43]];rfl
    have LH:((pk s g3:Int) == 63)=false:=by simp;omega
    have QL:((pk s g3:Int) == 42)=false:=by simp;omega
    have YI:((pk s g3:Int) == 43)=true:=by simp;omega
    clear h63 h42 h43
    have mC:B.ns.length<=100000:=by omega
    obtain⟨c0,c1,c2,c3,c4,c5,c6⟩:=jm.cells
    have xm:=jm.frozen 5
    have ij:aI ((w3.drewN n4).setCell ⟨b,5,none⟩ (.int .i64 ((g3.at_:Int)+1))) b s pT rv (bM g3):=(jm.drewN n4).setAt _
    have eK:aa (·=b) w2 ((w3.drewN n4).setCell ⟨b,5,none⟩ (.int .i64 ((g3.at_:Int)+1))):=(eU.drewN n4).setCell (fun _=>rfl) _
    have fo:=dP.only eK ij
    have sk:((w3.drewN n4).setCell ⟨b,5,none⟩ (.int .i64 ((g3.at_:Int)+1))).heap.size=w3.heap.size:=by simp[World.setCell]
    have qy:aJ ((df.setIfInBounds 0 (.int .i64 8)).setIfInBounds 261 (.slice (some ⟨w3.heap.size,0,none⟩) 1 1)) { cj with kind:=8,subs:=[x] } (.slice (some ⟨w3.heap.size,0,none⟩) 1 1):=(aJ.zero.setKind 8).setSubs [x] _ _ _
    go_wp2_with fail
    refine(fy x w3.heap.size fo sk qy rfl (by dsimp only;omega)).mono ?_
    rintro e w5 ⟨rfl,tw,U5,fJ,iu⟩
    have gP:dN w.heap.size b nv tw U U5 w w5:=gA.trans ((dN.only eK).trans iu)
    clear c0 c1 c2 c3 c4 c5 c6 xm ij eK fo sk qy iu
    have mB:(aP { B with sc:=bM g3 } { cj with kind:=8,subs:=[x] }).1.ns.length<=100000:=by simp[aP];omega
    generalize aP { B with sc:=bM g3 } { cj with kind:=8,subs:=[x] }=Y at *
    obtain⟨C,x5⟩:=Y
    dsimp only at *
    go_wp2
    go_ret
    exact⟨by rw[HP.out,ft.out];rfl,tw,U5,by rw[HP.out,ft.out];exact fJ,gP⟩
   ·have ft:Hid (cG s (B,x)=({ B with sc:=g3 },x)):=by
     unfold Hid;rw[rX.out,show bm (pk s g3)=0 by unfold bm;rw[if_neg h63,if_neg h42,if_neg h43]];rfl
    have LH:((pk s g3:Int) == 63)=false:=by simp;omega
    have QL:((pk s g3:Int) == 42)=false:=by simp;omega
    have YI:((pk s g3:Int) == 43)=false:=by simp;omega
    clear h63 h42 h43
    have mB:(B.ns).length<=100000:=by omega
    have fJ:RG (w3.drewN n4) base b s pT rv U2 { B with sc:=g3 }:=(dP.only eU jm).same n4
    have gP:dN w.heap.size b nv pT U U2 w (w3.drewN n4):=gA.trans (dN.only (eU.drewN n4))
    obtain⟨tw,AS⟩:∃n,n=pT:=⟨_,rfl⟩
    rw[<-AS]at fJ gP
    clear AS
    obtain⟨U5,WS⟩:∃n,n=U2:=⟨_,rfl⟩
    subst WS
    obtain⟨x5,Tl⟩:∃n,n=x:=⟨_,rfl⟩
    subst Tl
    generalize jX:w3.drewN n4=w5 at *
    clear jX
    go_wp2
    go_ret
    exact⟨by rw[HP.out,ft.out];rfl,tw,U5,by rw[HP.out,ft.out];exact fJ,gP⟩
theorem xy {s:ByteArray}{ch:St->St × Nat}{d:Nat}(fK:d=0\/eN s ch (d-1))(gG:oZ 176 s (aR s ch) d):oZ 162 s (bP s ch) d:=by
 intro base b nv rv U A w hR hO hd
 cases h1:il s A.sc 38
 ·cases h2:il s (sg s A.sc 38) 33
  ·exact Tz fK gG base b nv rv U A w hR hO hd h1 h2
  ·exact OU fK gG base b nv rv U A w hR hO hd h1 h2
 ·exact TA fK gG base b nv rv U A w hR hO hd h1
theorem E7:(Tryz.prog.info? 3).map (fun i=>(i.zero,i.size,i.bytes))=some (some (.int .i64 0),1,8):=by kernel_rfl
structure Mk (w:World)(base b kb H q:Nat)(s:ByteArray)(nv rv:Value)(U:Nat->Prop)(A:St)(acc:List Nat)(c:Array Value)(v:Value):Prop where
 rg:RG w base b s nv rv U A
 obj:ai w kb=some (.cells c 179 (0,0))
 node:aJ c { cj with kind:=q,subs:=acc } v
 own:w.ownsRow base 3 1 v acc.length (acc.map ee)
 new:∀k,v.ownBlock=some k->H<=k
 not:∀k,v.ownBlock=some k->¬U k
 nvk:nv.ownBlock≠some kb
 kH:H<=kb
theorem Mk.bk {w:World}{base b kb H q:Nat}{s:ByteArray}{nv rv:Value}{U:Nat->Prop}{A:St}{acc:List Nat}{c:Array Value}{v:Value}(h:Mk w base b kb H q s nv rv U A acc c v):b≠kb:=by
 rintro rfl
 obtain⟨y,hy⟩:=h.rg.gis.obj
 rw[h.obj]at hy;simp at hy
theorem Mk.vk {w:World}{base b kb H q:Nat}{s:ByteArray}{nv rv:Value}{U:Nat->Prop}{A:St}{acc:List Nat}{c:Array Value}{v:Value}(h:Mk w base b kb H q s nv rv U A acc c v):v.ownBlock≠some kb:=by
 intro e
 obtain⟨x,hx⟩:=ak h.own e
 rw[h.obj]at hx;simp at hx
theorem Mk.cell {w:World}{base b kb H q:Nat}{s:ByteArray}{nv rv:Value}{U:Nat->Prop}{A:St}{acc:List Nat}{c:Array Value}{v:Value}(h:Mk w base b kb H q s nv rv U A acc c v):w.cell? ⟨kb,261,none⟩=some v:=by
 rw[al h.obj];exact h.node.subs
theorem Mk.step {w w':World}{base b kb H q:Nat}{s:ByteArray}{nv fG rv:Value}{U U':Nat->Prop}{A A':St}{acc:List Nat}{c:Array Value}{v:Value}(h:Mk w base b kb H q s nv rv U A acc c v)
  (hS:dN w.heap.size b nv fG U U' w w') (hR:RG w' base b s fG rv U' A'):Mk w' base b kb H q s fG rv U' A' acc c v where
 rg:=hR
 obj:=bI h.obj hS.kept (by
  rintro(e | e)
  ·exact h.bk e.symm
  ·exact h.nvk e)
 node:=h.node
 own:=az h.own hS.kept (fun k e=>by
  obtain⟨x,hx⟩:=ak h.own e
  rintro(e' | e')
  ·subst e'
   obtain⟨y,hy⟩:=h.rg.gis.obj
   rw[hx]at hy;simp at hy
  ·obtain⟨y,hy⟩:=h.rg.nvb e'
   rw[hx]at hy;simp at hy)
 new:=h.new
 not:=fun k e hu=>by
  rcases hS.sub k hu with h1 | h1
  ·exact h.not k e h1
  ·have:=(h.own.lt k e).2;omega
 nvk:=fun e=>by
  rcases hS.new kb e with h1 | h1
  ·exact h.nvk h1
  ·have:=ag h.obj;omega
 kH:=h.kH
theorem Mk.app {w w9:World}{base b kb H q x gg cap:Nat}{s:ByteArray}{nv rv:Value}{U:Nat->Prop}{A:St}{acc:List Nat}{c:Array Value}{v:Value}{o:Obj}(h:Mk w base b kb H q s nv rv U A acc c v)(hH:H<=w.heap.size)
  (bW:w9.ownsRow base 3 1 (.slice (some ⟨gg,0,none⟩) (acc.length+1) cap) (acc.length+1) (acc.map ee++[ee x])) (hgrow:(w.alloc o).grownBy w9 v.ownBlock) (dA:v.ownBlock=some gg\/gg=w.heap.size+1):
  Mk (w9.setCell ⟨kb,261,none⟩ (.slice (some ⟨gg,0,none⟩) (acc.length+1) cap)) base b kb H q s nv rv U A (acc++[x]) (c.setIfInBounds 261 (.slice (some ⟨gg,0,none⟩) (acc.length+1) cap)) (.slice (some ⟨gg,0,none⟩) (acc.length+1) cap)/\
  aa (fun k=>k=kb\/v.ownBlock=some k) w (w9.setCell ⟨kb,261,none⟩ (.slice (some ⟨gg,0,none⟩) (acc.length+1) cap)):=by
 have sf:aa (fun k=>k=kb\/v.ownBlock=some k) w w9:=((aa.refl _ w).alloc o).grown hgrow (fun k e _=>Or.inr e)
 have hK:aa (fun k=>k=kb\/v.ownBlock=some k) w (w9.setCell ⟨kb,261,none⟩ (.slice (some ⟨gg,0,none⟩) (acc.length+1) cap)):=sf.setCell (fun _=>Or.inl rfl) _
 have EV:ai w9 kb=some (.cells c 179 (0,0)):=by
  have h0:=h.obj
  have bj:=ag h0
  have:=hgrow.block kb (by simp;omega) (fun e=>h.vk e.symm)
  show w9.heap[kb]?=_
  rw[this]
  have h1:=aN w o bj
  rw[h0]at h1
  exact h1
 have zK:gg≠kb:=by
  rintro rfl
  rcases dA with e | e
  ·exact h.vk e
  ·have:=ag h.obj;omega
 have iR:∀k,nv.ownBlock=some k->¬(k=kb\/v.ownBlock=some k):=fun k e=>by
  rintro(e' | e')
  ·subst e';exact h.nvk e
  ·obtain⟨x,hx⟩:=h.rg.nvb e
   obtain⟨y,hy⟩:=ak h.own e'
   rw[hx]at hy;simp at hy
 have hb:¬(b=kb\/v.ownBlock=some b):=by
  rintro(e' | e')
  ·exact h.bk e'
  ·obtain⟨x,hx⟩:=h.rg.gis.obj
   obtain⟨y,hy⟩:=ak h.own e'
   rw[hx]at hy;simp at hy
 refine⟨⟨?_,gw EV _,h.node.setSubs (acc++[x]) _ _ _,?_,fun k e=>?_,fun k e=>?_,h.nvk,h.kH⟩,hK⟩
 ·exact h.rg.turn hK (h.rg.gis.kept hK hb) iR (fun k c' hu ho=>by
   rintro(e' | e')
   ·subst e';rw[h.obj]at ho;simp at ho
   ·exact h.not k e' hu)
 ·have:=dq bW (a:=⟨kb,261,none⟩) (by simp only[Value.ownBlock];intro e;simp at e;exact zK e) (.slice (some ⟨gg,0,none⟩) (acc.length+1) cap)
  simpa using this
 ·simp only[Value.ownBlock,Option.some.injEq]at e
  subst e
  rcases dA with e' | e'
  ·exact h.new _ e'
  ·omega
 ·simp only[Value.ownBlock,Option.some.injEq]at e
  subst e
  intro hu
  rcases dA with e' | e'
  ·exact h.not _ e' hu
  ·have:=h.rg.low _ hu;omega
theorem Mk.cell9 {w w9:World}{base b kb H q:Nat}{s:ByteArray}{nv rv:Value}{U:Nat->Prop}{A:St}{acc:List Nat}{c:Array Value}{v:Value}{o:Obj}(h:Mk w base b kb H q s nv rv U A acc c v)(hgrow:(w.alloc o).grownBy w9 v.ownBlock):
  w9.cell? ⟨kb,261,none⟩=some v/\w9.frozen? ⟨kb,261,none⟩=false:=by
 have EV:ai w9 kb=some (.cells c 179 (0,0)):=by
  have h0:=h.obj
  have bj:=ag h0
  have:=hgrow.block kb (by simp;omega) (fun e=>h.vk e.symm)
  show w9.heap[kb]?=_
  rw[this]
  have h1:=aN w o bj
  rw[h0]at h1
  exact h1
 exact⟨by rw[al EV];exact h.node.subs,bh EV⟩
theorem Mk.stp {w w7 vl:World}{base b kb q:Nat}{s:ByteArray}{nv0 nv rv:Value}{U0 U:Nat->Prop}{A:St}{acc:List Nat}{c:Array Value}{v:Value}(h:Mk w7 base b kb w.heap.size q s nv rv U A acc c v)(hS:dN w.heap.size b nv0 nv U0 U w w7)(hK:aa (fun k=>k=kb\/v.ownBlock=some k) w7 vl):dN w.heap.size b nv0 nv U0 U w vl:=
 ⟨hS.kept.then hK (fun i hi e=>by
  rcases e with e | e
  ·have:=h.kH;omega
  ·have:=h.new i e;omega),hS.new,hS.sub⟩
theorem Mk.same {w:World}{base b kb H q:Nat}{s:ByteArray}{nv rv:Value}{U:Nat->Prop}{A:St}{acc:List Nat}{c:Array Value}{v:Value}(h:Mk w base b kb H q s nv rv U A acc c v)(n:Nat):Mk (w.drewN n) base b kb H q s nv rv U A acc c v:=
 h.step (dN.only ((aa.refl (·=b) w).drewN n)) (h.rg.same n)
theorem Mk.sc {w w':World}{base b kb H q:Nat}{s:ByteArray}{nv rv:Value}{U:Nat->Prop}{A:St}{acc:List Nat}{c:Array Value}{v:Value}(h:Mk w base b kb H q s nv rv U A acc c v)(hk:aa (·=b) w w'){g:Sc}(hg:aI w' b s nv rv g):Mk w' base b kb H q s nv rv U { A with sc:=g } acc c v:=
 h.step (dN.only hk) (h.rg.only hk hg)
theorem BE {s:ByteArray}{ch:St->St × Nat}{d:Nat}(fK:d=0\/eN s ch (d-1))(pB:oZ 162 s (bP s ch) d):oZ 133 s (eT s ch) d:=by
 intro base b nv rv U A w hR hO hd
 have hs:=hO.size
 obtain⟨i0,iC,gH,iD,iz⟩:=info_parts E7
 have HP:Hid (eT s ch A=aP (dk s ch (s.size+3) [] A).1 { cj with kind:=5,subs:=(dk s ch (s.size+3) [] A).2 }):=rfl
 generalize eT s ch A=r at *
 have hz:=cy
 have vA:aJ (df.setIfInBounds 0 (.int .i64 5)) { cj with kind:=5 } (.slice none 0 0):=aJ.zero.setKind 5
 have lE:=vA.size
 have ho:=cM vA.one
 generalize fS:(df.setIfInBounds 0 (.int .i64 5))=c0 at *
 have Rr:=ae fS
 clear fS
 have dm:((w.alloc (.cells df 179)).setRow w.heap.size c0)=w.alloc (.cells c0 179):=World.setRow_alloc_new w df c0 179
 have oG:dJ Tryz.prog [(0,.int .i64 5)] w=.ok (.value (.agg c0)) w:=by rw[aT,Rr.out]
 obtain⟨kb,dx⟩:∃kb,kb=w.heap.size:=⟨_,rfl⟩
 have hM:Mk (w.alloc (.cells c0 179)) base b kb w.heap.size 5 s nv rv U A [] c0 (.slice none 0 0):=by
  subst dx
  refine⟨hR.alloc _,au _ _,vA,World.ownsRow_nil _ _ _ _,(fun k e=>by cases e),(fun k e=>by cases e),(fun e=>?_),Nat.le_refl _⟩
  obtain⟨x,hx⟩:=hR.nvb e
  have:=ag hx;omega
 have hS:dN w.heap.size b nv nv U U w (w.alloc (.cells c0 179)):=dN.only ((aa.refl (·=b) w).alloc _)
 generalize hLL:dk s ch (s.size+3) [] A=L at *
 have HL:Hid (dk s ch (s.size+2+1) [] A=L):=hLL
 clear hLL
 go_enter Tryz.func133,Tryz.ntmps133
 go_wp2_with fail
 rw[<-dx]
 generalize oi:w.alloc (.cells c0 179)=w0 at *
 clear oi dm oG ho lE hz
 have PR:=ae dx
 clear dx
 go_loopg [] (s.size+2) (fun n wx=>∃acc A6 O8 U6 c6 v6,rk s A6.sc<=n/\acc.length+rk s A6.sc<=402/\Ok s A6/\5<=A6.sc.op+d/\Mk wx base b kb w.heap.size 5 s O8 rv U6 A6 acc c6 v6/\dN w.heap.size b nv O8 U U6 w wx/\Hid (dk s ch (n+1) acc A6=L))
 case atStart=>exact⟨[],A,nv,U,c0,_,by have:=fW s A.sc;omega,by have:=fW s A.sc;simp;omega,hO,hd,hM,hS,HL⟩
 case round=>
  obtain⟨acc,A6,O8,U6,c6,v6,nS,kL,kK,Xd,R7,EM,HR⟩:=hrel
  obtain⟨m,hm⟩:∃m,m=gk:=⟨gk,rfl⟩
  subst hm
  have js:=nk fK kK.iv Xd
  have h1:=HR.out
  rw[dk]at h1
  have H1:=ae h1
  clear h1 HR
  have N7:acc.length<=402:=by omega
  go_wp2_with fail
  refine(pB base b O8 rv U6 A6 _ R7.rg kK Xd).mono ?_
  rintro e w7 ⟨rfl,O9,U7,pz,jN⟩
  have Av:=R7.step jN pz
  have C3:=EM.join (Nat.le_refl _) (jN.low EM.kept.size)
  generalize bP s ch A6=X at *
  obtain⟨B,x⟩:=X
  dsimp only at *
  have jr:=Av.cell
  have Ck:=ag Av.obj
  have hHw:w.heap.size<=w7.heap.size:=C3.kept.size
  have gV:=Av.rg.hb
  go_wp2_with (at_builtin;refine wpList_append_lies _ rfl _ _ _ rfl base 3 i0 _ 1 8 Tryz.underlying29 iC gH iD iz rfl (by omega) v6 acc.length (acc.map ee) (by rfl) (Av.own.alloc _) ⟨w7.heap.size,0,none⟩ 1 1 [ee x] (by rfl) rfl (World.news_of_block (cs:=#[.int .i64 (x:Int)]) (t:=3) (fr:=(0,0)) (heap_alloc_new w7 _)) (by simp[Value.oneCell',ee]) (by omega) (by simp[maxLen];omega) (by omega) (by simp;omega) (w7.heap.size+1) (by simp) ?_;intro gg cap w9 bW hgrow dA bj;obtain⟨hc9,UR⟩:=Av.cell9 hgrow)
  obtain⟨yz,jW⟩:=Av.app hHw bW hgrow dA
  have Ax:=Av.stp C3 jW
  have KL:=js.pot'
  have KM:=kK.pt
  have uA:B.ns.length<=3001:=by unfold Pt at KL KM;omega
  have vB:=js.sc (Fs.bl js.iv) (jR s B.sc)
  generalize yQ:w9.setCell ⟨kb,261,none⟩ (.slice (some ⟨gg,0,none⟩) (acc.length+1) cap)=vl at *
  generalize kP:Value.slice (some ⟨gg,0,none⟩) (acc.length+1) cap=v10 at *
  generalize hc10:c6.setIfInBounds 261 v10=c10 at *
  have S9:=yz.node.size
  have qz:c10.extract 0 262=c10:=by rw[<-S9];simp
  clear yQ kP hc10 jW Av bW hgrow dA bj hc9 UR jr Ck gV C3 jN pz R7 EM KL KM
  refine(dC b s O9 rv B.sc _ yz.rg.gis hs).mono ?_
  rintro e w11 ⟨rfl,JR,jn⟩
  have N3:=yz.sc jn JR
  have rf:=Ax.join (Nat.le_refl _) (dN.only jn)
  generalize bl s B.sc=g at *
  clear yz Ax jn JR
  go_wp2_with fail
  refine(dz b s O9 rv g _ N3.rg.gis hs).mono ?_
  rintro e w12 ⟨rfl,Vc,rfl⟩
  go_wp2_with fail
  refine(pR b s O9 rv g _ (N3.same Vc).rg.gis hs).mono ?_
  rintro e w13 ⟨rfl,YD,rfl⟩
  have hJ:=(N3.same Vc).same YD
  have uq:dN w.heap.size b nv O9 U U7 w ((w11.drewN Vc).drewN YD):=(rf.join (Nat.le_refl _) (dN.only ((aa.refl (·=b) _).drewN Vc))).join (Nat.le_refl _) (dN.only ((aa.refl (·=b) _).drewN YD))
  have xg:w.heap.size<=((w11.drewN Vc).drewN YD).heap.size:=uq.kept.size
  generalize hw13:(w11.drewN Vc).drewN YD=w13 at *
  clear hw13 N3 rf
  obtain⟨d0,d1,d2,d3,d4,d5,d6⟩:=hJ.rg.gis.cells
  have qat:=hJ.obj
  cases Oy:cV s g
  ·have lY:du s g=true:=by simp[du,Oy]
   have h1:=H1.out
   rw[lY]at h1
   simp only[if_true]at h1
   subst h1
   clear H1 lY nS kL vB
   go_wp2_with fail
   refine(Cz (H:=w.heap.size) hJ.rg hJ.node (by simpa using hJ.own) hJ.new (xg) (by dsimp only;omega)).mono ?_
   rintro e w14 ⟨rfl,ze,NJ,yA,yC⟩
   go_wp2
   go_ret
   exact⟨by rw[HP.out];rfl,ze,NJ,by rw[HP.out];exact yA,uq.join (Nat.le_refl _) yC⟩
  ·by_cases Ih:pk s g=10
   ·have Ve:((pk s g:Int) == 10)=true:=by simp;omega
    have lY:du s g=true:=by simp[du,Oy,Ih]
    have h1:=H1.out
    rw[lY]at h1
    simp only[if_true]at h1
    subst h1
    clear Ih H1 lY nS kL vB
    go_wp2_with fail
    refine(Cz (H:=w.heap.size) hJ.rg hJ.node (by simpa using hJ.own) hJ.new (xg) (by dsimp only;omega)).mono ?_
    rintro e w14 ⟨rfl,ze,NJ,yA,yC⟩
    go_wp2
    go_ret
    exact⟨by rw[HP.out];rfl,ze,NJ,by rw[HP.out];exact yA,uq.join (Nat.le_refl _) yC⟩
   ·have Ve:((pk s g:Int) == 10)=false:=by simp;omega
    by_cases h47:pk s g=47
    ·have q47:((pk s g:Int) == 47)=true:=by simp;omega
     have lY:du s g=true:=by simp[du,Oy,h47]
     have h1:=H1.out
     rw[lY]at h1
     simp only[if_true]at h1
     subst h1
     clear h47 H1 lY nS kL vB
     go_wp2_with fail
     refine(Cz (H:=w.heap.size) hJ.rg hJ.node (by simpa using hJ.own) hJ.new (xg) (by dsimp only;omega)).mono ?_
     rintro e w14 ⟨rfl,ze,NJ,yA,yC⟩
     go_wp2
     go_ret
     exact⟨by rw[HP.out];rfl,ze,NJ,by rw[HP.out];exact yA,uq.join (Nat.le_refl _) yC⟩
    ·have q47:((pk s g:Int) == 47)=false:=by simp;omega
     by_cases N1:pk s g=41
     ·have q41:((pk s g:Int) == 41)=true:=by simp;omega
      by_cases rx:0<g.op
      ·have qop:decide ((0:Int)<(g.op:Int))=true:=by simp;omega
       have lY:du s g=true:=by simp[du,Oy,N1,rx]
       have h1:=H1.out
       rw[lY]at h1
       simp only[if_true]at h1
       subst h1
       clear N1 H1 lY nS kL vB
       go_wp2_with fail
       refine(Cz (H:=w.heap.size) hJ.rg hJ.node (by simpa using hJ.own) hJ.new (xg) (by dsimp only;omega)).mono ?_
       rintro e w14 ⟨rfl,ze,NJ,yA,yC⟩
       go_wp2
       go_ret
       exact⟨by rw[HP.out];rfl,ze,NJ,by rw[HP.out];exact yA,uq.join (Nat.le_refl _) yC⟩
      ·have qop:decide ((0:Int)<(g.op:Int))=false:=by simp;omega
       have lY:du s g=false:=by simp[du,Oy,Ih,h47,N1,rx] <;> omega
       have h1:=H1.out
       rw[lY]at h1
       simp only[Bool.false_eq_true,if_false]at h1
       have HF:=ae h1
       have d9:=(cS.1 Oy).1
       have HX:Hid (rk s g<rk s A6.sc/\rk s A6.sc<=m/\acc.length+rk s A6.sc<=402/\Ok s { B with sc:=g }/\5<=g.op+d):=
        ⟨kC kK.iv (vB.good d9) (fun x=>vB.prog x),nS,kL,kK.next vB d9 (by omega),by have:=vB.op;dsimp only at this;omega⟩
       clear N1 h1 H1 lY nS kL vB
       go_wp2
       go_roundg (m-1)
       case measure=>have:=HX.out;omega
       case rel=>
        obtain⟨x1,x2,x3,x4,x5⟩:=HX.out
        exact⟨acc++[x],{ B with sc:=g },O9,U7,_,_,by dsimp only;omega,by simp;omega,x4,x5,hJ,uq,by rw[show m-1+1=m by omega];exact HF.out⟩
     ·have q41:((pk s g:Int) == 41)=false:=by simp;omega
      have lY:du s g=false:=by simp[du,Oy,Ih,h47,N1]
      have h1:=H1.out
      rw[lY]at h1
      simp only[Bool.false_eq_true,if_false]at h1
      have HF:=ae h1
      have d9:=(cS.1 Oy).1
      have HX:Hid (rk s g<rk s A6.sc/\rk s A6.sc<=m/\acc.length+rk s A6.sc<=402/\Ok s { B with sc:=g }/\5<=g.op+d):=
       ⟨kC kK.iv (vB.good d9) (fun x=>vB.prog x),nS,kL,kK.next vB d9 (by omega),by have:=vB.op;dsimp only at this;omega⟩
      clear N1 h1 H1 lY nS kL vB
      go_wp2
      go_roundg (m-1)
      case measure=>have:=HX.out;omega
      case rel=>
       obtain⟨x1,x2,x3,x4,x5⟩:=HX.out
       exact⟨acc++[x],{ B with sc:=g },O9,U7,_,_,by dsimp only;omega,by simp;omega,x4,x5,hJ,uq,by rw[show m-1+1=m by omega];exact HF.out⟩
end Go.Proofs.YtagklnaaoclmhaaGreatDoor
