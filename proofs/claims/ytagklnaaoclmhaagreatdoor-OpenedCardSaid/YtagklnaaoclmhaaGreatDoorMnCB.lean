import Derived.Test.YtagklnaaoclmhaaGreatDoorMnCA
set_option linter.unusedSimpArgs false
set_option linter.unusedVariables false
set_option maxRecDepth 100000
set_option maxHeartbeats 16000000
namespace Go.Proofs.YtagklnaaoclmhaaGreatDoor
open Go.RowKit
attribute [local go_sem ↓] bw aX aZ aY aF
attribute [local go_sem] bc aQ aS dX bv aT aU aV aW aD bf aK au aN
theorem Ah {s:ByteArray}{ch:St->St × Nat}{d:Nat}(fK:d=0\/eN s ch (d-1))(hseq:oZ 133 s (eT s ch) d):oZ 85 s (jU s ch) d:=by
 intro base b nv rv U A w hR hO hd
 have hs:=hO.size
 obtain⟨i0,iC,gH,iD,iz⟩:=info_parts E7
 have HP:Hid (jU s ch A=aP (dD s ch (s.size+3) [] A).1 { cj with kind:=4,subs:=(dD s ch (s.size+3) [] A).2 }):=rfl
 generalize jU s ch A=r at *
 have hz:=cy
 have vA:aJ (df.setIfInBounds 0 (.int .i64 4)) { cj with kind:=4 } (.slice none 0 0):=aJ.zero.setKind 4
 have lE:=vA.size
 have ho:=cM vA.one
 generalize fS:(df.setIfInBounds 0 (.int .i64 4))=c0 at *
 have Rr:=ae fS
 clear fS
 have dm:((w.alloc (.cells df 179)).setRow w.heap.size c0)=w.alloc (.cells c0 179):=World.setRow_alloc_new w df c0 179
 have oG:dJ Tryz.prog [(0,.int .i64 4)] w=.ok (.value (.agg c0)) w:=by rw[aT,Rr.out]
 obtain⟨kb,dx⟩:∃kb,kb=w.heap.size:=⟨_,rfl⟩
 have hM:Mk (w.alloc (.cells c0 179)) base b kb w.heap.size 4 s nv rv U A [] c0 (.slice none 0 0):=by
  subst dx
  refine⟨hR.alloc _,au _ _,vA,World.ownsRow_nil _ _ _ _,(fun k e=>by cases e),(fun k e=>by cases e),(fun e=>?_),Nat.le_refl _⟩
  obtain⟨x,hx⟩:=hR.nvb e
  have:=ag hx;omega
 have hS:dN w.heap.size b nv nv U U w (w.alloc (.cells c0 179)):=dN.only ((aa.refl (·=b) w).alloc _)
 generalize hLL:dD s ch (s.size+3) [] A=L at *
 have HL:Hid (dD s ch (s.size+2+1) [] A=L):=hLL
 clear hLL
 go_enter Tryz.func85,Tryz.ntmps85
 go_wp2_with fail
 rw[<-dx]
 generalize oi:w.alloc (.cells c0 179)=w0 at *
 clear oi dm oG ho lE hz
 have PR:=ae dx
 clear dx
 go_loopg [] (s.size+2) (fun n wx=>∃acc A6 O8 U6 c6 v6,rk s A6.sc<=n/\acc.length+rk s A6.sc<=402/\Ok s A6/\5<=A6.sc.op+d/\Mk wx base b kb w.heap.size 4 s O8 rv U6 A6 acc c6 v6/\dN w.heap.size b nv O8 U U6 w wx/\Hid (dD s ch (n+1) acc A6=L))
 case atStart=>exact⟨[],A,nv,U,c0,_,by have:=fW s A.sc;omega,by have:=fW s A.sc;simp;omega,hO,hd,hM,hS,HL⟩
 case round=>
  obtain⟨acc,A6,O8,U6,c6,v6,nS,kL,kK,Xd,R7,EM,HR⟩:=hrel
  obtain⟨m,hm⟩:∃m,m=gk:=⟨gk,rfl⟩
  subst hm
  have js:=rJ fK kK.iv Xd
  have h1:=HR.out
  rw[dD]at h1
  have H1:=ae h1
  clear h1 HR
  have N7:acc.length<=402:=by omega
  go_wp2_with fail
  refine(hseq base b O8 rv U6 A6 _ R7.rg kK Xd).mono ?_
  rintro e w7 ⟨rfl,O9,U7,pz,jN⟩
  have Av:=R7.step jN pz
  have C3:=EM.join (Nat.le_refl _) (jN.low EM.kept.size)
  generalize eT s ch A6=X at *
  obtain⟨B,x⟩:=X
  dsimp only at *
  have jr:=Av.cell
  have Ck:=ag Av.obj
  have hHw:w.heap.size<=w7.heap.size:=C3.kept.size
  have gV:=Av.rg.hb
  go_wp2_with (at_builtin;refine wpList_append_lies _ rfl _ _ _ rfl base 3 i0 _ 1 8 Tryz.underlying29 iC gH iD iz rfl (by omega) v6 acc.length (acc.map ee) (by rfl) (Av.own.alloc _) ⟨w7.heap.size,0,none⟩ 1 1 [ee x] (by rfl) rfl (World.news_of_block (cs:=#[.int .i64 (x:Int)]) (t:=3) (fr:=(0,0)) (heap_alloc_new w7 _)) (by simp[Value.oneCell',ee]) (by omega) (by simp[maxLen];omega) (by omega) (by simp;omega) (w7.heap.size+1) (by simp) ?_;intro gg cap w9 bW hgrow dA bj;obtain⟨hc9,UR⟩:=Av.cell9 hgrow)
  obtain⟨yz,jW⟩:=Av.app hHw bW hgrow dA
  have Ax:=Av.stp C3 jW
  have KL:=js.pot'
  have KM:=kK.pt
  have uA:B.ns.length<=3002:=by unfold Pt at KL KM;omega
  have vB:=js.sc (Fs.sg js.iv 47) (nU s B.sc 47)
  generalize yQ:w9.setCell ⟨kb,261,none⟩ (.slice (some ⟨gg,0,none⟩) (acc.length+1) cap)=vl at *
  generalize kP:Value.slice (some ⟨gg,0,none⟩) (acc.length+1) cap=v10 at *
  generalize hc10:c6.setIfInBounds 261 v10=c10 at *
  have S9:=yz.node.size
  have qz:c10.extract 0 262=c10:=by rw[<-S9];simp
  clear yQ kP hc10 jW Av bW hgrow dA bj hc9 UR jr Ck gV C3 jN pz R7 EM KL KM
  refine(jz b s O9 rv B.sc 47 _ yz.rg.gis hs).mono ?_
  rintro e w11 ⟨rfl,JR,jn⟩
  have hJ:=yz.sc jn JR
  have uq:=Ax.join (Nat.le_refl _) (dN.only jn)
  have xg:w.heap.size<=w11.heap.size:=uq.kept.size
  have qat:=hJ.obj
  clear yz Ax jn JR
  cases GK:il s B.sc 47
  ·have h1:=H1.out
   rw[GK]at h1
   simp only[Bool.false_eq_true,if_false]at h1
   subst h1
   generalize sg s B.sc 47=g at *
   clear H1 nS kL vB GK
   go_wp2_with fail
   refine(Cz (H:=w.heap.size) hJ.rg hJ.node (by simpa using hJ.own) hJ.new (xg) (by dsimp only;omega)).mono ?_
   rintro e w14 ⟨rfl,ze,NJ,yA,yC⟩
   go_wp2
   go_ret
   exact⟨by rw[HP.out];rfl,ze,NJ,by rw[HP.out];exact yA,uq.join (Nat.le_refl _) yC⟩
  ·have h1:=H1.out
   rw[GK]at h1
   simp only[if_true]at h1
   have d9:(sg s B.sc 47).bad<0:=by rw[eJ];exact(kF GK).1
   generalize sg s B.sc 47=g at *
   have HF:=ae h1
   have HX:Hid (rk s g<rk s A6.sc/\rk s A6.sc<=m/\acc.length+rk s A6.sc<=402/\Ok s { B with sc:=g }/\5<=g.op+d):=
    ⟨kC kK.iv (vB.good d9) (fun x=>vB.prog x),nS,kL,kK.next vB d9 (by omega),by have:=vB.op;dsimp only at this;omega⟩
   clear h1 H1 nS kL vB GK
   go_wp2
   go_roundg (m-1)
   case measure=>have:=HX.out;omega
   case rel=>
    obtain⟨x1,x2,x3,x4,x5⟩:=HX.out
    exact⟨acc++[x],{ B with sc:=g },O9,U7,_,_,by dsimp only;omega,by simp;omega,x4,x5,hJ,uq,by rw[show m-1+1=m by omega];exact HF.out⟩
theorem qU (s:ByteArray):∀d,oZ 85 s (dw s (d+1)) d
 | 0=>Ah (d:=0) (Or.inl rfl) (BE (d:=0) (Or.inl rfl) (xy (d:=0) (Or.inl rfl) (xJ (d:=0) (Or.inl rfl))))
 | d+1=>
  have hg:eN s (dw s (d+1)) (d+1-1):=eH s d
  have hd:oZ 85 s (dw s (d+1)) (d+1-1):=qU s d
  Ah (Or.inr hg) (BE (Or.inr hg) (xy (Or.inr hg) (xJ (Or.inr ⟨hd,hg⟩))))
end Go.Proofs.YtagklnaaoclmhaaGreatDoor
namespace Go.Proofs.YtagklnaaoclmhaaGreatDoor
open Go.RowKit
def dr (w:World)(base:Nat)(rv:Value)(rs:List Rl):Prop:=w.ownsRow base 132 3 rv rs.length (rs.flatMap f9)
theorem Tr:(Tryz.prog.info? 132).map (fun i=>(i.zero,i.size,i.bytes))=some (some (.agg #[.string ⟨#[]⟩,.int .i64 0,.int .i64 0]),3,32):=by kernel_rfl
theorem dr.stp {w w':World}{base b H:Nat}{s:ByteArray}{nv fG rv:Value}{U U':Nat->Prop}{A:St}{rs:List Rl}(h:dr w base rv rs)(hR:RG w base b s nv rv U A)(hS:dN H b nv fG U U' w w'):dr w' base rv rs:=
 az h hS.kept (fun k e=>by
  obtain⟨x,hx⟩:=ak h e
  rintro(e' | e')
  ·subst e'
   obtain⟨y,hy⟩:=hR.gis.obj
   rw[hx]at hy;simp at hy
  ·obtain⟨y,hy⟩:=hR.nvb e'
   rw[hx]at hy;simp at hy)
theorem dN.old {w w1 w2:World}{base b H:Nat}{s:ByteArray}{nv fG rv:Value}{U U':Nat->Prop}{A:St}(h:aa (fun _=>False) w w1)(hR:RG w1 base b s nv rv U A)(hS:dN H b nv fG U U' w1 w2)(hb:w.heap.size<=b)(gV:w.heap.size<=base):aa (fun _=>False) w w2:=
 h.then hS.kept (fun i hi e=>by
  rcases e with e | e
  ·omega
  ·obtain⟨cs,_,ho,_⟩:=hR.nodes
   have:=(ho.lt i e).1
   omega)
theorem rI {w w9:World}{base b:Nat}{s:ByteArray}{nv rv:Value}{U:Nat->Prop}{A:St}{rs:List Rl}{o:Obj}(hR:RG w base b s nv rv U A)(sJ:dr w base rv rs)(hgrow:(w.alloc o).grownBy w9 rv.ownBlock):aI w9 b s nv rv A.sc:=by
 have hK:aa (fun k=>rv.ownBlock=some k) w w9:=((aa.refl _ w).alloc _).grown hgrow (fun k e _=>e)
 exact hR.gis.kept hK (fun e=>by
  obtain⟨x,hx⟩:=ak sJ e
  obtain⟨y,hy⟩:=hR.gis.obj
  rw[hx]at hy;simp at hy)
theorem xO {w w9:World}{base b gg cap:Nat}{s:ByteArray}{nv rv:Value}{U:Nat->Prop}{A:St}{rs:List Rl}{r:Rl}{o:Obj}(hR:RG w base b s nv rv U A)(sJ:dr w base rv rs)(hgrow:(w.alloc o).grownBy w9 rv.ownBlock)
  (bW:w9.ownsRow base 132 3 (.slice (some ⟨gg,0,none⟩) (rs.length+1) cap) (rs.length+1) (rs.flatMap f9++f9 r)):
  RG (w9.setCell ⟨b,1,none⟩ (.slice (some ⟨gg,0,none⟩) (rs.length+1) cap)) base b s nv (.slice (some ⟨gg,0,none⟩) (rs.length+1) cap) U A/\
  dr (w9.setCell ⟨b,1,none⟩ (.slice (some ⟨gg,0,none⟩) (rs.length+1) cap)) base (.slice (some ⟨gg,0,none⟩) (rs.length+1) cap) (rs++[r])/\
  aa (fun k=>k=b\/rv.ownBlock=some k) w (w9.setCell ⟨b,1,none⟩ (.slice (some ⟨gg,0,none⟩) (rs.length+1) cap)):=by
 have hK:aa (fun k=>k=b\/rv.ownBlock=some k) w w9:=((aa.refl _ w).alloc _).grown hgrow (fun k e _=>Or.inr e)
 have EG:aa (fun k=>k=b\/rv.ownBlock=some k) w (w9.setCell ⟨b,1,none⟩ (.slice (some ⟨gg,0,none⟩) (rs.length+1) cap)):=hK.setCell (fun _=>Or.inl rfl) _
 have Qb:=rI hR sJ hgrow
 have hG:=Qb.setRules (.slice (some ⟨gg,0,none⟩) (rs.length+1) cap)
 obtain⟨yb,Tm⟩:=hR.gis.obj
 have mA:gg≠b:=by
  rintro rfl
  obtain⟨x,hx⟩:=ak bW (k:=gg) rfl
  obtain⟨y,hy⟩:=Qb.obj
  rw[hx]at hy;simp at hy
 refine⟨⟨hG,hR.nodes.kept EG (fun k e=>?_) (fun k c hu ho=>?_),Nat.le_trans hR.hb EG.size,fun k x=>Nat.lt_of_lt_of_le (hR.low k x) EG.size⟩,?_,EG⟩
 ·obtain⟨x,hx⟩:=hR.nvb e
  rintro(e' | e')
  ·subst e';rw[hx]at Tm;simp at Tm
  ·obtain⟨y,hy⟩:=ak sJ e'
   rw[hx]at hy;simp at hy
 ·rintro(e' | e')
  ·subst e';rw[ho]at Tm;simp at Tm
  ·obtain⟨y,hy⟩:=ak sJ e'
   rw[ho]at hy;simp at hy
 ·have:=dq bW (a:=⟨b,1,none⟩) (by simp only[Value.ownBlock];intro e;simp at e;exact mA e) (.slice (some ⟨gg,0,none⟩) (rs.length+1) cap)
  unfold dr
  simpa using this
theorem LJ (s:ByteArray)(w:World)(hs:s.size<=400):
  Calls Tryz.prog 54 #[.string s] w fun e w'=>e=.returned (.pointer (some ⟨w.heap.size,0,none⟩))/\∃nv rv U,RG w' w.heap.size w.heap.size s nv rv U (aq s).1/\dr w' w.heap.size rv (aq s).2/\aa (fun _=>False) w w':=by
 obtain⟨i0,iC,gH,iD,iz⟩:=info_parts Tr
 obtain⟨b,hb⟩:∃b,b=w.heap.size:=⟨_,rfl⟩
 rw[<-hb]
 have hR0:RG (w.alloc (.cells #[.slice none 0 0,.slice none 0 0,.int .i64 0,.int .i64 (-1),.string s,.int .i64 0,.int .i64 0] 90)) b b s (.slice none 0 0) (.slice none 0 0) (fun _=>False) ⟨⟨0,-1,0,0⟩,[]⟩:=by
  subst hb
  exact⟨au w _,⟨[],rfl,World.ownsRow_nil _ _ _ _,fun i c N h=>by cases h⟩,by simp,fun _ h=>h.elim⟩
 have EH:aa (fun _=>False) w (w.alloc (.cells #[.slice none 0 0,.slice none 0 0,.int .i64 0,.int .i64 (-1),.string s,.int .i64 0,.int .i64 0] 90)):=(aa.refl _ w).alloc _
 have HB:=ae hb
 have HL:Hid (cX s (8+2) ⟨⟨0,-1,0,0⟩,[]⟩ []=aq s):=rfl
 generalize aq s=L at *
 go_enter Tryz.func54,Tryz.ntmps54
 go_wp2_with fail
 rw[<-hb]
 generalize oi:(w.alloc (.cells #[.slice none 0 0,.slice none 0 0,.int .i64 0,.int .i64 (-1),.string s,.int .i64 0,.int .i64 0] 90))=w0 at *
 clear oi hb
 go_loopg [] 8 (fun n wx=>∃X rs nv rv U,RG wx b b s nv rv U X/\dr wx b rv rs/\(X.sc.bad<0->Ok s X)/\X.sc.op=0/\rs.length+n=8/\X.sc.at_<=10000/\aa (fun _=>False) w wx/\Hid (cX s (n+2) X rs=L))
 case atStart=>
  refine⟨_,[],_,_,_,hR0,World.ownsRow_nil _ _ _ _,fun _=>⟨⟨fun _=>Nat.zero_le _,Nat.zero_le _⟩,by simp,by simp[Pt,rest];omega,by simp,hs⟩,rfl,rfl,by simp,EH,HL⟩
 case round=>
  obtain⟨X,rs,nv,rv,U,hR,sJ,M3,rx,hn,dA,hK,HR⟩:=hrel
  obtain⟨p,Ja,dU⟩:=an sJ
  subst dU
  obtain⟨c0,c1,c2,c3,c4,c5,c6⟩:=hR.gis.cells
  by_cases gS:X.sc.bad<0
  ·by_cases bj:X.sc.at_<s.size
   ·by_cases h8:rs.length=8
    ·have q8:((rs.length:Int) == 8)=true:=by simp;omega
     have h1:=HR.out
     rw[cX,if_pos (⟨gS,Or.inl bj⟩),if_pos h8]at h1
     subst h1
     have H8:=ae h8
     clear h8 HR
     go_wp2_with fail
     refine(da b s nv _ X.sc _ hR.gis).mono ?_
     rintro e w2 ⟨rfl,kd,dl⟩
     have gA:dN wr.heap.size b nv nv U U wr w2:=dN.only dl
     go_wp2
     go_ret
     exact⟨rfl,nv,_,⟨U,hR.only dl kd⟩,sJ.stp hR gA,gA.old hK hR (by have:=HB.out;omega) (by have:=HB.out;omega)⟩
    ·have q8:((rs.length:Int) == 8)=false:=by simp;omega
     have h1:=HR.out
     rw[cX,if_pos (⟨gS,Or.inl bj⟩),if_neg h8]at h1
     have H1:=ae h1
     have HN:Hid (rs.length+gk=8/\rs.length≠8):=⟨hn,h8⟩
     have Cn:rs.length<=9:=by omega
     clear h1 HR h8 hn
     obtain⟨k1,k2,k3,k4,k5⟩:=jQ (M3 gS) rx gS
     have GO:=vr s X.sc
     have mI:(bz s X.sc).2.at_<=401:=by have:=(gN (M3 gS).iv).1.iv.2;omega
     have PO:Hid (de s X=({ (dw s 6 { X with sc:=mu s (bz s X.sc).2 61 }).1 with sc:=mu s (dw s 6 { X with sc:=mu s (bz s X.sc).2 61 }).1.sc 10 },⟨(bz s X.sc).1,(bz s X.sc).2.at_-(bz s X.sc).1.length,(dw s 6 { X with sc:=mu s (bz s X.sc).2 61 }).2⟩)):=rfl
     generalize de s X=RR at *
     go_wp2_with fail
     refine(vo b s nv _ X.sc _ hR.gis hs dA).mono ?_
     rintro e w2 ⟨rfl,kd,dl⟩
     generalize bz s X.sc=wd1 at *
     obtain⟨nm,g2⟩:=wd1
     dsimp only at *
     obtain⟨d0,d1,d2,d3,d4,d5,d6⟩:=kd.cells
     have gh:(ba nm).size=nm.length:=by simp[ba,ByteArray.size]
     go_wp2_with fail
     refine(mP b s nv _ g2 61 _ kd hs).mono ?_
     rintro e w3 ⟨rfl,jm,eU⟩
     have nO:aa (·=b) wr w3:=dl.trans eU
     have nh:=hR.only nO jm
     have sK:dN wr.heap.size b nv nv U U wr w3:=dN.only nO
     generalize mu s g2 61=g3 at *
     clear d0 d1 d2 d3 d4 d5 d6 kd dl eU jm nO
     go_wp2_with fail
     refine(qU s 5 b b nv _ U { X with sc:=g3 } _ nh k1 (by dsimp only;omega)).mono ?_
     rintro e w4 ⟨rfl,Fo,U4,fo,ur⟩
     have us:=sK.trans ur
     change RG w4 b b s Fo _ U4 (dw s 6 { X with sc:=g3 }).1 at fo
     have NB:Hid ((dw s (5+1) { X with sc:=g3 }).2=(dw s 6 { X with sc:=g3 }).2):=rfl
     rw[NB.out]
     clear NB
     generalize dw s 6 { X with sc:=g3 }=Y at *
     obtain⟨B,x⟩:=Y
     dsimp only at *
     go_wp2_with fail
     refine(mP b s Fo _ B.sc 10 _ fo.gis hs).mono ?_
     rintro e w5 ⟨rfl,zG,gR⟩
     have gP:dN wr.heap.size b nv Fo U U4 wr w5:=us.trans (dN.only gR)
     have fJ:=fo.only gR zG
     generalize mu s B.sc 10=g5 at *
     have yB:=sJ.stp hR gP
     have R3:=gP.old hK hR (by have:=HB.out;omega) (by have:=HB.out;omega)
     obtain⟨d0,d1,d2,d3,d4,d5,d6⟩:=zG.cells
     have iB:=zG.lt
     have pA:=zG.frozen 1
     have gV:=fJ.hb
     clear fo ur us nh sK gR c0 c1 c2 c3 c4 c5 c6
     go_wp2_with (at_builtin;refine wpList_append_lies _ rfl _ _ _ rfl b 132 i0 _ 3 32 Tryz.underlying88 iC gH iD iz rfl (by omega) _ rs.length (rs.flatMap f9) (by rfl) (World.ownsRow.alloc yB _) ⟨w5.heap.size,0,none⟩ 1 1 [.string (ba nm),.int .i64 ((g2.at_:Int)-(nm.length:Int)),.int .i64 (x:Int)] (by rfl) rfl (World.news_of_block (cs:=#[.string (ba nm),.int .i64 ((g2.at_:Int)-(nm.length:Int)),.int .i64 (x:Int)]) (t:=132) (fr:=(0,0)) (heap_alloc_new w5 _)) (by simp[Value.oneCell']) (by omega) (by simp[maxLen];omega) (by omega) (by simp;omega) (w5.heap.size+1) (by simp) ?_;intro gg cap w9 bW hgrow hat9 bj;have Qb:=rI fJ yB hgrow;obtain⟨f0,f1,f2,f3,f4,f5,f6⟩:=Qb.cells;have UR:=Qb.frozen 1)
     have EP:((g2.at_:Int)-(nm.length:Int))=((g2.at_-nm.length:Nat):Int):=by omega
     rw[EP]at bW
     obtain⟨my,J0,jW⟩:=xO (r:=⟨nm,g2.at_-nm.length,x⟩) fJ yB hgrow bW
     have jn:=R3.then jW (fun i hi e=>by
      rcases e with e | e
      ·have:=HB.out;omega
      ·have:=(World.ownsRow.lt yB i e).1;have:=HB.out;omega)
     go_roundg (gk-1)
     case measure=>have:=HN.out;omega
     case rel=>
      have h9:=HN.out
      have e1:=PO.out
      have ff:=k3
      have co:=k2
      rw[e1]at ff co
      refine⟨_,rs++[⟨nm,g2.at_-nm.length,x⟩],Fo,_,U4,my,J0,fun _=>ff,co,by simp;omega,by have:=ff.at_;dsimp only at this;dsimp only;omega,jn,?_⟩
      have h2:=H1.out
      rw[e1]at h2
      rw[show gk-1+2=gk+1 by omega]
      exact h2
   ·by_cases h0:rs.length=0
    ·have q0:((rs.length:Int) == 0)=true:=beq_iff_eq.2 (by omega)
     have H0:=ae h0
     clear h0
     by_cases h8:rs.length=8
     ·have q8:((rs.length:Int) == 8)=true:=by simp;omega
      have h1:=HR.out
      rw[cX,if_pos (⟨gS,Or.inr H0.out⟩),if_pos h8]at h1
      subst h1
      have H8:=ae h8
      clear h8 HR
      go_wp2_with fail
      refine(da b s nv _ X.sc _ hR.gis).mono ?_
      rintro e w2 ⟨rfl,kd,dl⟩
      have gA:dN wr.heap.size b nv nv U U wr w2:=dN.only dl
      go_wp2
      go_ret
      exact⟨rfl,nv,_,⟨U,hR.only dl kd⟩,sJ.stp hR gA,gA.old hK hR (by have:=HB.out;omega) (by have:=HB.out;omega)⟩
     ·have q8:((rs.length:Int) == 8)=false:=by simp;omega
      have h1:=HR.out
      rw[cX,if_pos (⟨gS,Or.inr H0.out⟩),if_neg h8]at h1
      have H1:=ae h1
      have HN:Hid (rs.length+gk=8/\rs.length≠8):=⟨hn,h8⟩
      have Cn:rs.length<=9:=by omega
      clear h1 HR h8 hn
      obtain⟨k1,k2,k3,k4,k5⟩:=jQ (M3 gS) rx gS
      have GO:=vr s X.sc
      have mI:(bz s X.sc).2.at_<=401:=by have:=(gN (M3 gS).iv).1.iv.2;omega
      have PO:Hid (de s X=({ (dw s 6 { X with sc:=mu s (bz s X.sc).2 61 }).1 with sc:=mu s (dw s 6 { X with sc:=mu s (bz s X.sc).2 61 }).1.sc 10 },⟨(bz s X.sc).1,(bz s X.sc).2.at_-(bz s X.sc).1.length,(dw s 6 { X with sc:=mu s (bz s X.sc).2 61 }).2⟩)):=rfl
      generalize de s X=RR at *
      go_wp2_with fail
      refine(vo b s nv _ X.sc _ hR.gis hs dA).mono ?_
      rintro e w2 ⟨rfl,kd,dl⟩
      generalize bz s X.sc=wd1 at *
      obtain⟨nm,g2⟩:=wd1
      dsimp only at *
      obtain⟨d0,d1,d2,d3,d4,d5,d6⟩:=kd.cells
      have gh:(ba nm).size=nm.length:=by simp[ba,ByteArray.size]
      go_wp2_with fail
      refine(mP b s nv _ g2 61 _ kd hs).mono ?_
      rintro e w3 ⟨rfl,jm,eU⟩
      have nO:aa (·=b) wr w3:=dl.trans eU
      have nh:=hR.only nO jm
      have sK:dN wr.heap.size b nv nv U U wr w3:=dN.only nO
      generalize mu s g2 61=g3 at *
      clear d0 d1 d2 d3 d4 d5 d6 kd dl eU jm nO
      go_wp2_with fail
      refine(qU s 5 b b nv _ U { X with sc:=g3 } _ nh k1 (by dsimp only;omega)).mono ?_
      rintro e w4 ⟨rfl,Fo,U4,fo,ur⟩
      have us:=sK.trans ur
      change RG w4 b b s Fo _ U4 (dw s 6 { X with sc:=g3 }).1 at fo
      have NB:Hid ((dw s (5+1) { X with sc:=g3 }).2=(dw s 6 { X with sc:=g3 }).2):=rfl
      rw[NB.out]
      clear NB
      generalize dw s 6 { X with sc:=g3 }=Y at *
      obtain⟨B,x⟩:=Y
      dsimp only at *
      go_wp2_with fail
      refine(mP b s Fo _ B.sc 10 _ fo.gis hs).mono ?_
      rintro e w5 ⟨rfl,zG,gR⟩
      have gP:dN wr.heap.size b nv Fo U U4 wr w5:=us.trans (dN.only gR)
      have fJ:=fo.only gR zG
      generalize mu s B.sc 10=g5 at *
      have yB:=sJ.stp hR gP
      have R3:=gP.old hK hR (by have:=HB.out;omega) (by have:=HB.out;omega)
      obtain⟨d0,d1,d2,d3,d4,d5,d6⟩:=zG.cells
      have iB:=zG.lt
      have pA:=zG.frozen 1
      have gV:=fJ.hb
      clear fo ur us nh sK gR c0 c1 c2 c3 c4 c5 c6
      go_wp2_with (at_builtin;refine wpList_append_lies _ rfl _ _ _ rfl b 132 i0 _ 3 32 Tryz.underlying88 iC gH iD iz rfl (by omega) _ rs.length (rs.flatMap f9) (by rfl) (World.ownsRow.alloc yB _) ⟨w5.heap.size,0,none⟩ 1 1 [.string (ba nm),.int .i64 ((g2.at_:Int)-(nm.length:Int)),.int .i64 (x:Int)] (by rfl) rfl (World.news_of_block (cs:=#[.string (ba nm),.int .i64 ((g2.at_:Int)-(nm.length:Int)),.int .i64 (x:Int)]) (t:=132) (fr:=(0,0)) (heap_alloc_new w5 _)) (by simp[Value.oneCell']) (by omega) (by simp[maxLen];omega) (by omega) (by simp;omega) (w5.heap.size+1) (by simp) ?_;intro gg cap w9 bW hgrow hat9 bj;have Qb:=rI fJ yB hgrow;obtain⟨f0,f1,f2,f3,f4,f5,f6⟩:=Qb.cells;have UR:=Qb.frozen 1)
      have EP:((g2.at_:Int)-(nm.length:Int))=((g2.at_-nm.length:Nat):Int):=by omega
      rw[EP]at bW
      obtain⟨my,J0,jW⟩:=xO (r:=⟨nm,g2.at_-nm.length,x⟩) fJ yB hgrow bW
      have jn:=R3.then jW (fun i hi e=>by
       rcases e with e | e
       ·have:=HB.out;omega
       ·have:=(World.ownsRow.lt yB i e).1;have:=HB.out;omega)
      go_roundg (gk-1)
      case measure=>have:=HN.out;omega
      case rel=>
       have h9:=HN.out
       have e1:=PO.out
       have ff:=k3
       have co:=k2
       rw[e1]at ff co
       refine⟨_,rs++[⟨nm,g2.at_-nm.length,x⟩],Fo,_,U4,my,J0,fun _=>ff,co,by simp;omega,by have:=ff.at_;dsimp only at this;dsimp only;omega,jn,?_⟩
       have h2:=H1.out
       rw[e1]at h2
       rw[show gk-1+2=gk+1 by omega]
       exact h2
    ·have q0:((rs.length:Int) == 0)=false:=beq_eq_false_iff_ne.2 (by omega)
     have h1:=HR.out
     rw[cX,if_neg (fun h=>h.2.elim bj h0)]at h1
     subst h1
     clear HR
     go_wp2
     go_ret
     exact⟨rfl,nv,_,⟨U,hR⟩,sJ,hK⟩
  ·have h1:=HR.out
   rw[cX,if_neg (by rintro⟨h,_⟩;exact gS h)]at h1
   subst h1
   clear HR
   go_wp2
   go_ret
   exact⟨rfl,nv,_,⟨U,hR⟩,sJ,hK⟩
theorem dr.cells {w:World}{base:Nat}{rv:Value}{rs:List Rl}(h:dr w base rv rs){k:Nat}(hk:k<rs.length):
  ∃g cap,rv=.slice (some ⟨g,0,none⟩) rs.length cap/\w.cell? ⟨g,k*3,none⟩=some (.string (ba rs[k].name))/\w.cell? ⟨g,k*3+1,none⟩=some (.int .i64 (rs[k].at_:Int))/\w.cell? ⟨g,k*3+2,none⟩=some (.int .i64 (rs[k].is:Int)):=by
 unfold dr at h
 obtain⟨g,cap,hv,_,_⟩:=h.form (by omega)
 subst hv
 have hf:∀a:Rl,(f9 a).length=3:=fun _=>rfl
 refine⟨g,cap,rfl,?_,?_,?_⟩
 ·rw[h.cellAt (k*3) (by omega)]
  have:=ep f9 3 hf rs k 0 (by omega) hk
  rw[Nat.add_zero]at this
  rw[this];rfl
 ·rw[h.cellAt (k*3+1) (by omega),ep f9 3 hf rs k 1 (by omega) hk];rfl
 ·rw[h.cellAt (k*3+2) (by omega),ep f9 3 hf rs k 2 (by omega) hk];rfl
theorem g9 (b:Nat)(s:ByteArray)(base:Nat)(nv rv:Value)(g:Sc)(rs:List Rl)(nm:List UInt8)(w:World)(hG:aI w b s nv rv g)(sJ:dr w base rv rs)(hl:rs.length<=8):
  Calls Tryz.prog 86 #[.pointer (some ⟨b,0,none⟩),.string (ba nm)] w fun e w'=>e=.returned (.int .i64 (j9 rs nm))/\w'=w:=by
 obtain⟨p,cap,dU⟩:=an sJ
 subst dU
 obtain⟨c0,c1,c2,c3,c4,c5,c6⟩:=hG.cells
 go_enter Tryz.func86,Tryz.ntmps86
 go_wp2
 go_loop [5] (fun i=>∃k:Nat,k<=rs.length/\i=.int .i64 k/\Hid (∀j (h:j<rs.length),j<k->rs[j].name≠nm)) (fun i=>rs.length-(intOf i).toNat)
 case atStart=>exact⟨0,Nat.zero_le _,rfl,fun j _ h=>absurd h (by omega)⟩
 case round=>
  obtain⟨k,hk,rfl,HA⟩:=hrel
  by_cases bj:k<rs.length
  ·obtain⟨gb,kT,dU,r0,r1,r2⟩:=sJ.cells bj
   simp only[Value.slice.injEq]at dU
   obtain⟨hp,_,fO⟩:=dU
   subst hp fO
   by_cases sl:rs[k].name=nm
   ·have q:((ba rs[k].name).toList == (ba nm).toList)=true:=by rw[dS,dS];simp[sl]
    have HF:Hid (j9 rs nm=(k:Int)):=by unfold Hid j9;rw[xd bj sl HA.out]
    clear sl HA
    go_wp2
    go_ret
    exact⟨by rw[HF.out];rfl,rfl⟩
   ·have q:((ba rs[k].name).toList == (ba nm).toList)=false:=by rw[dS,dS];simp[sl]
    have HF:Hid (∀j (h:j<rs.length),j<k+1->rs[j].name≠nm):=fun j h hj=>by
     rcases Nat.lt_or_eq_of_le (Nat.lt_succ_iff.1 hj) with h1 | h1
     ·exact HA.out j h h1
     ·subst h1;exact sl
    clear sl HA
    go_wp2
    go_round
    case rel=>exact⟨k+1,by omega,by go_num,HF⟩
    case measure=>simp[intOf];omega
  ·have HF:Hid (j9 rs nm=-1):=by unfold Hid j9;rw[xc (fun j h=>HA.out j h (by omega))]
   clear HA
   go_wp2
   go_ret
   exact⟨by rw[HF.out];rfl,rfl⟩
theorem m6.get {w:World}{base:Nat}{nv:Value}{U:Nat->Prop}{ns:List Nd}(h:m6 w base nv U ns){k:Nat}(hk:k<ns.length):
  ∃g cap c v gz,nv=.slice (some ⟨g,0,none⟩) ns.length cap/\ai w g=some (.cells gz 179 (0,0))/\k*262+262<=gz.size/\gz.extract (k*262) (k*262+262)=c/\aJ c ns[k] v/\
   w.ownsRow base 3 1 v ns[k].subs.length (ns[k].subs.map ee)/\∀j,j<262->w.cell? ⟨g,k*262+j,none⟩=c[j]?:=by
 obtain⟨cs,hl,ho,hn⟩:=h
 have gC:k<cs.length:=by omega
 have gh:∀a∈cs,(Array.toList a).length=262:=by
  intro a ha
  obtain⟨i,hi,rfl⟩:=List.getElem_of_mem ha
  obtain⟨v,hv,_⟩:=hn i cs[i] ns[i] (List.getElem?_eq_getElem hi) (List.getElem?_eq_getElem (by omega))
  simpa using hv.size
 obtain⟨v,hv,hr,hu⟩:=hn k cs[k] ns[k] (List.getElem?_eq_getElem gC) (List.getElem?_eq_getElem hk)
 obtain⟨g,cap,e,_,_⟩:=ho.form (by omega)
 subst e
 have Xi:∀j,j<262->(cs.map Array.toList).flatten[k*262+j]?=(cs[k])[j]?:=fun j hj=>by
  have:=xa Array.toList 262 cs gh k j hj gC
  rw[List.flatMap_def]at this
  rw[this];simp
 have jr:∀j,j<262->w.cell? ⟨g,k*262+j,none⟩=(cs[k])[j]?:=fun j hj=>by
  rw[ho.cellAt (k*262+j) (by omega),Xi j hj]
 rcases ho.2 with⟨h',_⟩ | ⟨g',kT,gz,h',_,hg,hnc,_,lE,_⟩
 ·simp at h'
 ·simp only[Value.slice.injEq,Option.some.injEq,Addr.mk.injEq,and_true,true_and]at h'
  obtain⟨nP,si⟩:=h'
  subst nP si
  have xv:k*262+262<=gz.size:=by rw[lE];omega
  refine⟨g,cap,cs[k],v,gz,rfl,hg,xv,?_,hv,hr,jr⟩
  apply Array.ext_getElem?
  intro j
  rw[Array.getElem?_extract]
  by_cases hj:j<262
  ·rw[if_pos (by omega)]
   have h1:=jr j hj
   rw[al (show ai w g=_ from hg)]at h1
   exact h1
  ·rw[if_neg (by omega),Array.getElem?_eq_none (by rw[hv.size];omega)]
end Go.Proofs.YtagklnaaoclmhaaGreatDoor
namespace Go.Proofs.YtagklnaaoclmhaaGreatDoor
open Go.RowKit
theorem O3 (b base:Nat)(s:ByteArray)(nv rv:Value)(U:Nat->Prop)(A:St)(rs:List Rl)(w:World)(hR:RG w base b s nv rv U A)(sJ:dr w base rv rs)(hl:rs.length<=8)(hn:A.ns.length<=5000):
  Calls Tryz.prog 55 #[.pointer (some ⟨b,0,none⟩)] w fun e w'=>e=.returned (.int .i64 (uN rs A.ns))/\w'=w:=by
 obtain⟨p,cap,dU⟩:=an sJ
 have Ni:∃p' kT,nv=.slice p' A.ns.length kT:=by obtain⟨cs,_,ho,_⟩:=hR.nodes;exact an ho
 obtain⟨p',kT,iR⟩:=Ni
 have hG:=hR.gis
 have hN:=hR.nodes
 clear hR
 subst dU iR
 obtain⟨c0,c1,c2,c3,c4,c5,c6⟩:=hG.cells
 have HM:Hid (uN rs A.ns=iT rs A.ns A.ns.length):=rfl
 go_enter Tryz.func55,Tryz.ntmps55
 go_wp2
 go_loop [3,4] (fun a i=>∃k:Nat,k<=rs.length/\i=.int .i64 k/\a=.int .i64 (kz rs k)) (fun _ i=>rs.length-(intOf i).toNat)
 case atStart=>exact⟨0,Nat.zero_le _,rfl,rfl⟩
 case round=>
  obtain⟨k,hk,rfl,rfl⟩:=hrel
  by_cases bj:k<rs.length
  ·obtain⟨gb,iH,dU,r0,r1,r2⟩:=sJ.cells bj
   simp only[Value.slice.injEq]at dU
   obtain⟨hp,_,fO⟩:=dU
   subst hp fO
   have HS:Hid (kz rs (k+1)=if j9 rs rs[k].name<k then lo (kz rs k) rs[k].at_ else kz rs k):=by
    unfold Hid;rw[kz,bQ _ _ _ _ bj,bQ _ _ _ _ bj]
   go_wp2_with fail
   refine(g9 b s base _ _ A.sc rs rs[k].name _ hG sJ hl).mono ?_
   rintro e w1 ⟨rfl,rfl⟩
   generalize j9 rs rs[k].name=f at *
   by_cases hf:f<(k:Int)
   ·by_cases ha:kz rs k<0
    ·have rY:Hid (kz rs (k+1)=(rs[k].at_:Int)):=by unfold Hid;rw[HS.out,if_pos hf,lo,if_pos (Or.inl ha)]
     clear HS
     go_wp2
     go_round
     case rel=>exact⟨k+1,by omega,by go_num,by rw[rY.out]⟩
     case measure=>simp[intOf];omega
    ·by_cases hx:(rs[k].at_:Int)<kz rs k
     ·have rY:Hid (kz rs (k+1)=(rs[k].at_:Int)):=by unfold Hid;rw[HS.out,if_pos hf,lo,if_pos (Or.inr hx)]
      clear HS
      go_wp2
      go_round
      case rel=>exact⟨k+1,by omega,by go_num,by rw[rY.out]⟩
      case measure=>simp[intOf];omega
     ·have rY:Hid (kz rs (k+1)=kz rs k):=by unfold Hid;rw[HS.out,if_pos hf,lo,if_neg (by omega)]
      clear HS
      go_wp2
      go_round
      case rel=>exact⟨k+1,by omega,by go_num,by rw[rY.out]⟩
      case measure=>simp[intOf];omega
   ·have rY:Hid (kz rs (k+1)=kz rs k):=by unfold Hid;rw[HS.out,if_neg hf]
    clear HS
    go_wp2
    go_round
    case rel=>exact⟨k+1,by omega,by go_num,by rw[rY.out]⟩
    case measure=>simp[intOf];omega
  ·have On:k=rs.length:=by omega
   subst On
   clear bj hk
   go_wp2
   go_loop [3,6] (fun a i=>∃k:Nat,k<=A.ns.length/\i=.int .i64 k/\a=.int .i64 (iT rs A.ns k)) (fun _ i=>A.ns.length-(intOf i).toNat)
   case atStart=>exact⟨0,Nat.zero_le _,rfl,rfl⟩
   case round=>
    obtain⟨k,hk,rfl,rfl⟩:=hrel
    by_cases bj:k<A.ns.length
    ·obtain⟨gb,iH,c,v,gz,iR,_,_,_,Zw,_,UN⟩:=hN.get bj
     simp only[Value.slice.injEq]at iR
     obtain⟨hp,_,fO⟩:=iR
     subst hp fO
     have e0:=UN 0 (by omega)
     rw[Zw.kind,Nat.add_zero]at e0
     have e4:=UN 259 (by omega)
     rw[Zw.name]at e4
     have e5:=UN 260 (by omega)
     rw[Zw.at_]at e5
     unfold ee at e0 e5
     clear UN Zw
     have HS:Hid (iT rs A.ns (k+1)=if A.ns[k].kind=3/\j9 rs A.ns[k].name<0 then lo (iT rs A.ns k) A.ns[k].at_ else iT rs A.ns k):=by
      unfold Hid;rw[iT,bQ _ _ _ _ bj,bQ _ _ _ _ bj,bQ _ _ _ _ bj]
     by_cases ff:A.ns[k].kind=3
     ·have q3:((A.ns[k].kind:Int) == 3)=true:=by simp;omega
      have H3:=ae ff
      clear ff
      go_wp2_with fail
      refine(g9 b s base _ _ A.sc rs A.ns[k].name _ hG sJ hl).mono ?_
      rintro e w1 ⟨rfl,rfl⟩
      generalize j9 rs A.ns[k].name=f at *
      by_cases hf:f<0
      ·by_cases ha:iT rs A.ns k<0
       ·have rY:Hid (iT rs A.ns (k+1)=(A.ns[k].at_:Int)):=by unfold Hid;rw[HS.out,if_pos ⟨H3.out,hf⟩,lo,if_pos (Or.inl ha)]
        clear HS
        go_wp2
        go_round
        case rel=>exact⟨k+1,by omega,by go_num,by rw[rY.out]⟩
        case measure=>simp[intOf];omega
       ·by_cases hx:(A.ns[k].at_:Int)<iT rs A.ns k
        ·have rY:Hid (iT rs A.ns (k+1)=(A.ns[k].at_:Int)):=by unfold Hid;rw[HS.out,if_pos ⟨H3.out,hf⟩,lo,if_pos (Or.inr hx)]
         clear HS
         go_wp2
         go_round
         case rel=>exact⟨k+1,by omega,by go_num,by rw[rY.out]⟩
         case measure=>simp[intOf];omega
        ·have rY:Hid (iT rs A.ns (k+1)=iT rs A.ns k):=by unfold Hid;rw[HS.out,if_pos ⟨H3.out,hf⟩,lo,if_neg (by omega)]
         clear HS
         go_wp2
         go_round
         case rel=>exact⟨k+1,by omega,by go_num,by rw[rY.out]⟩
         case measure=>simp[intOf];omega
      ·have rY:Hid (iT rs A.ns (k+1)=iT rs A.ns k):=by unfold Hid;rw[HS.out,if_neg (fun h=>hf h.2)]
       clear HS
       go_wp2
       go_round
       case rel=>exact⟨k+1,by omega,by go_num,by rw[rY.out]⟩
       case measure=>simp[intOf];omega
     ·have q3:((A.ns[k].kind:Int) == 3)=false:=by simp;omega
      have rY:Hid (iT rs A.ns (k+1)=iT rs A.ns k):=by unfold Hid;rw[HS.out,if_neg (fun h=>ff h.1)]
      clear HS ff
      go_wp2
      go_round
      case rel=>exact⟨k+1,by omega,by go_num,by rw[rY.out]⟩
      case measure=>simp[intOf];omega
    ·have On:k=A.ns.length:=by omega
     subst On
     go_wp2
     go_ret
     exact⟨by rw[HM.out];rfl,rfl⟩
end Go.Proofs.YtagklnaaoclmhaaGreatDoor
namespace Go.Proofs.YtagklnaaoclmhaaGreatDoor
end Go.Proofs.YtagklnaaoclmhaaGreatDoor
namespace Go.Proofs.YtagklnaaoclmhaaGreatDoor
open Go.RowKit
structure lS (w:World)(base b:Nat)(s:ByteArray)(nv rv:Value)(U:Nat->Prop)(A:St)(rs:List Rl):Prop where
 rg:RG w base b s nv rv U A
 ru:dr w base rv rs
theorem lS.kept {S:Nat->Prop}{w w':World}{base b:Nat}{s:ByteArray}{nv rv:Value}{U:Nat->Prop}{A:St}{rs:List Rl}(h:lS w base b s nv rv U A rs)(hk:aa S w w')
  (hs:∀k,S k->k<w.heap.size->∃c,ai w k=some (.cells c 4 (0,0))):lS w' base b s nv rv U A rs:=by
 have key:∀{k c e},ai w k=some (.cells c e (0,0))->e≠4->¬S k:=by
  intro k c e ho he hS
  obtain⟨x,hx⟩:=hs k hS (ag ho)
  rw[ho]at hx
  simp at hx
  exact he hx.2
 obtain⟨y,hy⟩:=h.rg.gis.obj
 refine⟨?_,az h.ru hk (fun k e=>by obtain⟨x,hx⟩:=ak h.ru e;exact key hx (by decide))⟩
 have:=h.rg.turn hk (g:=A.sc) (h.rg.gis.kept hk (key hy (by decide))) (fun k e=>by obtain⟨x,hx⟩:=h.rg.nvb e;exact key hx (by decide)) (fun k c _ ho=>key ho (by decide))
 exact this
theorem lS.same {w:World}{base b:Nat}{s:ByteArray}{nv rv:Value}{U:Nat->Prop}{A:St}{rs:List Rl}(h:lS w base b s nv rv U A rs)(n:Nat):lS (w.drewN n) base b s nv rv U A rs:=
 h.kept (S:=fun _=>False) ((aa.refl _ w).drewN n) (fun _ x=>x.elim)
theorem lS.alloc {w:World}{base b:Nat}{s:ByteArray}{nv rv:Value}{U:Nat->Prop}{A:St}{rs:List Rl}(h:lS w base b s nv rv U A rs)(o:Obj):lS (w.alloc o) base b s nv rv U A rs:=
 h.kept (S:=fun _=>False) ((aa.refl _ w).alloc o) (fun _ x=>x.elim)
theorem lS.bools {w w':World}{base b eb:Nat}{s:ByteArray}{nv rv:Value}{U:Nat->Prop}{A:St}{rs:List Rl}{L:List Bool}(h:lS w base b s nv rv U A rs)(hb:aA w eb L)(hk:aa (·=eb) w w'):lS w' base b s nv rv U A rs:=
 h.kept hk (fun k e _=>by subst e;exact⟨_,hb⟩)
theorem mkB (W:World)(n:Nat)(hn:n<=5000):(Instr.makeSlice 162 (.int .i64 (n:Int)) (.int .i64 (n:Int))).run Tryz.prog W=.ok (.slice (some ⟨W.heap.size,0,none⟩) n n) (W.alloc (.cells (Array.replicate n (.bool false)) 4)):=by
 obtain⟨i0,iC,gH,iD,iz⟩:=info_parts E8
 have hr:=run_make (P:=Tryz.prog) W 162 4 i0 _ Tryz.underlying162 iC gH .i64 .i64 n n (by omega) (Int.le_refl _) (by rw[iz];omega) (by omega)
 rw[hr]
 simp only[Int.toNat_natCast,iD,Nat.mul_one]
 have hz:(Value.bool false).cells=#[.bool false]:=rfl
 have:madeCells (Value.bool false).cells n=Array.replicate n (.bool false):=by
  apply Array.ext'
  rw[hz,toList_madeCells_one];simp
 rw[this]
end Go.Proofs.YtagklnaaoclmhaaGreatDoor
