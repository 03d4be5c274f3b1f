import Derived.Test.YtagklnaaoclmhaaGreatDoorMnAT
import Derived.Deep.DeepCutAuto
import Derived.Deep.CutBlock
import Derived.Test.YtagklnaaoclmhaaGreatDoorMnCB
import Derived.Laws.Rows
set_option linter.unusedSimpArgs false
set_option linter.unusedVariables false
set_option maxRecDepth 100000
set_option maxHeartbeats 16000000
namespace Go.Proofs.YtagklnaaoclmhaaGreatDoor
open Go.RowKit
structure ZZ (w:World)(v:Value)(B:Bool)(T F:Int)(nt nf:Nat)(tc fc:Nat->Int):Prop where
 ex:∃(tp:Option Addr) (tk:Nat) (fp:Option Addr) (fk:Nat),v=.agg #[.bool B,.int .i64 T,.slice tp nt tk,.int .i64 F,.slice fp nf fk]/\
  (∀k,k<nt*4->∃b,tp=some ⟨b,0,none⟩/\w.cell? ⟨b,k,none⟩=some (.int .i64 (tc k)))/\
  (∀k,k<nf->∃b,fp=some ⟨b,0,none⟩/\w.cell? ⟨b,k,none⟩=some (.int .i64 (fc k)))
 le:nt<=100000/\nf<=100000

structure Pd where
 B:Bool
 T:Int
 F:Int
 nt:Nat
 nf:Nat
 tc:Nat->Int
 fc:Nat->Int
 er:Int
def iV:Value->Int
 | .int _ n=>n
 | _=>0
def TR (o:Ot):Pd:=⟨decide (mY o.to≠-1),if mY o.to=-1 then 0 else mY o.to,(cH o.ev).1,(if mY o.to=-1 then [] else (jx 0 0 0 o).tr.map nI).length,(vw (cH o.ev).2).length,
 fun k=>iV (((if mY o.to=-1 then [] else (jx 0 0 0 o).tr.map nI).flatMap ig).getD k undef),fun k=>iV (((vw (cH o.ev).2).map wA).getD k undef),0⟩
theorem uQ (L:List iN):(L.flatMap ig).length=L.length*4:=by
 induction L with
 | nil=>rfl
 | cons x L ih=>rw[List.flatMap_cons,List.length_append,ih];simp[ig];omega
theorem Lv (L:List iN):∀v∈L.flatMap ig,v=.int .i64 (iV v):=by
 intro v hv
 obtain⟨x,_,h⟩:=List.mem_flatMap.1 hv
 simp only[ig,List.mem_cons,List.not_mem_nil,or_false]at h
 rcases h with rfl | rfl | rfl | rfl <;> rfl
theorem NU (m:Nat):(vw m).length<=64:=by
 unfold vw
 exact Nat.le_trans (List.length_filter_le _ _) (by simp)
theorem FG {w:World}{base e size n:Nat}{p:Option Addr}{ln c:Nat}{xs:List Value}(h:w.ownsRow base e size (.slice p ln c) n xs)(hx:xs.length=n*size)(hi:∀v∈xs,v=.int .i64 (iV v))(hs:0<size):ln=n/\∀k,k<n*size->∃b,p=some ⟨b,0,none⟩/\w.cell? ⟨b,k,none⟩=some (.int .i64 (iV (xs.getD k undef))):=by
 obtain⟨p2,c2,hv⟩:=an h
 have hl:ln=n:=by cases hv;rfl
 refine⟨hl,fun k hk=>?_⟩
 have hn:n≠0:=fun e=>by rw[e]at hk;simp at hk
 obtain⟨g,cap,sW,_,_⟩:=h.form (Nat.pos_of_ne_zero hn)
 rw[sW]at h
 have hp:p=some ⟨g,0,none⟩:=by cases sW;rfl
 refine⟨g,hp,?_⟩
 rw[h.cellAt k hk]
 have co:k<xs.length:=by omega
 rw[List.getD_eq_getElem?_getD,List.getElem?_eq_getElem co]
 exact congrArg some (hi _ (List.getElem_mem co))
theorem qC.ana {w:World}{base:Nat}{o:Ot}{B:Bool}{T:Int}{tp fp:Option Addr}{tn tc fn fc:Nat}(h:qC w base (mY o.to) ((jx 0 0 0 o).tr.map nI) (cH o.ev).2 B T (.slice tp tn tc) (.slice fp fn fc))(hl:(jx 0 0 0 o).tr.length<=100000):
  ZZ w (.agg #[.bool B,.int .i64 T,.slice tp tn tc,.int .i64 (cH o.ev).1,.slice fp fn fc]) (TR o).B (TR o).T (TR o).F (TR o).nt (TR o).nf (TR o).tc (TR o).fc:=by
 obtain⟨h1,h2⟩:=FG h.tr (uQ _) (Lv _) (by decide)
 obtain⟨h3,h4⟩:=FG h.fl (by simp) (fun v hv=>by obtain⟨x,_,rfl⟩:=List.mem_map.1 hv;rfl) (by decide)
 refine⟨⟨tp,tc,fp,fc,?_,h2,fun k hk=>h4 k (by rw[Nat.mul_one];exact hk)⟩,?_,?_⟩
 ·rw[h.b,h.t,h1,h3];rfl
 ·show (if mY o.to=-1 then [] else (jx 0 0 0 o).tr.map nI).length<=100000
  split
  ·simp
  ·rw[List.length_map];exact hl
 ·have:=NU (cH o.ev).2
  show (vw (cH o.ev).2).length<=100000
  omega
theorem di {w:World}{q t:Nat}{a b c d:Value}(h:w.heap[q]?=some (.cells #[a,b,c,d] t (0,0))):w.cell? ⟨q,0,none⟩=some a/\w.cell? ⟨q,1,none⟩=some b/\w.cell? ⟨q,2,none⟩=some c/\w.cell? ⟨q,3,none⟩=some d:=by
 refine⟨?_,?_,?_,?_⟩ <;> simp[World.cell?,h]
theorem aa.blk {S:Nat->Prop}{w w':World}(hk:aa S w w'){q:Nat}{o:Obj}(h:w.heap[q]?=some o)(hs:¬S q):w'.heap[q]?=some o:=
 (hk.block q (ag (show ai w q=_ from h)) hs).trans h
def vj (far:Int × Nat)(rn:Nat):Array Value:=(Value.int .i64 far.1 :: (jS far.2++[.int .i64 (rn:Int)])).toArray
def cz (w:World)(tb:Nat)(far:Int × Nat)(rn:Nat):Prop:=w.heap[tb]?=some (.cells (vj far rn) 185 (0,0))
theorem Mg (far:Int × Nat)(rn:Nat):(vj far rn).size=43:=by simp[vj,jS]
attribute [local go_sem ↓] bU bB bF bD
attribute [local go_sem] bG bp bu bi bf aK au aN
def Ig (g:Nat->Bool):List Value:=(List.range 41).map (fun k=>Value.bool (g k))
def Ct (f:Int)(g:Nat->Bool)(rn:Nat):Array Value:=(Value.int .i64 f :: (Ig g++[.int .i64 (rn:Int)])).toArray
theorem Mh (far:Int × Nat)(rn:Nat):vj far rn=Ct far.1 (far.2.testBit ·) rn:=rfl
def qL (w:World)(tb:Nat)(f:Int)(g:Nat->Bool)(rn:Nat):Prop:=w.heap[tb]?=some (.cells (Ct f g rn) 185 (0,0))
theorem qL.at_ {w:World}{tb:Nat}{f:Int}{g:Nat->Bool}{rn:Nat}(h:qL w tb f g rn){k:Nat}(hk:k<41):w.cell? ⟨tb,1+k,none⟩=some (.bool (g k)):=by
 have h':w.heap[tb]?=_:=h
 simp only[World.cell?,h',Ct]
 rw[Nat.add_comm]
 simp[Ig,List.getElem?_append_left,hk]
theorem qL.far {w:World}{tb:Nat}{f:Int}{g:Nat->Bool}{rn:Nat}(h:qL w tb f g rn):w.cell? ⟨tb,0,none⟩=some (.int .i64 f):=by
 have h':w.heap[tb]?=_:=h
 simp[World.cell?,h',Ct]
theorem qL.runs {w:World}{tb:Nat}{f:Int}{g:Nat->Bool}{rn:Nat}(h:qL w tb f g rn):w.cell? ⟨tb,42,none⟩=some (.int .i64 (rn:Int)):=by
 have h':w.heap[tb]?=_:=h
 simp[World.cell?,h',Ct,Ig,List.getElem?_append_right]
theorem qL.frz {w:World}{tb:Nat}{f:Int}{g:Nat->Bool}{rn:Nat}(h:qL w tb f g rn)(k:Nat):w.frozen? ⟨tb,k,none⟩=false:=by
 have h':w.heap[tb]?=_:=h
 simp[World.frozen?,h']
theorem qL.mark {w:World}{tb:Nat}{f:Int}{g:Nat->Bool}{rn:Nat}(h:qL w tb f g rn){k:Nat}(hk:k<41)(v:Bool):qL (w.setCell ⟨tb,1+k,none⟩ (.bool v)) tb f (fun j=>if j=k then v else g j) rn:=by
 have h':w.heap[tb]?=_:=h
 have h1:=aj h' (1+k) (.bool v)
 unfold qL
 rw[h1]
 congr 2
 apply Array.ext'
 simp only[Array.toList_setIfInBounds,Ct]
 rw[Nat.add_comm 1 k,List.set_cons_succ]
 congr 1
 rw[List.set_append_left _ _ (by simp[Ig];exact hk)]
 congr 1
 unfold Ig
 apply List.ext_getElem
 ·simp
 ·intro j h2 h3
  simp only[List.getElem_set,List.getElem_map,List.getElem_range]
  by_cases hj:k=j
  ·subst hj;simp
  ·rw[if_neg hj,if_neg (fun e=>hj e.symm)]
theorem qL.ext {w:World}{tb:Nat}{f:Int}{g g':Nat->Bool}{rn:Nat}(h:qL w tb f g rn)(he:∀k,k<41->g k=g' k):qL w tb f g' rn:=by
 have:Ct f g rn=Ct f g' rn:=by
  unfold Ct Ig
  congr 3
  apply List.map_congr_left
  intro k hk
  rw[he k (List.mem_range.1 hk)]
 unfold qL at h ⊢
 rw[<-this];exact h
theorem T3 (f:Int)(g:Nat->Bool)(rn:Nat):zl (Ct f g rn) 1 (jS 0)=Ct f (fun _=>false) rn:=by
 have h0:jS 0=Ig (fun _=>false):=by
  unfold jS Ig
  apply List.map_congr_left
  intro k _
  rw[Nat.zero_testBit]
 have hl:(jS 0).length=41:=ml 0
 unfold zl Ct
 rw[hl]
 have h2:(Value.int .i64 f :: (Ig g++[.int .i64 (rn:Int)])).drop (1+41)=[.int .i64 (rn:Int)]:=by
  rw[show 1+41=41+1 from rfl,List.drop_succ_cons,List.drop_left' (by simp[Ig])]
 have h3:(Value.int .i64 f :: (Ig g++[.int .i64 (rn:Int)])).take 1=[.int .i64 f]:=by simp
 simp only[List.toList_toArray]
 rw[h2,h3,h0]
 simp
theorem xS (tb:Nat)(far:Int × Nat)(rn:Nat)(e:Int)(m:Nat)(w:World)(h:cz w tb far rn):
  Calls Tryz.prog 136 #[.pointer (some ⟨tb,0,none⟩),.int .i64 e,.agg (jF m)] w fun e' w'=>e'=.returned (.tuple #[])/\cz w' tb (dt far (e,m)) rn/\aa (fun k=>k=tb) w w':=by
 have hg:qL w tb far.1 (far.2.testBit ·) rn:=h
 have bj:tb<w.heap.size:=av hg.far
 obtain⟨w1,dZ⟩:∃w1,w1=w.alloc (.cells (jF m) 119):=⟨_,rfl⟩
 have K1:aa (fun _=>False) w w1:=by rw[dZ];exact(aa.refl _ w).alloc _
 have yE:qL w1 tb far.1 (far.2.testBit ·) rn:=by unfold qL;rw[K1.block tb bj (fun x=>x)];exact hg
 have Kv:w1.heap[w.heap.size]?=some (.cells (jF m) 119 (0,0)):=by rw[dZ];exact heap_alloc_new _ _
 have c0:=yE.far
 have f0:=yE.frz 0
 rw[dZ]at c0 f0
 by_cases h1:e<far.1
 ·have hf:dt far (e,m)=far:=by
   unfold dt
   rw[if_neg (by show ¬far.1<e;omega),if_neg (by show ¬far.1=e;omega)]
  go_enter Tryz.func136,Tryz.ntmps136
  go_wp2
  rw[<-dZ]
  refine bodyPost_ret (v:=.tuple #[]) (by simp[results,Tryz.results136,go_sem]) rfl ⟨rfl,by rw[hf];exact yE,K1.mono (fun _ _ x=>x.elim)⟩
 ·have HM1:=ae Kv
  have HFF:Hid ((dt far (e,m)).1=e):=by
   unfold Hid dt
   split
   ·rfl
   ·split
    ·next h3=>exact h3
    ·next h2 h3=>exact absurd (show far.1=e by have:¬far.1<e:=h2;omega) h3
  by_cases h2:far.1<e
  ·have qbl:ai (w.setCell ⟨tb,0,none⟩ (.int .i64 e)) tb=some (.cells (Ct e (far.2.testBit ·) rn) 185 (0,0)):=by
    have h':w.heap[tb]?=_:=hg
    have:=aj h' 0 (.int .i64 e)
    show (w.setCell ⟨tb,0,none⟩ (.int .i64 e)).heap[tb]?=_
    rw[this]
    rfl
   have qbI:(Ct e (far.2.testBit ·) rn).size=43:=by simp[Ct,Ig]
   have iD:=B3
   have iz:=MM
   obtain⟨wL,K0⟩:∃wL,wL=((w.setCell ⟨tb,0,none⟩ (.int .i64 e)).alloc (.cells (jF m) 119)).setCells tb 1 ML.toList:=⟨_,rfl⟩
   obtain⟨G0,RW⟩:∃G0:Nat->Bool,G0=fun _=>false:=⟨_,rfl⟩
   have HG:Hid (qL wL tb e G0 rn):=by
    have hb:((w.setCell ⟨tb,0,none⟩ (.int .i64 e)).alloc (.cells (jF m) 119)).heap[tb]?=some (.cells (Ct e (far.2.testBit ·) rn) 185 (0,0)):=by
     rw[Below.heap_alloc _ _ _ (by simpa using bj)];exact qbl
    have:=eu tb ML.toList 1 _ _ 185 hb (by rw[qbI];decide)
    unfold Hid qL
    rw[K0,this]
    rw[RW,B1,T3]
   have Nw:Hid (aa (fun k=>k=tb) w wL):=by
    unfold Hid
    rw[K0]
    exact(((aa.refl (fun k=>k=tb) w).setCell (p:=⟨tb,0,none⟩) (fun _=>rfl) _).alloc _).trans (dR tb _ _ _)
   have HMm:Hid (wL.heap[w.heap.size]?=some (.cells (jF m) 119 (0,0))):=by
    unfold Hid
    rw[K0]
    refine(dR tb _ _ _).blk ?_ (fun e=>by have e':w.heap.size=tb:=e;omega)
    have:=heap_alloc_new (w.setCell ⟨tb,0,none⟩ (.int .i64 e)) (.cells (jF m) 119)
    simpa using this
   have Rd:Hid (∀k,k<41->(G0 k||m.testBit k)=(dt far (e,m)).2.testBit k):=fun k _=>by
    rw[RW];unfold dt;rw[if_pos h2];simp
   clear RW
   go_enter Tryz.func136,Tryz.ntmps136
   go_wp2
   rw[<-K0]
   clear K0
   go_loopg [6] 41 (fun r v wx=>∃k:Nat,v=.int .i64 (k:Int)/\Hid (k+r=41)/\Hid (∃g,qL wx tb e g rn/\∀j,j<41->g j=if j<k then (G0 j||m.testBit j) else G0 j)/\Hid (aa (fun k=>k=tb) wL wx))
   case atStart=>exact⟨0,rfl,(by unfold Hid;omega),⟨G0,HG.out,fun j _=>by simp⟩,aa.refl _ _⟩
   case round=>
    obtain⟨k,rfl,HK,HX,HW⟩:=hrel
    obtain⟨gj,EQ⟩:∃m,m=gk:=⟨gk,rfl⟩
    subst EQ
    have eh:=HK.out
    obtain⟨g,Ch,iI⟩:=HX.out
    by_cases hk:k<41
    ·have d1:=Ch.at_ hk
     have d2:wr.cell? ⟨w.heap.size,k,none⟩=some (.bool (m.testBit k)):=by
      have h5:=HW.out.blk HMm.out (fun e=>by have e':w.heap.size=tb:=e;omega)
      simp only[World.cell?,h5,jF]
      simp[jS,hk]
     have fz:=Ch.frz (1+k)
     have zK:=iI k hk
     rw[if_neg (by omega)]at zK
     rw[zK]at d1
     have ld:=Ch.mark hk (G0 k||m.testBit k)
     have HN:Hid (∃g',qL (wr.setCell ⟨tb,1+k,none⟩ (.bool (G0 k||m.testBit k))) tb e g' rn/\∀j,j<41->g' j=if j<k+1 then (G0 j||m.testBit j) else G0 j):=⟨_,ld,fun j hj=>by
      by_cases hjk:j=k
      ·subst hjk;simp
      ·rw[if_neg hjk,iI j hj]
       by_cases h6:j<k
       ·rw[if_pos h6,if_pos (by omega)]
       ·rw[if_neg h6,if_neg (by omega)]⟩
     have HN2:Hid (aa (fun k=>k=tb) wL (wr.setCell ⟨tb,1+k,none⟩ (.bool (G0 k||m.testBit k)))):=HW.out.trans ((aa.refl (fun k=>k=tb) wr).setCell (p:=⟨tb,1+k,none⟩) (fun _=>rfl) _)
     have HM:Hid (gj-1<gj):=by unfold Hid;omega
     have eW:¬w.heap.size=tb:=by omega
     clear ld iI zK Ch eh HX HW
     generalize G0 k=x0 at *
     generalize m.testBit k=x1 at *
     cases x0 <;> cases x1
     all_goals
      go_wp2
      go_region
      all_goals
       go_wp2
       go_roundg (gj-1)
       case measure=>exact HM.out
       case rel=>exact⟨k+1,by go_num,(by have:=HK.out;unfold Hid;omega),HN.out,HN2.out.drew⟩
    ·obtain⟨g,Ch,iI⟩:=HX.out
     have Nc:=Ch.ext (g':=fun j=>(dt far (e,m)).2.testBit j) (fun j hj=>by
      rw[iI j hj,if_pos (by omega)];exact Rd.out j hj)
     have HR:Hid (cz wr tb (dt far (e,m)) rn):=by
      unfold Hid cz
      rw[Mh,HFF.out];exact Nc
     have HKR:Hid (aa (fun k=>k=tb) w wr):=Nw.out.trans HW.out
     clear Nc iI Ch HX eh
     go_wp2
     go_end0
     exact⟨rfl,HR.out,HKR.out⟩
  ·have h3:far.1=e:=by omega
   obtain⟨wL,K0⟩:∃wL,wL=w.alloc (.cells (jF m) 119):=⟨_,rfl⟩
   obtain⟨G0,RW⟩:∃G0:Nat->Bool,G0=fun j=>far.2.testBit j:=⟨_,rfl⟩
   have HG:Hid (qL wL tb e G0 rn):=by rw[RW,<-h3,K0,<-dZ];exact yE
   have Nw:Hid (aa (fun k=>k=tb) w wL):=by unfold Hid;rw[K0];exact(aa.refl _ w).alloc _
   have HMm:Hid (wL.heap[w.heap.size]?=some (.cells (jF m) 119 (0,0))):=by unfold Hid;rw[K0];exact heap_alloc_new _ _
   have Rd:Hid (∀k,k<41->(G0 k||m.testBit k)=(dt far (e,m)).2.testBit k):=fun k _=>by
    rw[RW];unfold dt;rw[if_neg (by show ¬far.1<e;omega),if_pos (show far.1=e from h3)];simp
   clear RW
   go_enter Tryz.func136,Tryz.ntmps136
   go_wp2
   rw[<-K0]
   clear K0
   go_loopg [6] 41 (fun r v wx=>∃k:Nat,v=.int .i64 (k:Int)/\Hid (k+r=41)/\Hid (∃g,qL wx tb e g rn/\∀j,j<41->g j=if j<k then (G0 j||m.testBit j) else G0 j)/\Hid (aa (fun k=>k=tb) wL wx))
   case atStart=>exact⟨0,rfl,(by unfold Hid;omega),⟨G0,HG.out,fun j _=>by simp⟩,aa.refl _ _⟩
   case round=>
    obtain⟨k,rfl,HK,HX,HW⟩:=hrel
    obtain⟨gj,EQ⟩:∃m,m=gk:=⟨gk,rfl⟩
    subst EQ
    have eh:=HK.out
    obtain⟨g,Ch,iI⟩:=HX.out
    by_cases hk:k<41
    ·have d1:=Ch.at_ hk
     have d2:wr.cell? ⟨w.heap.size,k,none⟩=some (.bool (m.testBit k)):=by
      have h5:=HW.out.blk HMm.out (fun e=>by have e':w.heap.size=tb:=e;omega)
      simp only[World.cell?,h5,jF]
      simp[jS,hk]
     have fz:=Ch.frz (1+k)
     have zK:=iI k hk
     rw[if_neg (by omega)]at zK
     rw[zK]at d1
     have ld:=Ch.mark hk (G0 k||m.testBit k)
     have HN:Hid (∃g',qL (wr.setCell ⟨tb,1+k,none⟩ (.bool (G0 k||m.testBit k))) tb e g' rn/\∀j,j<41->g' j=if j<k+1 then (G0 j||m.testBit j) else G0 j):=⟨_,ld,fun j hj=>by
      by_cases hjk:j=k
      ·subst hjk;simp
      ·rw[if_neg hjk,iI j hj]
       by_cases h6:j<k
       ·rw[if_pos h6,if_pos (by omega)]
       ·rw[if_neg h6,if_neg (by omega)]⟩
     have HN2:Hid (aa (fun k=>k=tb) wL (wr.setCell ⟨tb,1+k,none⟩ (.bool (G0 k||m.testBit k)))):=HW.out.trans ((aa.refl (fun k=>k=tb) wr).setCell (p:=⟨tb,1+k,none⟩) (fun _=>rfl) _)
     have HM:Hid (gj-1<gj):=by unfold Hid;omega
     have eW:¬w.heap.size=tb:=by omega
     clear ld iI zK Ch eh HX HW
     generalize G0 k=x0 at *
     generalize m.testBit k=x1 at *
     cases x0 <;> cases x1
     all_goals
      go_wp2
      go_region
      all_goals
       go_wp2
       go_roundg (gj-1)
       case measure=>exact HM.out
       case rel=>exact⟨k+1,by go_num,(by have:=HK.out;unfold Hid;omega),HN.out,HN2.out.drew⟩
    ·obtain⟨g,Ch,iI⟩:=HX.out
     have Nc:=Ch.ext (g':=fun j=>(dt far (e,m)).2.testBit j) (fun j hj=>by
      rw[iI j hj,if_pos (by omega)];exact Rd.out j hj)
     have HR:Hid (cz wr tb (dt far (e,m)) rn):=by
      unfold Hid cz
      rw[Mh,HFF.out];exact Nc
     have HKR:Hid (aa (fun k=>k=tb) w wr):=Nw.out.trans HW.out
     clear Nc iI Ch HX eh
     go_wp2
     go_end0
     exact⟨rfl,HR.out,HKR.out⟩
end Go.Proofs.YtagklnaaoclmhaaGreatDoor
namespace Go.Proofs.YtagklnaaoclmhaaGreatDoor
open Go.RowKit
attribute [local go_sem ↓] bU bB bF bD
attribute [local go_sem] bG bp bu bi bf aK au aN
theorem YF (t:Nat)(ht:t<41):ML.setIfInBounds t (.bool true)=jF (2^t):=by
 apply Array.ext'
 rw[Array.toList_setIfInBounds,B1]
 show _=jS (2^t)
 unfold jS
 apply List.ext_getElem
 ·simp
 ·intro j h1 h2
  simp only[List.getElem_set,List.getElem_map,List.getElem_range,Nat.zero_testBit,Nat.testBit_two_pow]
  by_cases h:t=j
  ·simp[h]
  ·simp[h]
theorem wY (tb:Nat)(far:Int × Nat)(rn a t:Nat)(ht:t<41)(w:World)(h:cz w tb far rn):
  Calls Tryz.prog 135 #[.pointer (some ⟨tb,0,none⟩),.int .i64 (a:Int),.int .i64 (t:Int)] w fun e' w'=>e'=.returned (.tuple #[])/\cz w' tb (fI far (a,t)) rn/\aa (fun k=>k=tb) w w':=by
 have bj:tb<w.heap.size:=ag (show ai w tb=_ from h)
 have ho:=YF t ht
 have hz:=B3
 have hx:(jF (2^t)).extract 0 41=jF (2^t):=by
  have:=wQ (2^t)
  rw[<-this,Array.extract_size]
 have hx2:=wQ (2^t)
 have K1:aa (fun _=>False) w (w.alloc (.cells (jF (2^t)) 119)):=(aa.refl _ w).alloc _
 have E0:=xS tb far rn (a:Int) (2^t) (w.alloc (.cells (jF (2^t)) 119)) (by
  unfold cz
  rw[K1.block tb bj (fun x=>x)];exact h)
 go_enter Tryz.func135,Tryz.ntmps135
 go_wp2_with fail
 refine E0.mono ?_
 rintro e' w2 ⟨rfl,h2,K2⟩
 go_wp2
 go_end0
 exact⟨rfl,h2,(K1.mono (fun _ _ x=>x.elim)).trans K2⟩
end Go.Proofs.YtagklnaaoclmhaaGreatDoor
namespace Go.Proofs.YtagklnaaoclmhaaGreatDoor
open Go.RowKit
structure Cl where
 ok:Bool
 too:Nat
 far:Int × Nat
 rn:Nat
def cO:Option Cl->List Value
 | none=>Value.bool false :: .bool false :: .int .i64 0 :: .int .i64 0 :: (jS 0++[.int .i64 0])
 | some x=>Value.bool true :: .bool x.ok :: .int .i64 (x.too:Int) :: .int .i64 x.far.1 :: (jS x.far.2++[.int .i64 (x.rn:Int)])
theorem dv (x:Option Cl):(cO x).length=46:=by cases x <;> simp[cO,jS]
def kp (c:Nat->Option Cl)(N:Nat):Array Value:=((List.range N).flatMap (fun k=>cO (c k))).toArray
theorem oD {f g:Nat->List Value}:∀l:List Nat,(∀j∈l,f j=g j)->l.flatMap f=l.flatMap g
 | [],_=>rfl
 | x :: l,h=>by rw[List.flatMap_cons,List.flatMap_cons,h x (List.mem_cons_self ..),oD l (fun j hj=>h j (List.mem_cons_of_mem _ hj))]
theorem ui {f:Nat->List Value}{L:Nat}(hf:∀k,(f k).length=L):∀l:List Nat,(l.flatMap f).length=l.length*L
 | []=>by simp
 | x :: l=>by rw[List.flatMap_cons,List.length_append,ui hf l,hf,List.length_cons,Nat.add_mul,Nat.one_mul,Nat.add_comm]
theorem m8 (c:Nat->Option Cl)(N:Nat):(kp c N).size=N*46:=by
 unfold kp
 have:=ui (f:=fun k=>cO (c k)) (L:=46) (fun k=>dv _) (List.range N)
 simpa using this
theorem LI {N k:Nat}(h:k<N):List.range N=List.range k++k :: (List.range N).drop (k+1):=by
 apply List.ext_getElem
 ·simp;omega
 ·intro j h1 h2
  rw[List.getElem_append]
  split
  ·next h3=>simp
  ·next h3=>
   simp at h3
   rw[List.getElem_cons]
   split
   ·next h4=>simp at h4;simp;omega
   ·next h4=>simp at h4;simp;omega
theorem kU (c:Nat->Option Cl){N k:Nat}(h:k<N):(kp c N).toList=(List.range k).flatMap (fun j=>cO (c j))++(cO (c k)++((List.range N).drop (k+1)).flatMap (fun j=>cO (c j))):=by
 unfold kp
 show (List.range N).flatMap _=_
 conv=>lhs;rw[LI h]
 rw[List.flatMap_append,List.flatMap_cons]
theorem mo (c:Nat->Option Cl)(k:Nat):((List.range k).flatMap (fun j=>cO (c j))).length=k*46:=by
 have:=ui (f:=fun k=>cO (c k)) (L:=46) (fun k=>dv _) (List.range k)
 simpa using this
theorem Ac (c:Nat->Option Cl){N k:Nat}(h:k<N):(kp c N).extract (k*46) (k*46+46)=(cO (c k)).toArray:=by
 apply Array.ext'
 rw[Array.toList_extract,kU c h]
 simp only[List.extract_eq_take_drop]
 rw[List.drop_left' (mo c k),show k*46+46-k*46=46 by omega,List.take_left' (dv _)]
theorem Jb (c:Nat->Option Cl){N k:Nat}(h:k<N)(x:Option Cl):zl (kp c N) (k*46) (cO x)=kp (fun j=>if j=k then x else c j) N:=by
 apply Array.ext'
 unfold zl
 rw[kU (fun j=>if j=k then x else c j) h,dv]
 simp only[List.toList_toArray]
 rw[kU c h,List.take_left' (mo c k)]
 have h1:(((List.range k).flatMap fun j=>cO (c j))++(cO (c k)++((List.range N).drop (k+1)).flatMap fun j=>cO (c j))).drop (k*46+46)=((List.range N).drop (k+1)).flatMap (fun j=>cO (c j)):=by
  rw[<-List.append_assoc,List.drop_left' (by rw[List.length_append,mo,dv])]
 rw[h1]
 have h2:(List.range k).flatMap (fun j=>cO (if j=k then x else c j))=(List.range k).flatMap (fun j=>cO (c j)):=by
  apply oD
  intro j hj
  have:=List.mem_range.1 hj
  rw[if_neg (by omega)]
 have h3:((List.range N).drop (k+1)).flatMap (fun j=>cO (if j=k then x else c j))=((List.range N).drop (k+1)).flatMap (fun j=>cO (c j)):=by
  apply oD
  intro j hj
  obtain⟨i,hi,rfl⟩:=List.getElem_of_mem hj
  rw[if_neg (by simp;omega)]
 rw[h2,h3]
 simp
def oY (w:World)(cb N:Nat)(c:Nat->Option Cl):Prop:=w.heap[cb]?=some (.cells (kp c N) 121 (0,0))
structure rW (w:World)(fb gb:Nat)(s:ByteArray)(cb N:Nat)(tv:Value):Prop where
 at_:w.heap[fb]?=some (.cells #[.pointer (some ⟨gb,0,none⟩),.string s,.slice (some ⟨cb,0,none⟩) N N,tv] 126 (0,0))
def cJ:Nat:=1000000
def iq (o:Ot)(a:Nat):Cl:=⟨o.to.isSome,o.to.getD a,cH o.ev,min cJ (o.rn+1)⟩
theorem xC {z:Array Value}{L:Nat}(hz:z.size=L):∀N,(List.range (N*L)).map (fun j=>z[j%L]!)=(List.range N).flatMap (fun _=>z.toList)
 | 0=>by simp
 | N+1=>by
  rw[Nat.add_mul,Nat.one_mul,List.range_add,List.map_append,xC hz N,List.range_succ,List.flatMap_append]
  congr 1
  simp only[List.flatMap_cons,List.flatMap_nil,List.append_nil,List.map_map]
  apply List.ext_getElem
  ·simp[hz]
  ·intro j h1 h2
   simp only[List.getElem_map,List.getElem_range,Function.comp]
   have hj:j<L:=by simpa using h1
   rw[Nat.mul_comm,Nat.mul_add_mod,Nat.mod_eq_of_lt hj,getElem!_pos z j (by omega)]
   simp
theorem MN:xW.toList=cO none:=by kernel_rfl
theorem qbV (W:World)(n:Nat)(hn:n<=5000):(Instr.makeSlice 124 (.int .i64 (n:Int)) (.int .i64 (n:Int))).run Tryz.prog W=.ok (.slice (some ⟨W.heap.size,0,none⟩) n n) (W.alloc (.cells (kp (fun _=>none) n) 121)):=by
 obtain⟨i0,iC,gH,iD,iz⟩:=pK
 have hr:=run_make (P:=Tryz.prog) W 124 121 i0 _ Tryz.underlying124 iC gH .i64 .i64 n n (by omega) (Int.le_refl _) (by rw[iz];omega) (by omega)
 rw[hr]
 simp only[Int.toNat_natCast,iD]
 have:madeCells (Value.agg xW).cells (n*46)=kp (fun _=>none) n:=by
  apply Array.ext'
  have hz:(Value.agg xW).cells=xW:=rfl
  rw[hz]
  show _=(List.range n).flatMap (fun _=>cO none)
  rw[<-MN,<-xC kJ n]
  unfold madeCells
  rw[kJ]
  simp
 rw[this]
theorem LA (gb:Nat)(s:ByteArray)(nr rc:Nat)(rp:Option Addr)(w:World)(hn:nr<=8)(hs:s.size<=60)(hg:w.cell? ⟨gb,1,none⟩=some (.slice rp nr rc)):
  Calls Tryz.prog 57 #[.pointer (some ⟨gb,0,none⟩),.string s] w fun e w'=>e=.returned (.pointer (some ⟨w.heap.size+1,0,none⟩))/\rW w' (w.heap.size+1) gb s w.heap.size (nr*(s.size+1)) (.slice none 0 0)/\oY w' w.heap.size (nr*(s.size+1)) (fun _=>none)/\aa (fun _=>False) w w':=by
 obtain⟨n,SO⟩:∃n,n=nr*(s.size+1):=⟨_,rfl⟩
 have oe:n<=5000:=by rw[SO];exact Nat.le_trans (Nat.mul_le_mul hn (show s.size+1<=61 by omega)) (by decide)
 have hxi:((nr:Nat):Int)*((s.size:Int)+1)=(n:Int):=by rw[SO];push_cast;rfl
 have ld:=fun W=>qbV W n oe
 have lV:=av hg
 rw[<-SO]
 clear SO
 go_enter Tryz.func57,Tryz.ntmps57
 go_wp2
 go_ret
 refine⟨rfl,⟨?_⟩,?_,((aa.refl _ w).alloc _).alloc _⟩
 ·have:=heap_alloc_new (w.alloc (.cells (kp (fun _=>none) n) 121)) (.cells #[.pointer (some ⟨gb,0,none⟩),.string s,.slice (some ⟨w.heap.size,0,none⟩) n n,.slice none 0 0] 126)
  simpa using this
 ·unfold oY
  rw[Below.heap_alloc _ _ _ (by simp)]
  exact heap_alloc_new _ _
theorem jk (p b m r:Int)(w:World):Calls Tryz.prog 30 #[.agg #[.int .i64 p,.int .i64 b,.int .i64 m,.int .i64 r]] w fun e w'=>e=.returned (.bool (decide (tF p b m r)))/\aa (fun _=>False) w w':=by
 have hK:aa (fun _=>False) w (w.alloc (.cells #[.int .i64 p,.int .i64 b,.int .i64 m,.int .i64 r] 23)):=(aa.refl _ w).alloc _
 by_cases h1:0<=p
 rotate_left
 ·rw[decide_eq_false (fun x:tF p b m r=>h1 x.1.1)]
  go_enter Tryz.func30,Tryz.ntmps30
  go_wp2
  go_ret
  exact⟨rfl,hK⟩
 by_cases h2:p<=2
 rotate_left
 ·rw[decide_eq_false (fun x:tF p b m r=>h2 x.1.2)]
  go_enter Tryz.func30,Tryz.ntmps30
  go_wp2
  go_ret
  exact⟨rfl,hK⟩
 by_cases h3:0<=b
 rotate_left
 ·rw[decide_eq_false (fun x:tF p b m r=>h3 x.2.1.1)]
  go_enter Tryz.func30,Tryz.ntmps30
  go_wp2
  go_ret
  exact⟨rfl,hK⟩
 by_cases h4:b<=1000
 rotate_left
 ·rw[decide_eq_false (fun x:tF p b m r=>h4 x.2.1.2)]
  go_enter Tryz.func30,Tryz.ntmps30
  go_wp2
  go_ret
  exact⟨rfl,hK⟩
 by_cases h5:0<=m
 rotate_left
 ·rw[decide_eq_false (fun x:tF p b m r=>h5 x.2.2.1.1)]
  go_enter Tryz.func30,Tryz.ntmps30
  go_wp2
  go_ret
  exact⟨rfl,hK⟩
 by_cases h6:m<=255
 rotate_left
 ·rw[decide_eq_false (fun x:tF p b m r=>h6 x.2.2.1.2)]
  go_enter Tryz.func30,Tryz.ntmps30
  go_wp2
  go_ret
  exact⟨rfl,hK⟩
 by_cases h7:1<=r
 rotate_left
 ·rw[decide_eq_false (fun x:tF p b m r=>h7 x.2.2.2.1)]
  go_enter Tryz.func30,Tryz.ntmps30
  go_wp2
  go_ret
  exact⟨rfl,hK⟩
 by_cases h8:r<=20000
 rotate_left
 ·rw[decide_eq_false (fun x:tF p b m r=>h8 x.2.2.2.2)]
  go_enter Tryz.func30,Tryz.ntmps30
  go_wp2
  go_ret
  exact⟨rfl,hK⟩
 rw[decide_eq_true (show tF p b m r from⟨⟨h1,h2⟩,⟨h3,h4⟩,⟨h5,h6⟩,h7,h8⟩)]
 go_enter Tryz.func30,Tryz.ntmps30
 go_wp2
 go_ret
 exact⟨rfl,hK⟩
theorem B4 (w:World):Calls Tryz.prog 33 #[mZ] w fun e w'=>e=.returned (.bool true)/\aa (fun _=>False) w w':=by
 unfold mZ
 have q1:=fun W=>run_eql_nil_slice (P:=Tryz.prog) W 28 61 none 0 0 0 0 Tryz.underlying28
 have q2:=fun W=>run_eql_nil_slice (P:=Tryz.prog) W 29 3 none 0 0 0 0 Tryz.underlying29
 go_enter Tryz.func33,Tryz.ntmps33
 go_wp2
 go_ret
 exact⟨rfl,(aa.refl _ w).alloc _⟩
theorem wJ {w:World}{tp Ug:Option Addr}{nt tk QV:Nat}{tc:Nat->Int}(hnt:nt<=100000)(h1:∀k,k<nt*4->∃b,tp=some ⟨b,0,none⟩/\w.cell? ⟨b,k,none⟩=some (.int .i64 (tc k)))(h2:∀k,k<nt*4->∃b,Ug=some ⟨b,0,none⟩/\w.cell? ⟨b,k,none⟩=some (.int .i64 (tc k))):
  Calls Tryz.prog 60 #[.slice tp nt tk,.slice Ug nt QV] w fun e w'=>e=.returned (.bool true)/\∃n,w'=w.drewN n:=by
 have H1:=ae h1
 have H2:=ae h2
 clear h1 h2
 go_enter Tryz.func60,Tryz.ntmps60
 go_wp2
 go_loopg [5] nt (fun n v wx=>∃k:Nat,v=.int .i64 (k:Int)/\Hid (k+n=nt)/\∃m,wx=w.drewN m)
 case atStart=>exact⟨0,rfl,by unfold Hid;omega,0,rfl⟩
 case round=>
  obtain⟨k,rfl,HK,m,rfl⟩:=hrel
  obtain⟨gj,EQ⟩:∃m,m=gk:=⟨gk,rfl⟩
  subst EQ
  have eh:=HK.out
  by_cases hk:k<nt
  ·obtain⟨b,hb,e0⟩:=H1.out (k*4) (by omega)
   obtain⟨b1,dE,e1⟩:=H1.out (k*4+1) (by omega)
   obtain⟨b2,eL,e2⟩:=H1.out (k*4+2) (by omega)
   obtain⟨b3,dY,e3⟩:=H1.out (k*4+3) (by omega)
   obtain⟨b',jq,g0⟩:=H2.out (k*4) (by omega)
   obtain⟨b1',WY,g1⟩:=H2.out (k*4+1) (by omega)
   obtain⟨b2',WZ,g2⟩:=H2.out (k*4+2) (by omega)
   obtain⟨b3',W0,g3⟩:=H2.out (k*4+3) (by omega)
   rw[hb]at dE eL dY
   rw[jq]at WY WZ W0
   cases dE;cases eL;cases dY;cases WY;cases WZ;cases W0
   subst hb;subst jq
   generalize tc (k*4)=t0 at *
   generalize tc (k*4+1)=t1 at *
   generalize tc (k*4+2)=t2 at *
   generalize tc (k*4+3)=t3 at *
   have HM:Hid (gj-1<gj):=by unfold Hid;omega
   clear eh
   go_wp2
   go_quiet (fail)
   go_wp2
   go_roundg (gj-1)
   case measure=>exact HM.out
   case rel=>exact⟨k+1,by go_num,(by have:=HK.out;unfold Hid;omega),by first | exact⟨_,rfl⟩ | exact⟨_,World.drewN_drewN ..⟩⟩
  ·clear eh
   go_wp2
   go_ret
   exact⟨rfl,m,rfl⟩
theorem zo {w:World}{fp RN:Option Addr}{nf fk Uz:Nat}{fc:Nat->Int}(Ni:nf<=100000)(h1:∀k,k<nf->∃b,fp=some ⟨b,0,none⟩/\w.cell? ⟨b,k,none⟩=some (.int .i64 (fc k)))(h2:∀k,k<nf->∃b,RN=some ⟨b,0,none⟩/\w.cell? ⟨b,k,none⟩=some (.int .i64 (fc k))):
  Calls Tryz.prog 61 #[.slice fp nf fk,.slice RN nf Uz] w fun e w'=>e=.returned (.bool true)/\∃n,w'=w.drewN n:=by
 have H1:=ae h1
 have H2:=ae h2
 clear h1 h2
 go_enter Tryz.func61,Tryz.ntmps61
 go_wp2
 go_loopg [5] nf (fun n v wx=>∃k:Nat,v=.int .i64 (k:Int)/\Hid (k+n=nf)/\∃m,wx=w.drewN m)
 case atStart=>exact⟨0,rfl,by unfold Hid;omega,0,rfl⟩
 case round=>
  obtain⟨k,rfl,HK,m,rfl⟩:=hrel
  obtain⟨gj,EQ⟩:∃m,m=gk:=⟨gk,rfl⟩
  subst EQ
  have eh:=HK.out
  by_cases hk:k<nf
  ·obtain⟨b,rfl,e0⟩:=H1.out k hk
   obtain⟨b',rfl,g0⟩:=H2.out k hk
   generalize fc k=t0 at *
   have HM:Hid (gj-1<gj):=by unfold Hid;omega
   clear eh
   go_wp2
   go_quiet (fail)
   go_wp2
   go_roundg (gj-1)
   case measure=>exact HM.out
   case rel=>exact⟨k+1,by go_num,(by have:=HK.out;unfold Hid;omega),by first | exact⟨_,rfl⟩ | exact⟨_,World.drewN_drewN ..⟩⟩
  ·clear eh
   go_wp2
   go_ret
   exact⟨rfl,m,rfl⟩
theorem BB {w:World}{v1 v2:Value}{B:Bool}{T F:Int}{nt nf:Nat}{tc fc:Nat->Int}(h1:ZZ w v1 B T F nt nf tc fc)(h2:ZZ w v2 B T F nt nf tc fc):
  Calls Tryz.prog 35 #[v1,v2] w fun e w'=>e=.returned (.bool true)/\aa (fun _=>False) w w':=by
 obtain⟨tp,tk,fp,fk,rfl,ju,pA⟩:=h1.ex
 obtain⟨Ug,QV,RN,Uz,rfl,EZ,Gy⟩:=h2.ex
 obtain⟨hnt,Ni⟩:=h1.le
 obtain⟨w2,gQ⟩:∃w2,w2=(w.alloc (.cells #[.bool B,.int .i64 T,.slice tp nt tk,.int .i64 F,.slice fp nf fk] 31)).alloc (.cells #[.bool B,.int .i64 T,.slice Ug nt QV,.int .i64 F,.slice RN nf Uz] 31):=⟨_,rfl⟩
 have dl:aa (fun _=>False) w w2:=by rw[gQ];exact((aa.refl _ w).alloc _).alloc _
 have mF:w2.heap[w.heap.size]?=some (.cells #[.bool B,.int .i64 T,.slice tp nt tk,.int .i64 F,.slice fp nf fk] 31 (0,0)):=by
  rw[gQ,Below.heap_alloc _ _ _ (by simp)];exact heap_alloc_new _ _
 have ki:w2.heap[w.heap.size+1]?=some (.cells #[.bool B,.int .i64 T,.slice Ug nt QV,.int .i64 F,.slice RN nf Uz] 31 (0,0)):=by
  rw[gQ]
  have:=heap_alloc_new (w.alloc (.cells #[.bool B,.int .i64 T,.slice tp nt tk,.int .i64 F,.slice fp nf fk] 31)) (.cells #[.bool B,.int .i64 T,.slice Ug nt QV,.int .i64 F,.slice RN nf Uz] 31)
  simpa using this
 have up:∀{b k v} (W:World),aa (fun _=>False) w W->w.cell? ⟨b,k,none⟩=some v->W.cell? ⟨b,k,none⟩=some v:=fun W hW h=>(hW.cell (p:=⟨_,_,none⟩) (av h) (fun x=>x)).trans h
 have hsn:∀W,aa (fun _=>False) w W->Calls Tryz.prog 60 #[.slice tp nt tk,.slice Ug nt QV] W fun e w'=>e=.returned (.bool true)/\∃n,w'=W.drewN n:=fun W hW=>wJ hnt (fun k hk=>by
  obtain⟨b,h3,h4⟩:=ju k hk
  exact⟨b,h3,up W hW h4⟩) (fun k hk=>by
  obtain⟨b,h3,h4⟩:=EZ k hk
  exact⟨b,h3,up W hW h4⟩)
 have hsi:∀W,aa (fun _=>False) w W->Calls Tryz.prog 61 #[.slice fp nf fk,.slice RN nf Uz] W fun e w'=>e=.returned (.bool true)/\∃n,w'=W.drewN n:=fun W hW=>zo Ni (fun k hk=>by
  obtain⟨b,h3,h4⟩:=pA k hk
  exact⟨b,h3,up W hW h4⟩) (fun k hk=>by
  obtain⟨b,h3,h4⟩:=Gy k hk
  exact⟨b,h3,up W hW h4⟩)
 obtain⟨x0,x1,x2,x3,x4⟩:=bS mF
 obtain⟨y0,y1,y2,y3,y4⟩:=bS ki
 have tK:=ae dl
 have X2:=x2
 have Y2:=y2
 rw[gQ]at X2 Y2
 clear h1 h2 ju EZ pA Gy mF ki up dl
 go_enter Tryz.func35,Tryz.ntmps35
 go_wp2_with fail
 rw[<-gQ]
 clear gQ X2 Y2
 refine(hsn _ tK.out).mono ?_
 rintro e w3 ⟨rfl,n3,rfl⟩
 go_wp2_with fail
 refine(hsi _ (tK.out.drewN n3)).mono ?_
 rintro e w4 ⟨rfl,n4,rfl⟩
 have B6:Hid (aa (fun _=>False) w (w2.drewN (n3+n4))):=tK.out.drewN (n3+n4)
 go_wp2
 go_ret
 exact⟨by simp,B6.out⟩
theorem Ea:∀m:Nat,m<256->∀i:Nat,i<8->(bits BinOp.and IntKind.i64 (m:Int) ((2^i:Nat):Int) != 0)=decide (m / 2^i%2≠0):=by decide +kernel
def oy (m:Nat)(n:Nat):Bool:=(List.range n).any (fun i=>decide (m / 2^i%2≠0))
def o6 (m:Nat)(n:Nat):Bool:=(List.range n).all (fun i=>decide (m / 2^i%2≠0))
theorem F8 (m n:Nat):oy m (n+1)=(oy m n||decide (m / 2^n%2≠0)):=by unfold oy;rw[List.range_succ,List.any_append];simp
theorem F6 (m n:Nat):o6 m (n+1)=(o6 m n&&decide (m / 2^n%2≠0)):=by unfold o6;rw[List.range_succ,List.all_append];simp
theorem wI (gb nr rc p b m r:Nat)(rp:Option Addr)(w:World)(hn:nr<=8)(hm:m<256)(hg:w.cell? ⟨gb,1,none⟩=some (.slice rp nr rc)):
  Calls Tryz.prog 31 #[.pointer (some ⟨gb,0,none⟩),.agg #[.int .i64 (p:Int),.int .i64 (b:Int),.int .i64 (m:Int),.int .i64 (r:Int)]] w fun e w'=>e=.returned (.bool (oy m nr&&decide (0<p)&&decide (0<b)))/\aa (fun _=>False) w w':=by
 have lV:=av hg
 obtain⟨w1,dZ⟩:∃w1,w1=w.alloc (.cells #[.int .i64 (p:Int),.int .i64 (b:Int),.int .i64 (m:Int),.int .i64 (r:Int)] 23):=⟨_,rfl⟩
 have K1:aa (fun _=>False) w w1:=by rw[dZ];exact(aa.refl _ w).alloc _
 have dE:w1.heap[w.heap.size]?=some (.cells #[.int .i64 (p:Int),.int .i64 (b:Int),.int .i64 (m:Int),.int .i64 (r:Int)] 23 (0,0)):=by rw[dZ];exact heap_alloc_new _ _
 obtain⟨a0,a1,a2,a3⟩:=di dE
 have g1:w1.cell? ⟨gb,1,none⟩=some (.slice rp nr rc):=(K1.cell (p:=⟨gb,1,none⟩) lV (fun x=>x)).trans hg
 clear dE
 go_enter Tryz.func31,Tryz.ntmps31
 go_wp2
 rw[<-dZ]
 clear dZ
 go_loopg [5,6,7] nr (fun n va vb vi wx=>∃k:Nat,va=.bool (oy m k)/\vb=.int .i64 ((2^k:Nat):Int)/\vi=.int .i64 (k:Int)/\Hid (k+n=nr)/\wx=w1)
 case atStart=>exact⟨0,rfl,rfl,rfl,(by unfold Hid;omega),rfl⟩
 case round=>
  obtain⟨k,rfl,rfl,rfl,HK,rfl⟩:=hrel
  obtain⟨gj,EQ⟩:∃m,m=gk:=⟨gk,rfl⟩
  subst EQ
  have eh:=HK.out
  by_cases hk:k<nr
  ·have gu:=Ea m hm k (by omega)
   have c9:=F8 m k
   have lO:2^k<=128:=by
    have:2^k<=2^7:=Nat.pow_le_pow_right (by decide) (by omega)
    simpa using this
   have SV:((2^k:Nat):Int)*2=((2^(k+1):Nat):Int):=by rw[Nat.pow_succ];push_cast;rfl
   obtain⟨P,hP⟩:∃P,P=2^k:=⟨_,rfl⟩
   rw[<-hP]at gu lO SV
   rw[<-hP]
   have HN:Hid (∀v:Bool,v=decide (m / P%2≠0)->(oy m k||v)=oy m (k+1)):=fun v hv=>by rw[c9,hv,hP]
   have PM:Hid ((P:Int)*2=((2^(k+1):Nat):Int)):=SV
   have Z1:=ae gu
   have HM:Hid (gj-1<gj):=by unfold Hid;omega
   generalize oy m k=B at *
   clear eh c9 hP SV gu
   cases B
   ·go_wp2
    go_roundg (gj-1)
    case measure=>exact HM.out
    case rel=>exact⟨k+1,by rw[<-HN.out _ Z1.out];simp,by rw[<-PM.out],by go_num,(by have:=HK.out;unfold Hid;omega),rfl⟩
   ·go_wp2
    go_roundg (gj-1)
    case measure=>exact HM.out
    case rel=>exact⟨k+1,by rw[<-HN.out _ rfl];simp,by rw[<-PM.out],by go_num,(by have:=HK.out;unfold Hid;omega),rfl⟩
  ·have ja:k=nr:=by omega
   subst ja
   clear eh
   cases hB:oy m k
   ·go_wp2
    go_ret
    exact⟨by simp[hB],K1⟩
   ·by_cases hp:0<p
    ·have zM:decide ((p:Int) > 0)=true:=decide_eq_true (by omega)
     go_wp2
     go_ret
     exact⟨by simp[hp,hB],K1⟩
    ·have zM:¬(p:Int) > 0:=by omega
     go_wp2
     go_ret
     exact⟨by simp[hp,hB],K1⟩
theorem Ib (gb nr rc p b m r ln:Nat)(rp:Option Addr)(w:World)(hn:nr<=8)(hm:m<256)(hl:ln<=60)(hg:w.cell? ⟨gb,1,none⟩=some (.slice rp nr rc)):
  Calls Tryz.prog 32 #[.pointer (some ⟨gb,0,none⟩),.agg #[.int .i64 (p:Int),.int .i64 (b:Int),.int .i64 (m:Int),.int .i64 (r:Int)],.int .i64 (ln:Int)] w fun e w'=>e=.returned (.bool (o6 m nr&&decide (p=2)&&decide (nr*(ln+1)<=b)))/\aa (fun _=>False) w w':=by
 have lV:=av hg
 obtain⟨w1,dZ⟩:∃w1,w1=w.alloc (.cells #[.int .i64 (p:Int),.int .i64 (b:Int),.int .i64 (m:Int),.int .i64 (r:Int)] 23):=⟨_,rfl⟩
 have K1:aa (fun _=>False) w w1:=by rw[dZ];exact(aa.refl _ w).alloc _
 have dE:w1.heap[w.heap.size]?=some (.cells #[.int .i64 (p:Int),.int .i64 (b:Int),.int .i64 (m:Int),.int .i64 (r:Int)] 23 (0,0)):=by rw[dZ];exact heap_alloc_new _ _
 obtain⟨a0,a1,a2,a3⟩:=di dE
 have g1:w1.cell? ⟨gb,1,none⟩=some (.slice rp nr rc):=(K1.cell (p:=⟨gb,1,none⟩) lV (fun x=>x)).trans hg
 clear dE
 go_enter Tryz.func32,Tryz.ntmps32
 go_wp2
 rw[<-dZ]
 clear dZ
 go_loopg [7,8,9] nr (fun n va vb vi wx=>∃k:Nat,va=.bool (o6 m k)/\vb=.int .i64 ((2^k:Nat):Int)/\vi=.int .i64 (k:Int)/\Hid (k+n=nr)/\wx=w1)
 case atStart=>exact⟨0,rfl,rfl,rfl,(by unfold Hid;omega),rfl⟩
 case round=>
  obtain⟨k,rfl,rfl,rfl,HK,rfl⟩:=hrel
  obtain⟨gj,EQ⟩:∃m,m=gk:=⟨gk,rfl⟩
  subst EQ
  have eh:=HK.out
  by_cases hk:k<nr
  ·have gu:=Ea m hm k (by omega)
   have c9:=F6 m k
   have lO:2^k<=128:=by
    have:2^k<=2^7:=Nat.pow_le_pow_right (by decide) (by omega)
    simpa using this
   have SV:((2^k:Nat):Int)*2=((2^(k+1):Nat):Int):=by rw[Nat.pow_succ];push_cast;rfl
   obtain⟨P,hP⟩:∃P,P=2^k:=⟨_,rfl⟩
   rw[<-hP]at gu lO SV
   rw[<-hP]
   have HN:Hid (∀v:Bool,v=decide (m / P%2≠0)->(o6 m k&&v)=o6 m (k+1)):=fun v hv=>by rw[c9,hv,hP]
   have PM:Hid ((P:Int)*2=((2^(k+1):Nat):Int)):=SV
   have Z1:=ae gu
   have HM:Hid (gj-1<gj):=by unfold Hid;omega
   generalize o6 m k=B at *
   clear eh c9 hP SV gu
   cases B
   ·go_wp2
    go_roundg (gj-1)
    case measure=>exact HM.out
    case rel=>exact⟨k+1,by rw[<-HN.out _ rfl];simp,by rw[<-PM.out],by go_num,(by have:=HK.out;unfold Hid;omega),rfl⟩
   ·go_wp2
    go_roundg (gj-1)
    case measure=>exact HM.out
    case rel=>exact⟨k+1,by rw[<-HN.out _ Z1.out];simp,by rw[<-PM.out],by go_num,(by have:=HK.out;unfold Hid;omega),rfl⟩
  ·have ja:k=nr:=by omega
   subst ja
   clear eh
   obtain⟨q,hq⟩:∃q,q=k*(ln+1):=⟨_,rfl⟩
   have ZI:((k:Nat):Int)*((ln:Int)+1)=(q:Int):=by rw[hq];push_cast;rfl
   have ZH:q<=5000:=by rw[hq];exact Nat.le_trans (Nat.mul_le_mul hn (show ln+1<=61 by omega)) (by decide)
   have HQ:=ae hq
   clear hq
   cases hB:o6 m k
   ·go_wp2
    go_quiet (fail)
    go_wp2
    go_ret
    exact⟨by simp[hB],K1.drewN _⟩
   ·by_cases hp:p=2
    ·have zM:((p:Int) == 2)=true:=by simp;omega
     go_wp2
     go_quiet (fail)
     go_wp2
     go_ret
     exact⟨by simp[hp,hB,<-HQ.out],K1.drewN _⟩
    ·have zM:((p:Int) == 2)=false:=by simp;omega
     go_wp2
     go_quiet (fail)
     go_wp2
     go_ret
     exact⟨by simp[hp,hB],K1.drewN _⟩
end Go.Proofs.YtagklnaaoclmhaaGreatDoor
namespace Go.Proofs.YtagklnaaoclmhaaGreatDoor
open Go.RowKit
attribute [local go_sem ↓] bU bB bF bD cC bT bV
attribute [local go_sem] bG bp bu bi bX bJ bK bx bf aK au aN
theorem oY.known {w:World}{cb N k:Nat}{c:Nat->Option Cl}(h:oY w cb N c)(hk:k<N):w.cell? ⟨cb,k*46,none⟩=some (.bool (c k).isSome):=by
 have h':w.heap[cb]?=_:=h
 simp only[World.cell?,h']
 have hl:=m8 c N
 have h1:(kp c N)[k*46]?=(kp c N).toList[k*46]?:=by simp
 rw[h1,kU c hk,List.getElem?_append_right (by rw[mo];exact Nat.le_refl _),mo,Nat.sub_self]
 rw[List.getElem?_append_left (by rw[dv];decide)]
 cases c k <;> rfl
theorem iZ (x:Option Cl):kB (cO x).toArray=true:=by
 cases x with
 | none=>simp[cO,jS,kB,Value.oneCell']
 | some x=>simp[cO,jS,kB,Value.oneCell']
theorem tB {c:Array Value}{vs:List Value}(h:c.size=vs.length):zl c 0 vs=vs.toArray:=by
 unfold zl
 rw[List.take_zero,List.nil_append,Nat.zero_add,List.drop_eq_nil_of_le (by simp;omega),List.append_nil]
section
variable (ρ:Operand->Value) (d:Option Nat) (x y z:Operand) (ty:TypeId) (pos:String) (af:Array Edge) (gd:Option (Nat × Bool)) (W:World)
def o9 (P:Program)(parts:List (Nat × Value))(W:World):Result Next:=
 match P.built 121 parts with
 | some c=>.ok (.value (.agg c)) W
 | none=>(do pure (.value (<-Instr.build 121 parts.toArray)):Sem Next).run P W
theorem cg (parts:Array (Nat × Operand)):(execOp ρ { dst:=d,op:=.build 121 parts,type:=ty,pos:=pos,after:=af,guard:=gd }).run Tryz.prog W=o9 Tryz.prog (parts.toList.map fun p=>(p.1,ρ p.2)) W:=by
 have e:(execOp ρ { dst:=d,op:=.build 121 parts,type:=ty,pos:=pos,after:=af,guard:=gd }).run Tryz.prog W=(do pure (.value (<-Instr.build 121 (parts.map fun(i,x)=>(i,ρ x)))):Sem Next).run Tryz.prog W:=rfl
 have e2:(parts.map fun(i,x)=>(i,ρ x))=(parts.toList.map fun p=>(p.1,ρ p.2)).toArray:=by
  apply Array.ext';simp
 rw[e,e2]
 unfold o9
 split
 ·next c hc=>
  have:=run_build (P:=Tryz.prog) W 121 (parts.toList.map fun p=>(p.1,ρ p.2)).toArray c (by simpa using hc)
  simp only[Sem.run_bind,this,Result.andThen_ok,Sem.run_pure]
 ·rfl
theorem cA (ok:Bool)(t:Nat)(f:Int)(m rn:Nat):o9 Tryz.prog [(0,.bool true),(1,.bool ok),(2,.int .i64 (t:Int)),(3,.int .i64 f),(4,.agg (jF m)),(5,.int .i64 (rn:Int))] W=.ok (.value (.agg (cO (some ⟨ok,t,(f,m),rn⟩)).toArray)) W:=by
 have h:Tryz.prog.built 121 [(0,.bool true),(1,.bool ok),(2,.int .i64 (t:Int)),(3,.int .i64 f),(4,.agg (jF m)),(5,.int .i64 (rn:Int))]=some (cO (some ⟨ok,t,(f,m),rn⟩)).toArray:=by kernel_rfl
 unfold o9;rw[h]
def iX (P:Program)(parts:List (Nat × Value))(W:World):Result Next:=
 match P.built 185 parts with
 | some c=>.ok (.value (.agg c)) W
 | none=>(do pure (.value (<-Instr.build 185 parts.toArray)):Sem Next).run P W
theorem bN (parts:Array (Nat × Operand)):(execOp ρ { dst:=d,op:=.build 185 parts,type:=ty,pos:=pos,after:=af,guard:=gd }).run Tryz.prog W=iX Tryz.prog (parts.toList.map fun p=>(p.1,ρ p.2)) W:=by
 have e:(execOp ρ { dst:=d,op:=.build 185 parts,type:=ty,pos:=pos,after:=af,guard:=gd }).run Tryz.prog W=(do pure (.value (<-Instr.build 185 (parts.map fun(i,x)=>(i,ρ x)))):Sem Next).run Tryz.prog W:=rfl
 have e2:(parts.map fun(i,x)=>(i,ρ x))=(parts.toList.map fun p=>(p.1,ρ p.2)).toArray:=by
  apply Array.ext';simp
 rw[e,e2]
 unfold iX
 split
 ·next c hc=>
  have:=run_build (P:=Tryz.prog) W 185 (parts.toList.map fun p=>(p.1,ρ p.2)).toArray c (by simpa using hc)
  simp only[Sem.run_bind,this,Result.andThen_ok,Sem.run_pure]
 ·rfl
theorem b9:iX Tryz.prog [(0,.int .i64 (-1)),(2,.int .i64 1)] W=.ok (.value (.agg (vj (-1,0) 1))) W:=by
 have h:Tryz.prog.built 185 [(0,.int .i64 (-1)),(2,.int .i64 1)]=some (vj (-1,0) 1):=by kernel_rfl
 unfold iX;rw[h]
theorem cd:iX Tryz.prog [] W=.ok (.value (.agg (vj (0,0) 0))) W:=by
 have h:Tryz.prog.built 185 []=some (vj (0,0) 0):=by kernel_rfl
 unfold iX;rw[h]
end
theorem DS (fb gb:Nat)(s:ByteArray)(cb N:Nat)(tv:Value)(c:Nat->Option Cl)(n a k:Nat)(x:Cl)(w:World)(hF:rW w fb gb s cb N tv)(hC:oY w cb N c)(hs:s.size<=60)(hn:n<=8)(ha:a<=60)(hk:n*(s.size+1)+a=k)(Nf:k<N)(hN:N<=5000)(hx:c k=some x):
  Calls Tryz.prog 58 #[.pointer (some ⟨fb,0,none⟩),.int .i64 (n:Int),.int .i64 (a:Int)] w fun e w'=>e=.returned (.agg (cO (some x)).toArray)/\aa (fun _=>False) w w':=by
 obtain⟨f0,f1,f2,f3⟩:=di hF.at_
 have mz:=av f0
 have c0:=hC.known Nf
 rw[hx]at c0
 have ri:=av c0
 have og:ai w cb=some (.cells (kp c N) 121 (0,0)):=hC
 have gh:=m8 c N
 have hg:=Ac c Nf
 rw[hx]at hg
 have nj:k*46+46<=(kp c N).size:=by rw[gh];omega
 have hz:=kJ
 have hl:=dv (some x)
 have ho:=iZ (some x)
 have hki:((n:Nat):Int)*((s.size:Int)+1)+(a:Int)=(k:Int):=by rw[<-hk];push_cast;rfl
 obtain⟨q,hq⟩:∃q,q=n*(s.size+1):=⟨_,rfl⟩
 have ZI:((n:Nat):Int)*((s.size:Int)+1)=(q:Int):=by rw[hq];push_cast;rfl
 have hqk:(q:Int)+(a:Int)=(k:Int):=by rw[hq];omega
 have ZH:q<=5000:=by omega
 rw[gh]at nj
 clear hki hq hk hx hC hF
 go_enter Tryz.func58,Tryz.ntmps58
 go_wp2
 have hb:((w.alloc (.cells xW 121)).setCells w.heap.size 0 (cO (some x))).heap[w.heap.size]?=some (.cells (cO (some x)).toArray 121 (0,0)):=by
  rw[eu w.heap.size (cO (some x)) 0 _ xW 121 (heap_alloc_new _ _) (by rw[hl,hz];decide),tB (by rw[hz,hl])]
 refine bodyPost_ret (results_cell_row (p:=6) (ty:=121) Tryz.results58 _ _ w.heap.size 121 _ _ _ (by simp) hb Tryz.underlying121 rfl (by rw[u6];simp[dv])) rfl ⟨rfl,?_⟩
 exact((aa.refl (fun _=>False) w).alloc _).then (dR _ _ _ _) (fun i hi e=>by have e':i=w.heap.size:=e;omega)
end Go.Proofs.YtagklnaaoclmhaaGreatDoor
