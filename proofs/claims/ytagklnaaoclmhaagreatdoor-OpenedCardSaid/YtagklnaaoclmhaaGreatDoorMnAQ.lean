import Derived.Test.YtagklnaaoclmhaaGreatDoorMnAP
set_option linter.unusedSimpArgs false
set_option linter.unusedVariables false
set_option maxRecDepth 100000
set_option maxHeartbeats 16000000
namespace Go.Proofs.YtagklnaaoclmhaaGreatDoor
open Go.RowKit
theorem Fa (l:List (Option Int))(q:Nat)(h:q<l.length):(yX l)[q*2]?=some (.bool l[q].isSome)/\(yX l)[q*2+1]?=some (.int .i64 (l[q].getD 0)):=by
 have hf:∀a:Option Int,(TI a).length=2:=fun a=>by cases a <;> rfl
 have h0:=ep TI 2 hf l q 0 (by omega) h
 have h1:=ep TI 2 hf l q 1 (by omega) h
 unfold yX
 rw[List.getElem?_toArray,List.getElem?_toArray]
 rw[Nat.add_zero]at h0
 rw[h0,h1]
 cases l[q] <;> exact⟨rfl,rfl⟩
theorem OX (l:List (Option Int))(q:Nat)(t:Int)(h:q<l.length):((yX l).setIfInBounds (q*2) (.bool true)).setIfInBounds (q*2+1) (.int .i64 t)=yX (l.set q (some t)):=by
 unfold yX
 rw[List.setIfInBounds_toArray,List.setIfInBounds_toArray]
 congr 1
 induction l generalizing q with
 | nil=>simp at h
 | cons x l ih=>
  cases q with
  | zero=>cases x <;> simp[TI]
  | succ q=>
   have:=ih q (by simpa using h)
   rw[List.set_cons_succ,List.flatMap_cons,List.flatMap_cons,<-this]
   have hx:(TI x).length=2:=by cases x <;> rfl
   rw[List.set_append_right _ _ (by rw[hx];omega),List.set_append_right _ _ (by rw[hx];omega),hx]
   congr 3 <;> omega
theorem NT {I:Wi}(hI:Ic I){f:Nat}(hS:lA I f)(i a:Nat)(t:Int)(s s':Wt)(mv:Value)(w:World)(ha:a<=I.K.len)(hi:zQ I i)(hk:(ap I.K.ns i).kind=4)(h:cQ I mv s w)(hr:Mu I.K (fun j s=>wM I.K f j a s) i a s=some (t,s')):
  Calls Tryz.prog 191 #[aw I.wk,aO I.P i,.int .i64 (a:Int)] w fun e w'=>lB I mv t s' w e w':=by
 have Da:=hI.l60
 have eI:=hI.len
 have hp:=h.part hi.1
 have UL:=hI.br i hi.1 (hi.2 hk)
 obtain⟨iB,Zz⟩:=List.getElem?_eq_some_iff.1 UL
 have wm:=(h.brk.2.num (I.K.br i) iB).2
 rw[Zz]at wm
 have Zv:I.L.length<=5000:=by have:=h.brk.2.len;have:=h.gm.ar.len;have:=hI.nsl;omega
 obtain⟨z,vR,vP,hb,_,_,_,ke,_⟩:=hp
 have c6:w.cell? ⟨I.P.getD i 0,6,none⟩=some vP:=by simp only[World.cell?,hb];rfl
 have sn:=ag (show ai w (I.P.getD i 0)=_ from hb)
 have EY:∀j∈(ap I.K.ns i).subs,zQ I j:=by
  intro j hj
  have ew:=(be hI.wf.wf hi.1).low j hj
  have Ci:=hi.1
  refine⟨by omega,fun h4=>?_⟩
  have:=h.brk.2.sub i hi.1 j (by rw[bA hi.1]at hj;exact hj)
  exact this h4
 have kP:=ys h.gm i hi.1
 have dH:=fun t1 s1 hc=>oB hI hS I.bg a vP (ap I.K.ns i).subs t1 s s1 mv w ha ke EY kP h hc
 obtain⟨x,hx⟩:∃x,x=I.K.br i*(I.inp.size+1):=⟨_,rfl⟩
 have Yr:Cp I.K i a=x+a:=by unfold Cp;rw[eI,hx]
 have uz:x+a<s.kn.length:=by
  rw[h.knl,eI,hx]
  have h1:(I.K.br i+1)*(I.inp.size+1)<=I.L.length*(I.inp.size+1):=Nat.mul_le_mul_right _ iB
  have h2:(I.K.br i+1)*(I.inp.size+1)=I.K.br i*(I.inp.size+1)+(I.inp.size+1):=Nat.succ_mul _ _
  omega
 have XC:s.kn.length<=305000:=by
  rw[h.knl,eI]
  exact Nat.le_trans (Nat.mul_le_mul Zv (show I.inp.size+1<=61 by omega)) (by decide)
 have hxi:((I.K.br i:Nat):Int)*((I.inp.size:Int)+1)=(x:Int):=by rw[hx];push_cast;rfl
 obtain⟨k0,k1⟩:=Fa s.kn (x+a) uz
 have e0:w.cell? ⟨I.kb,(x+a)*2,none⟩=some (.bool (s.kn[x+a]).isSome):=by simp only[World.cell?,h.kn];exact k0
 have e1:w.cell? ⟨I.kb,(x+a)*2+1,none⟩=some (.int .i64 ((s.kn[x+a]).getD 0)):=by simp only[World.cell?,h.kn];exact k1
 have fK:s.kn.getD (Cp I.K i a) none=s.kn[x+a]:=by rw[Yr,List.getD_eq_getElem?_getD,List.getElem?_eq_getElem uz];rfl
 have c8:w.cell? ⟨I.wk,8,none⟩=some (.slice (some ⟨I.kb,0,none⟩) s.kn.length s.kn.length):=by simp only[World.cell?,h.blk];rfl
 obtain⟨_,_,c2,c3,_,_,_,_,_⟩:=h.cells
 unfold Mu at hr
 rw[fK]at hr
 unfold aw aO at *
 have HX:=ae hx
 clear hx UL Zz
 generalize lX:I.P.getD i 0=pq at *
 generalize I.K.br i=br at *
 cases eh:s.kn[x+a] with
 | some t1=>
  rw[eh]at hr e0 e1
  simp only[Option.some.injEq,Prod.mk.injEq]at hr
  obtain⟨rfl,rfl⟩:=hr
  simp only[Option.isSome_some,Option.getD_some]at e0 e1
  clear eh fK k0 k1 lX
  go_enter Tryz.func191,Tryz.ntmps191
  go_wp2
  go_quiet (fail)
  go_wp2
  go_ret
  exact⟨rfl,mv,h.drewN hI _,Fr.new ((aa.refl _ w).drewN _)⟩
 | none=>
  rw[eh]at hr e0 e1
  simp only at hr
  simp only[Option.isSome_none,Option.getD_none]at e0 e1
  have Sv:s.kn.getD (Cp I.K i a) none=none:=fK.trans eh
  cases hc:nJ (fun j s=>wM I.K f j a s) (ap I.K.ns i).subs s with
  | none=>rw[hc]at hr;cases hr
  | some y=>
   obtain⟨t1,s1⟩:=y
   rw[hc]at hr
   simp only[Option.some.injEq,Prod.mk.injEq]at hr
   have hC:=dH t1 s1 hc
   obtain⟨pp,cap,E2⟩:=an ke
   subst E2
   have fV:=qk (fun j s t s' hs hx=>(jC f j a s t s' ha hs hx).1) _ _ _ _ h.sane hc
   have qcc:s1.kn.length=s.kn.length:=fV.knl
   have sQ:s.cnt<=40001/\s1.cnt<=40001:=by
    have:=h.sane.cnt;have:=fV.sane.cnt;have:=hI.most
    omega
   obtain⟨HR1,HR2⟩:Hid (t1=t)/\Hid ((if s1.cnt=s.cnt then { s1 with kn:=s1.kn.set (Cp I.K i a) (some t1) } else s1)=s'):=⟨hr.1,hr.2⟩
   clear hr dH eh fK k0 k1 lX
   have hC':=fun n=>(show Calls Tryz.prog 150 #[Value.pointer (some ⟨I.wk,0,none⟩),Value.int IntKind.i64 (a:Int),Value.slice pp (ap I.K.ns i).subs.length cap] (w.drewN n) fun e w'=>lB I mv t1 s1 w e w' from by
    have hd:=h.drewN hI n
    have:=oB hI hS I.bg a (Value.slice pp (ap I.K.ns i).subs.length cap) (ap I.K.ns i).subs t1 s s1 mv (w.drewN n) ha ke EY kP hd hc
    refine this.mono ?_
    rintro e w' ⟨h1,mv',h2,h3⟩
    exact⟨h1,mv',h2,(Fr.new ((aa.refl _ w).drewN n)).trans h3⟩)
   go_enter Tryz.func191,Tryz.ntmps191
   go_wp2
   go_quiet (fail)
   go_wp2_with fail
   refine(hC' _).mono ?_
   rintro e w2 ⟨rfl,ss,h2,sG⟩
   obtain⟨_,_,_,d3,_,_,_,_,_⟩:=h2.cells
   by_cases fS:s1.cnt=s.cnt
   ·have q:((s1.cnt:Int) == (s.cnt:Int))=true:=by simp[fS]
    have rX:=HR2.out
    rw[if_pos fS,Yr]at rX
    obtain⟨j0,j1⟩:=Fa s1.kn (x+a) (by omega)
    have g0:∃v,w2.cell? ⟨I.kb,(x+a)*2,none⟩=some v:=⟨_,by simp only[World.cell?,h2.kn];exact j0⟩
    have g1:∃v,w2.cell? ⟨I.kb,(x+a)*2+1,none⟩=some v:=⟨_,by simp only[World.cell?,h2.kn];exact j1⟩
    obtain⟨v0,g0⟩:=g0
    obtain⟨v1,g1⟩:=g1
    have P6:w2.frozen? ⟨I.kb,(x+a)*2,none⟩=false:=by simp[World.frozen?,h2.kn]
    have P8:w2.frozen? ⟨I.kb,(x+a)*2+1,none⟩=false:=by simp[World.frozen?,h2.kn]
    have hW:cQ I ss s' ((w2.setCell ⟨I.kb,(x+a)*2,none⟩ (.bool true)).setCell ⟨I.kb,(x+a)*2+1,none⟩ (.int .i64 t1))/\Fr I.b0 ss.ownBlock ss.ownBlock w2 ((w2.setCell ⟨I.kb,(x+a)*2,none⟩ (.bool true)).setCell ⟨I.kb,(x+a)*2+1,none⟩ (.int .i64 t1)):=by
     have ja:aa (·=I.kb) w2 ((w2.setCell ⟨I.kb,(x+a)*2,none⟩ (.bool true)).setCell ⟨I.kb,(x+a)*2+1,none⟩ (.int .i64 t1)):=((aa.refl (·=I.kb) w2).setCell (p:=⟨I.kb,(x+a)*2,none⟩) (fun _=>rfl) _).setCell (p:=⟨I.kb,(x+a)*2+1,none⟩) (fun _=>rfl) _
     have Oe:Fr I.b0 ss.ownBlock ss.ownBlock w2 _:=Fr.of ja (fun k _ e=>by
      have e':k=I.kb:=e
      subst e'
      refine⟨hI.low.2,fun c t f hc=>?_⟩
      rw[h2.kn]at hc;simp at hc
      exact .inl (.inr (.inl hc.2.1.symm)))
     have Ck:I.wk≠I.kb:=fun e=>by
      have:=h2.kn
      rw[<-e,h2.blk]at this;simp at this
     obtain⟨MB,m1,m2⟩:=h2.mt
     refine⟨h2.turn ja Oe (fun j e=>?_) ?_ (by rw[<-rX]) ⟨MB,aC m1 ja (fun q hq e=>?_),?_⟩ ?_ ?_ (by rw[<-rX];simp) (by rw[<-rX];exact h2.far1) (by rw[<-rX];exact h2.far2),Oe⟩
     ·have e':j=I.kb:=e
      subst e'
      exact⟨_,_,h2.kn,by decide,by decide,by decide,by decide,by decide⟩
     ·rw[ja.block I.wk (ag (show ai w2 I.wk=_ from h2.blk)) Ck,h2.blk,<-rX]
      simp
     ·have e':q=I.kb:=e
      obtain⟨cc,hc⟩:=ak m1 hq
      rw[e',show ai w2 I.kb=_ from h2.kn]at hc
      simp at hc
     ·rw[<-rX]
      exact m2.mono (fun a b _ hr=>hr.fr Oe)
     ·rw[aj (aj h2.kn _ _) _ _,OX s1.kn (x+a) t1 (by omega),<-rX]
     ·have qaE:=zv (fun j s t s' hs hx=>(jC f j a s t s' ha hs hx).1) h.sane (i:=i) (a:=a) (t:=t) (s':=s') (by
       unfold Mu
       rw[Sv,hc]
       simp only[Option.some.injEq,Prod.mk.injEq]
       exact⟨HR1.out,HR2.out⟩)
      exact qaE.sane
    go_wp2
    go_ret
    rw[<-HR1.out]
    exact⟨rfl,ss,hW.1,sG.trans hW.2⟩
   ·have q:((s1.cnt:Int) == (s.cnt:Int))=false:=by simp;omega
    have rX:=HR2.out
    rw[if_neg fS]at rX
    subst rX
    go_wp2
    go_ret
    rw[<-HR1.out]
    exact⟨rfl,ss,h2,sG⟩
theorem E6:(Tryz.prog.info? 147).map (fun i=>(i.zero,i.size,i.bytes))=some (some (.pointer none),1,8):=by kernel_rfl
theorem CI (w:World):Calls Tryz.prog 151 #[.slice none 0 0] w fun e w'=>e=.returned (.slice none 0 0)/\w'=w:=by
 have q:∀(w:World) (a:Option Addr) (n c n' c':Nat),(binOp .eql 157 (.slice a n c) (.slice none n' c')).run Tryz.prog w=.ok (.bool a.isNone) w:=fun w a n c n' c'=>Lib.run_eql_slice_nil w _ _ a n c n' c' Tryz.underlying157
 go_enter Tryz.func151,Tryz.ntmps151
 go_wp2
 go_ret
 exact⟨rfl,rfl⟩
theorem tZ (g o c:Nat)(IB:List Nat)(w:World)(hg:g<w.heap.size)(hc:∀j (h:j<IB.length),w.cell? ⟨g,o+j,none⟩=some (aw IB[j]))(hl:IB.length<=50000):
  Calls Tryz.prog 151 #[.slice (some ⟨g,o,none⟩) IB.length c] w fun e w'=>∃v,e=.returned v/\zO w' (some g) v IB/\aa (fun _=>False) w w':=by
 have q:∀(w:World) (a:Option Addr) (n c n' c':Nat),(binOp .eql 157 (.slice a n c) (.slice none n' c')).run Tryz.prog w=.ok (.bool a.isNone) w:=fun w a n c n' c'=>Lib.run_eql_slice_nil w _ _ a n c n' c' Tryz.underlying157
 obtain⟨i0,iC,gH,iD,iz⟩:=info_parts E6
 rcases Nat.eq_zero_or_pos IB.length with h0 | h0
 ·have hn:IB=[]:=List.eq_nil_of_length_eq_zero h0
  subst hn
  go_enter Tryz.func151,Tryz.ntmps151
  go_wp2
  go_ret
  exact⟨_,rfl,⟨some ⟨w.heap.size,0,none⟩,0,rfl,.inl rfl⟩,(aa.refl _ w).alloc _⟩
 ·have bW:(w.alloc (.cells #[] 147)).ownsRow w.heap.size 147 1 (.slice (some ⟨w.heap.size,0,none⟩) 0 0) 0 []:=⟨rfl,.inr ⟨w.heap.size,0,#[],rfl,Nat.le_refl _,heap_alloc_new _ _,Nat.le_refl _,by decide,rfl,rfl⟩⟩
  have kw:∀j u,(IB.map aw)[j]?=some u->(w.alloc (.cells #[] 147)).cell? ((⟨g,o,none⟩:Addr).add j)=some u:=by
   intro j u hu
   have vY:(⟨g,o,none⟩:Addr).add j=⟨g,o+j,none⟩:=by unfold Addr.add;split <;> simp_all
   rw[List.getElem?_map]at hu
   cases hj:IB[j]? with
   | none=>rw[hj]at hu;cases hu
   | some b=>
    obtain⟨C8,hjb⟩:=List.getElem?_eq_some_iff.1 hj
    rw[hj]at hu
    simp only[Option.map_some,Option.some.injEq]at hu
    rw[vY,<-hu,<-hjb,<-hc j C8]
    simp only[World.cell?,Below.heap_alloc _ _ _ hg]
  go_enter Tryz.func151,Tryz.ntmps151
  go_wp2_with (at_builtin;refine wpList_append_lies _ rfl _ _ _ rfl w.heap.size 147 i0 _ 1 8 Tryz.underlying157 iC gH iD iz rfl (by omega) (.slice (some ⟨w.heap.size,0,none⟩) 0 0) 0 [] (by rfl) bW ⟨g,o,none⟩ IB.length c (IB.map aw) (by rfl) (by simp) kw (by simp[Value.oneCell',aw]) h0 (by simp[maxLen];omega) (by omega) (by simp) (w.heap.size+1) (by simp) ?_;intro gg cap w9 hown9 hgrow dA bj)
  go_wp2
  go_ret
  have tl:aa (fun k=>(Value.slice (some ⟨w.heap.size,0,none⟩) 0 0).ownBlock=some k) (w.alloc (.cells #[] 147)) w9:=(aa.refl _ _).grown hgrow (fun k hk _=>hk)
  have qaP:w.heap.size<=gg:=by
   rcases dA with h | h
   ·have:w.heap.size=gg:=Option.some.inj h
    omega
   ·omega
  refine⟨_,rfl,⟨some ⟨gg,0,none⟩,cap,rfl,.inr ?_⟩,?_⟩
  ·rcases hown9.2 with⟨e1,_⟩ | ⟨g2,iH,gz,e1,e2,e3,e4,e5,e6,e7⟩
   ·cases e1
   ·have e1':gg=g2:=by
     have:=Value.slice.inj e1
     have:=Option.some.inj this.1
     exact congrArg Addr.block this
    subst e1'
    refine⟨gg,gz,rfl,fun e=>by have:=Option.some.inj e;omega,e3,fun i hi=>?_⟩
    have UT:i<(IB.map aw).length:=by simpa using hi
    have e8:(gz.toList.take ((0+IB.length)*1))[i]?=([]++IB.map aw)[i]?:=by rw[e7]
    rw[List.nil_append,List.getElem?_take_of_lt (by omega),List.getElem?_eq_getElem UT]at e8
    simpa using e8
  ·refine⟨tl.os,tl.tape,tl.output,by have:=tl.size;simp at this;omega,fun k hk _=>?_⟩
   rw[tl.block k (by simp;omega) (fun e=>by
    have:w.heap.size=k:=Option.some.inj e
    omega)]
   exact Below.heap_alloc _ _ _ hk
theorem cQ.same {I:Wi}(hI:Ic I){mv:Value}{s:Wt}{w w':World}(h:cQ I mv s w)(hk:aa (fun _=>False) w w'):cQ I mv s w':=
 h.nums hI (hk.mono (fun _ _ x=>x.elim)) (by rw[hk.block I.wk (ag (show ai w I.wk=_ from h.blk)) (fun x=>x)];exact h.blk) rfl rfl rfl h.sane h.far1 h.far2
theorem zO.fr {b0:Nat}{m m' m0:Option Nat}{w w':World}(hf:Fr b0 m m' w w'){v:Value}{IB:List Nat}(h:zO w m0 v IB)(hm:m0=m)(rt:∀j,m'=some j->m0=some j):zO w' m' v IB:=by
 obtain⟨p,c,hv,hr⟩:=h
 refine⟨p,c,hv,?_⟩
 rcases hr with e | ⟨g,gz,e1,e2,e3,e4⟩
 ·exact .inl e
 ·refine .inr ⟨g,gz,e1,fun e=>e2 (rt g e),?_,e4⟩
  rw[hf.kept.block g (ag (show ai w g=_ from e3)) (fun hw=>?_)]
  ·exact e3
  ·rcases hw.ty e3 with h1 | ⟨_,h2⟩
   ·rcases h1 with h1 | h1 | h1 | h1 | h1 | h1 | h1 <;> exact absurd h1 (by decide)
   ·exact e2 (by rw[hm];exact h2)
structure D4 (I:Wi)(mv:Value)(r:Rs)(s':Wt)(w:World)(e:Ending)(w':World):Prop where
 ex:∃rb mv',e=.returned (aw rb)/\fw w' mv'.ownBlock rb r/\cQ I mv' s' w'/\Fr I.b0 mv.ownBlock mv'.ownBlock w w'
theorem NW {I:Wi}(hI:Ic I){f:Nat}(hS:lA I f)(rule a:Nat)(t:Int)(s s1:Wt)(mv:Value)(w:World)(ha:a<=I.K.len)(rz:rule<I.K.rs.length)(h:cQ I mv s w)(hm:s.cnt<=I.K.most)(hc:nJ (fun j s=>wM I.K f j a s) (ap I.K.ns (cL I.K.rs rule)).subs (j8 s s.mem)=some (t,s1)):
  Calls Tryz.prog 104 #[aw I.wk,.int .i64 (rule:Int),.int .i64 (a:Int)] w fun e w'=>D4 I mv (jJ rule a s t s1) { s1 with mt:=s1.mt.take s.mt.length } w e w':=by
 obtain⟨c0,_,_,c3,c4,c5,g0,_,_⟩:=h.cells
 have f3:=h.frz 3
 have f4:=h.frz 4
 have XM:=hI.most
 have xu:=h.sane
 have sQ:s.cnt<=20000:=by omega
 have Xe:s.dn<=20000:=by have:=h.sane.dn;omega
 obtain⟨rg,wH,dU,_,_,r2⟩:=kD h.gm.own rz
 have uw:I.K.rs[rule].is=cL I.K.rs rule:=by unfold cL;simp[List.getD_eq_getElem?_getD,rz]
 rw[uw]at r2
 have Ol:cL I.K.rs rule<I.K.ns.length:=by rw[<-uw];exact hI.wf.is _ (List.getElem_mem rz)
 obtain⟨zg,mA⟩:=h.gm.gram
 have gb0:w.cell? ⟨I.gb,0,none⟩=some I.rv:=by simp only[World.cell?,mA];rfl
 have hp:=h.part Ol
 obtain⟨z,vR,vP,hb,_,_,_,ke,_⟩:=hp
 have p6:w.cell? ⟨I.P.getD (cL I.K.rs rule) 0,6,none⟩=some vP:=by simp only[World.cell?,hb];rfl
 have sn:=ag (show ai w (I.P.getD (cL I.K.rs rule) 0)=_ from hb)
 have EY:∀j∈(ap I.K.ns (cL I.K.rs rule)).subs,zQ I j:=by
  intro j hj
  have ew:=(be hI.wf.wf Ol).low j hj
  refine⟨by omega,fun h4=>?_⟩
  have:=h.brk.2.sub _ Ol j (by rw[bA Ol]at hj;exact hj)
  exact this h4
 have kP:=ys h.gm _ Ol
 obtain⟨MB,N2,N4⟩:=h.mt
 obtain⟨p0,oV,tq⟩:=an N2
 have wl:MB.length=s.mt.length:=N4.len
 rw[wl]at tq
 have Oz:s.mt.length<=20000:=by have:=h.sane.mtl;omega
 have hB:cQ I mv (j8 s s.mem) ((w.setCell ⟨I.wk,3,none⟩ (.int .i64 ((s.cnt:Int)+1))).setCell ⟨I.wk,4,none⟩ (.int .i64 ((s.dn:Int)+1))):=by
  refine h.nums hI (((aa.refl (·=I.wk) w).setCell (p:=⟨I.wk,3,none⟩) (fun _=>rfl) _).setCell (p:=⟨I.wk,4,none⟩) (fun _=>rfl) _) ?_ rfl rfl rfl ?_ h.far1 h.far2
  ·rw[aj (aj h.blk 3 _) 4 _]
   simp[j8]
  ·have:=xu.cnt;have:=xu.dn;have:=xu.mtl;have:=xu.hits
   exact⟨by show s.cnt+1<=_;omega,by show s.dn+1<=s.cnt+1;omega,by show s.mt.length<=s.cnt+1;omega,by show s.mem.hits<=s.cnt+1;omega,xu.ent,xu.kn⟩
 have fV:=qk (fun j s t s' hs hx=>(jC f j a s t s' ha hs hx).1) _ _ _ _ hB.sane hc
 obtain⟨pp,cap,E2⟩:=an ke
 subst E2
 have hFB:=h.wkF hI (((aa.refl (·=I.wk) w).setCell (p:=⟨I.wk,3,none⟩) (fun _=>rfl) (.int .i64 ((s.cnt:Int)+1))).setCell (p:=⟨I.wk,4,none⟩) (fun _=>rfl) (.int .i64 ((s.dn:Int)+1)))
 have dH:=fun n=>oB hI hS I.bg a (Value.slice pp (ap I.K.ns (cL I.K.rs rule)).subs.length cap) (ap I.K.ns (cL I.K.rs rule)).subs t (j8 s s.mem) s1 mv _ ha (zh (hFB.trans (Fr.new ((aa.refl _ _).drewN n))) ke) EY kP (hB.drewN hI n) hc
 have hwg:I.wk≠I.gd:=fun e=>by have:=h.gnd;rw[<-e,h.blk]at this;simp at this
 have qdh:I.wk≠I.gb:=fun e=>by rw[<-e,h.blk]at mA;simp at mA
 have hwp:I.wk≠I.P.getD (cL I.K.rs rule) 0:=fun e=>by rw[<-e,h.blk]at hb;simp[Fx]at hb
 have hwr:I.wk≠rg:=fun e=>by
  obtain⟨cc,fS⟩:=ak h.gm.own (show I.rv.ownBlock=some rg by rw[dU];rfl)
  rw[<-e,show ai w I.wk=_ from h.blk]at fS;simp at fS
 rw[dU]at gb0
 have qbH:=hI.wf.len
 unfold aw aO at *
 generalize I.P.getD (cL I.K.rs rule) 0=pq at *
 subst tq
 have HC:=ae hc
 have KW:=fV.cnt
 have qbJ:=fV.sane.cnt
 clear hc uw N2 N4 wl
 go_enter Tryz.func104,Tryz.ntmps104
 go_wp2
 go_quiet (fail)
 go_wp2_with fail
 refine(dH nq).mono ?_
 rintro e w2 ⟨rfl,ss,h2,sG⟩
 have qao:Fr I.b0 (Value.slice p0 s.mt.length oV).ownBlock ss.ownBlock w w2:=(hFB.trans (Fr.new ((aa.refl _ _).drewN nq))).trans sG
 obtain⟨l,hl⟩:=fV.pre
 have Oo:s1.mt=s.mt++l:=hl
 obtain⟨_,_,_,d3,_,d5,_,_,_⟩:=h2.cells
 obtain⟨MW,m1,m2⟩:=h2.mt
 have GD:MW.length=s1.mt.length:=m2.len
 have xj:s.mt.length<=MW.length:=by rw[GD,Oo];simp
 obtain⟨p,c,e1,e2,e3,e4,e5,e6,e7⟩:=Er m1 xj
 have A4:=ag (show ai w2 I.wk=_ from h2.blk)
 have qcZ:s1.mt.length<=50000:=by have:=h2.sane.mtl;omega
 have Yn:IntKind.i64.wrap ((s1.cnt:Int)-(s.cnt:Int))=(s1.cnt:Int)-(s.cnt:Int):=YU (by have:s.cnt+1<=s1.cnt:=KW;omega)
 unfold maxLen at e4
 have eO:∀(W3:World) (v:Value),aa (fun _=>False) w2 W3->zO W3 ss.ownBlock v (MW.drop s.mt.length)->∀n,D4 I (Value.slice p0 s.mt.length oV) (jJ rule a s t s1) { s1 with mt:=s1.mt.take s.mt.length } w (.returned (.pointer (some ⟨W3.heap.size,0,none⟩))) (((W3.alloc (.cells #[.int .i64 (rule:Int),.int .i64 (a:Int),.int .i64 t,.int .i64 ((s1.cnt:Int)-(s.cnt:Int)),v] 229)).drewN n).setCell ⟨I.wk,5,none⟩ (.slice p s.mt.length c)):=by
  intro W3 v eU fm n
  have oE:aa (fun _=>False) w2 ((W3.alloc (.cells #[.int .i64 (rule:Int),.int .i64 (a:Int),.int .i64 t,.int .i64 ((s1.cnt:Int)-(s.cnt:Int)),v] 229)).drewN n):=(eU.alloc _).drewN n
  have h4:=h2.same hI oE
  obtain⟨pp',cc',a1,a2,a3,a4,a5,a6,a7,a8⟩:=h4.cut hI (k:=s.mt.length) (by rw[Oo];simp)
  have hpc:pp'=p/\cc'=c:=by
   rw[e1]at a1
   have:=Value.slice.inj a1
   exact⟨this.1.symm,this.2.2.symm⟩
  obtain⟨rfl,rfl⟩:=hpc
  refine⟨⟨W3.heap.size,_,rfl,?_,a6,(qao.trans (Fr.new oE)).trans (by rw[a7];exact a8)⟩⟩
  rw[a7]
  have UQ:Fr I.b0 ss.ownBlock ss.ownBlock W3 _:=(Fr.new (b0:=I.b0) (m:=ss.ownBlock) (((aa.refl _ W3).alloc (.cells #[.int .i64 (rule:Int),.int .i64 (a:Int),.int .i64 t,.int .i64 ((s1.cnt:Int)-(s.cnt:Int)),v] 229)).drewN n)).trans a8
  have qaU:=fm.fr UQ rfl (fun j e=>e)
  have lE:((s1.cnt:Int)-(s.cnt:Int))=((s1.cnt-s.cnt:Nat):Int):=by
   have:s.cnt+1<=s1.cnt:=KW
   omega
  have UO:(MW.drop s.mt.length).length=(s1.mt.drop s.mt.length).length:=by rw[List.length_drop,List.length_drop,GD]
  unfold jJ
  refine .mk (v:=v) (IB:=MW.drop s.mt.length) ?_ qaU UO (fun i hi eM=>?_)
  ·rw[Below.heap_setCell _ _ _ _ (show W3.heap.size≠I.wk by have:=eU.size;omega)]
   rw[World.drewN_heap',<-lE]
   exact heap_alloc_new _ _
  ·exact(((m2.drop s.mt.length).get i hi eM).fr (Fr.new (b0:=I.b0) oE)).fr a8
 cases p with
 | none=>
  obtain⟨k1,k2,k3⟩:=e6 rfl
  subst k3
  subst k2
  have EH:=CI w2.drew
  have Kk:=fun n=>eO w2.drew (.slice none 0 0) (aa.refl _ w2).drew ⟨none,0,by simp,.inl (by simp)⟩ n
  have RK:w2.cell? ⟨I.wk,5,none⟩=some (.slice none 0 0):=by rw[d5,e1];rfl
  have f5:=h2.frz 5
  clear d5 e1 eO dH m1 m2 e2
  rw[k1]at Kk ⊢
  have hcn:s.cnt<=s1.cnt:=by have:s.cnt+1<=s1.cnt:=KW;omega
  go_wp2_with fail
  go_region_held3 (fun w'=>w'.cell? ⟨I.wk,3,none⟩=some (.int .i64 (s1.cnt:Int))/\w'.cell? ⟨I.wk,5,none⟩=some (.slice none 0 0)) (go_keep) ((go_at_call 151;refine EH.mono ?_;rintro e w3 ⟨rfl,rfl⟩))
  obtain⟨w4,ib⟩:∃w4,w4=(w2.alloc (.cells #[.int .i64 (rule:Int),.int .i64 (a:Int),.int .i64 t,.int .i64 ((s1.cnt:Int)-(s.cnt:Int)),.slice none 0 0] 229)).drew:=⟨_,rfl⟩
  rw[<-ib]
  have Tl:w4.cell? ⟨I.wk,5,none⟩=some (.slice none 0 0):=by
   rw[ib]
   have:=Below.heap_alloc w2 (.cells #[.int .i64 (rule:Int),.int .i64 (a:Int),.int .i64 t,.int .i64 ((s1.cnt:Int)-(s.cnt:Int)),.slice none 0 0] 229) I.wk A4
   simp only[World.cell?,World.drew_heap',this]
   exact RK
  have hy5:w4.frozen? ⟨I.wk,5,none⟩=false:=by
   rw[ib]
   have:=Below.heap_alloc w2 (.cells #[.int .i64 (rule:Int),.int .i64 (a:Int),.int .i64 t,.int .i64 ((s1.cnt:Int)-(s.cnt:Int)),.slice none 0 0] 229) I.wk A4
   simp only[World.frozen?,World.drew_heap',this]
   exact f5
  have HD:Hid (D4 I (Value.slice p0 s.mt.length oV) (jJ rule a s t s1) { s1 with mt:=s1.mt.take s.mt.length } w (.returned (.pointer (some ⟨w2.heap.size,0,none⟩))) (w4.setCell ⟨I.wk,5,none⟩ (.slice none 0 0))):=by
   unfold Hid;rw[ib]
   have:=Kk 0
   rw[k1]
   exact this
  clear ib Kk
  go_wp2
  go_ret
  exact HD.out
 | some ad=>
  obtain⟨ab,ao,asp⟩:=ad
  obtain⟨rfl,rfl⟩:=e7 _ rfl
  have dm:=m1.2
  have gu:ab<w2.heap.size:=(m1.lt ab (by rw[e1];rfl)).2
  have qbm:ss.ownBlock=some ab:=by rw[e1];rfl
  have f5:=h2.frz 5
  have hlc:s1.mt.length<=c:=by omega
  have iB:s.mt.length<=s1.mt.length:=by omega
  have y1:(0:Int)<=(s.mt.length:Int):=by omega
  have y3:(s1.mt.length:Int)<=(c:Int):=by omega
  have y5:¬(c:Int)<(s1.mt.length:Int):=by omega
  have y6:¬(c:Int)<(s.mt.length:Int):=by omega
  have lN:∀(w3:World) (v3:Value),aa (fun _=>False) w2 w3->zO w3 (some ab) v3 (MW.drop s.mt.length)->∃w4,w4=(w3.alloc (.cells #[.int .i64 (rule:Int),.int .i64 (a:Int),.int .i64 t,.int .i64 ((s1.cnt:Int)-(s.cnt:Int)),v3] 229))/\w4.cell? ⟨I.wk,5,none⟩=w2.cell? ⟨I.wk,5,none⟩/\w4.frozen? ⟨I.wk,5,none⟩=false/\Hid (D4 I (Value.slice p0 s.mt.length oV) (jJ rule a s t s1) { s1 with mt:=s1.mt.take s.mt.length } w (.returned (.pointer (some ⟨w3.heap.size,0,none⟩))) (w4.setCell ⟨I.wk,5,none⟩ (.slice (some ⟨ab,0,none⟩) s.mt.length c))):=by
   intro w3 v3 eU hin3
   have oE:aa (fun _=>False) w2 (w3.alloc (.cells #[.int .i64 (rule:Int),.int .i64 (a:Int),.int .i64 t,.int .i64 ((s1.cnt:Int)-(s.cnt:Int)),v3] 229)):=eU.alloc _
   refine⟨_,rfl,oE.cell (p:=⟨I.wk,5,none⟩) A4 (fun x=>x),(oE.frozen (p:=⟨I.wk,5,none⟩) A4 (fun x=>x)).trans f5,?_⟩
   have:=eO w3 v3 eU (by rw[qbm];exact hin3) 0
   exact this
  by_cases sQ:c=s.mt.length
  ·have qbK:s1.mt.length=s.mt.length:=by omega
   have Xe:MW.drop s.mt.length=[]:=List.drop_eq_nil_of_le (by omega)
   have ri:=tZ ab 0 0 [] w2.drew gu (fun j hj=>absurd hj (by simp)) (by simp)
   have RK:w2.cell? ⟨I.wk,5,none⟩=some (.slice (some ⟨ab,0,none⟩) s.mt.length s.mt.length):=by rw[d5,e1,GD,qbK,sQ]
   rw[Xe]at lN
   rw[sQ]at lN
   simp only[List.length_nil]at ri
   clear d5 dH m1 m2 e2 dm eO y3 y5 y6 hl Oo fV
   go_wp2_with fail
   go_region_held3 (fun w'=>w'.cell? ⟨I.wk,3,none⟩=some (.int .i64 (s1.cnt:Int))/\w'.cell? ⟨I.wk,5,none⟩=some (.slice (some ⟨ab,0,none⟩) s.mt.length s.mt.length)) (go_keep) ((go_at_call 151;refine ri.mono ?_;rintro e w3 ⟨v3,rfl,⟨pv,cv,rfl,Qw⟩,eU⟩;have x3:w3.cell? ⟨I.wk,3,none⟩=some (.int .i64 (s1.cnt:Int)):=(eU.cell (p:=⟨I.wk,3,none⟩) A4 (fun x=>x)).trans d3;have x5:w3.cell? ⟨I.wk,5,none⟩=some (.slice (some ⟨ab,0,none⟩) s.mt.length s.mt.length):=(eU.cell (p:=⟨I.wk,5,none⟩) A4 (fun x=>x)).trans RK))
   have AC:=lN w3 _ ((aa.refl (fun _=>False) w2).drew.trans eU) ⟨pv,cv,rfl,.inl rfl⟩
   try simp only[List.length_nil]at AC
   obtain⟨w4,ib,x6,x7,HD⟩:=AC
   rw[RK]at x6
   rw[<-ib]
   clear ib lN
   go_wp2
   go_ret
   exact HD.out
  ·have RK:w2.cell? ⟨I.wk,5,none⟩=some (.slice (some ⟨ab,0,none⟩) s1.mt.length c):=by rw[d5,e1,GD]
   have ri:=tZ ab s.mt.length (c-s.mt.length) (MW.drop s.mt.length) w2.drew gu (fun j hj=>by
    have rq:s.mt.length+j<MW.length:=by rw[List.length_drop]at hj;omega
    have h9:=m1
    rw[e1]at h9
    have:=h9.cellAt (s.mt.length+j) (by rw[Nat.mul_one];exact rq)
    show w2.cell? _=_
    rw[this]
    rw[List.getElem_drop]
    simp[rq]) (by rw[List.length_drop];omega)
   have UO:(MW.drop s.mt.length).length=s1.mt.length-s.mt.length:=by rw[List.length_drop,GD]
   rw[UO]at ri
   have qcy:¬s.mt.length=c:=fun e=>sQ e.symm
   have y2:(s.mt.length:Int)<=(s1.mt.length:Int):=by omega
   clear d5 dH m1 m2 e2 dm eO hl Oo GD fV
   go_wp2_with fail
   go_region_held3 (fun w'=>w'.cell? ⟨I.wk,3,none⟩=some (.int .i64 (s1.cnt:Int))/\w'.cell? ⟨I.wk,5,none⟩=some (.slice (some ⟨ab,0,none⟩) s1.mt.length c)) (go_keep) ((go_at_call 151;refine ri.mono ?_;rintro e w3 ⟨v3,rfl,⟨pv,cv,rfl,Qw⟩,eU⟩;have x3:w3.cell? ⟨I.wk,3,none⟩=some (.int .i64 (s1.cnt:Int)):=(eU.cell (p:=⟨I.wk,3,none⟩) A4 (fun x=>x)).trans d3;have x5:w3.cell? ⟨I.wk,5,none⟩=some (.slice (some ⟨ab,0,none⟩) s1.mt.length c):=(eU.cell (p:=⟨I.wk,5,none⟩) A4 (fun x=>x)).trans RK))
   have AC:=lN w3 _ ((aa.refl (fun _=>False) w2).drew.trans eU) ⟨pv,cv,rfl,Qw⟩
   try simp only[List.length_nil]at AC
   obtain⟨w4,ib,x6,x7,HD⟩:=AC
   rw[RK]at x6
   rw[UO]at ib
   rw[<-ib]
   clear ib lN
   go_wp2
   go_ret
   exact HD.out
theorem cQ.setMem {I:Wi}(hI:Ic I){mv:Value}{s:Wt}{w w':World}{M':Ms}(h:cQ I mv s w)(hk:aa (Mw I.b0 w) w w')(hm:∃eb ob EL,iF w' I.b0 I.mb eb ob EL I.K.mc (fw w mv.ownBlock) M')(hs:io I.K { s with mem:=M' }):
  cQ I mv { s with mem:=M' } w'/\Fr I.b0 mv.ownBlock mv.ownBlock w w':=by
 have hf:Fr I.b0 mv.ownBlock mv.ownBlock w w':=Fr.mem hk
 have kh:∀(j:Nat) (c:Array Value) (t:TypeId),w.heap[j]?=some (Obj.cells c t (0,0))->(t=159\/t=311\/t=147)->¬Mw I.b0 w j:=by
  intro j c t hj ht hw
  have:=hw.2 _ _ _ hj
  rcases ht with ht | ht | ht <;> subst ht <;> rcases this with h1 | h1 | h1 | h1 | h1 <;> exact absurd h1 (by decide)
 obtain⟨p1,p2,p3⟩:=h.part_same hf
 obtain⟨eb,ob,EL,hm⟩:=hm
 obtain⟨MB,m1,m2⟩:=h.mt
 refine⟨⟨?_,by rw[p3];exact h.gnd,h.gm.fr hf,⟨?_,h.brk.2.cellsKept p1⟩,⟨eb,ob,EL,hm.rel (fun b r hr=>hr.fr hf)⟩,⟨MB,aC m1 hk (fun i hi hw=>?_),m2.mono (fun a b _ hr=>hr.fr hf)⟩,?_,hs,h.knl,h.far1,h.far2⟩,hf⟩
 ·rw[hk.block I.wk (ag (show ai w I.wk=_ from h.blk)) (kh _ _ _ h.blk (.inl rfl))];exact h.blk
 ·have:=h.brk.1
  simp only[World.cell?,p2]at this ⊢
  exact this
 ·obtain⟨c,hc⟩:=ak m1 hi
  exact kh _ _ _ hc (.inr (.inr rfl)) hw
 ·rw[hk.block I.kb (ag (show ai w I.kb=_ from h.kn)) (kh _ _ _ h.kn (.inr (.inl rfl)))];exact h.kn
theorem cQ.setMemN {I:Wi}(hI:Ic I){mv:Value}{s s':Wt}{w w1 w2:World}(h:cQ I mv s w)(hk:aa (Mw I.b0 w) w w1)(hm:∃eb ob EL,iF w1 I.b0 I.mb eb ob EL I.K.mc (fw w mv.ownBlock) s'.mem)(co:aa (·=I.wk) w1 w2)
  (hblk:w2.heap[I.wk]?=some (.cells #[aw I.gd,.int .i64 (I.K.inp:Int),.string I.inp,.int .i64 (s'.cnt:Int),.int .i64 (s'.dn:Int),mv,.int .i64 s'.far.1,.int .u64 (s'.far.2:Int),.slice (some ⟨I.kb,0,none⟩) s'.kn.length s'.kn.length] 159 (0,0)))
  (Cm:s'.mt=s.mt) (eh:s'.kn=s.kn) (ku:s'.far=s.far) (hs:io I.K s'):cQ I mv s' w2/\Fr I.b0 mv.ownBlock mv.ownBlock w w2:=by
 have pA:Fr I.b0 mv.ownBlock mv.ownBlock w w1:=Fr.mem hk
 have kh:∀(j:Nat) (c:Array Value) (t:TypeId),w.heap[j]?=some (Obj.cells c t (0,0))->(t=159\/t=311\/t=147)->¬Mw I.b0 w j:=by
  intro j c t hj ht hw
  have:=hw.2 _ _ _ hj
  rcases ht with ht | ht | ht <;> subst ht <;> rcases this with h1 | h1 | h1 | h1 | h1 <;> exact absurd h1 (by decide)
 have dE:w1.heap[I.wk]?=_:=(hk.block I.wk (ag (show ai w I.wk=_ from h.blk)) (kh _ _ _ h.blk (.inl rfl))).trans h.blk
 have Gy:Fr I.b0 mv.ownBlock mv.ownBlock w1 w2:=Fr.of co (fun k _ e=>by
  have e':k=I.wk:=e
  subst e'
  refine⟨hI.low.1,fun c t f hc=>?_⟩
  rw[dE]at hc;simp at hc
  exact .inl (.inl hc.2.1.symm))
 have hf:=pA.trans Gy
 obtain⟨p1,p2,p3⟩:=h.part_same hf
 obtain⟨eb,ob,EL,hm⟩:=hm
 obtain⟨MB,m1,m2⟩:=h.mt
 have sl:Zi w1 (·=I.wk):=fun j e=>by
  have e':j=I.wk:=e
  subst e'
  exact⟨_,_,dE,by decide,by decide,by decide,by decide,by decide⟩
 refine⟨⟨hblk,by rw[p3];exact h.gnd,h.gm.fr hf,⟨?_,h.brk.2.cellsKept p1⟩,⟨eb,ob,EL,(hm.kept co sl).rel (fun b r hr=>hr.fr hf)⟩,⟨MB,?_,by rw[Cm];exact m2.mono (fun a b _ hr=>hr.fr hf)⟩,?_,hs,by rw[eh];exact h.knl,by rw[ku];exact h.far1,by rw[ku];exact h.far2⟩,hf⟩
 ·have:=h.brk.1
  simp only[World.cell?,p2]at this ⊢
  exact this
 ·refine aC (aC m1 hk (fun i hi hw=>?_)) co (fun i hi e=>?_)
  ·obtain⟨c,hc⟩:=ak m1 hi
   exact kh _ _ _ hc (.inr (.inr rfl)) hw
  ·obtain⟨c,hc⟩:=ak m1 hi
   have e':i=I.wk:=e
   have gB:w.heap[i]?=_:=hc
   rw[e',h.blk]at gB;simp at gB
 ·rw[eh,co.block I.kb (by have:=ag (show ai w I.kb=_ from h.kn);have:=hk.size;omega) (fun e=>by
   have e':I.kb=I.wk:=e
   have:=h.kn
   rw[e',h.blk]at this;simp at this),hk.block I.kb (ag (show ai w I.kb=_ from h.kn)) (kh _ _ _ h.kn (.inr (.inl rfl)))]
  exact h.kn
structure KpW (I:Wi)(mv:Value)(s':Wt)(w:World)(e:Ending)(w':World):Prop where
 res:e=.returned (.tuple #[])
 st:cQ I mv s' w'
 fr:Fr I.b0 mv.ownBlock mv.ownBlock w w'
theorem GU {I:Wi}(hI:Ic I){mv:Value}{s:Wt}{w:World}(h:cQ I mv s w)(k:Ky)(hk:sB k)(rb:Nat)(r:Rs)(hr:fw w mv.ownBlock rb r)(hs:io I.K { s with mem:=if I.K.most<s.cnt then s.mem else eD I.K.mc s.mem k r }):
  Calls Tryz.prog 105 #[aw I.wk,lG k,aw rb] w fun e w'=>KpW I mv { s with mem:=if I.K.most<s.cnt then s.mem else eD I.K.mc s.mem k r } w e w':=by
 have oE:∀o,aa (fun _=>False) w (w.alloc o):=fun o=>(aa.refl _ w).alloc o
 have hA:=fun o=>h.same hI (oE o)
 have yO:=fun o=>rN hI (hA o)
 unfold aw lG at *
 by_cases Nj:I.K.most<s.cnt
 ·rw[if_pos Nj]
  rw[decide_eq_true Nj]at yO
  go_enter Tryz.func105,Tryz.ntmps105
  go_wp2_with fail
  refine(yO _).mono ?_
  rintro e w1 ⟨rfl,n,rfl⟩
  go_wp2
  go_end0
  exact⟨rfl,(hA _).drewN hI n,Fr.new ((oE _).drewN n)⟩
 ·rw[if_neg Nj]at hs ⊢
  rw[decide_eq_false Nj]at yO
  obtain⟨c0,_,_,_,_,_,_,_,d2⟩:=h.cells
  unfold aw at *
  have GO:=av c0
  have lV:=av d2
  go_enter Tryz.func105,Tryz.ntmps105
  go_wp2_with fail
  refine(yO _).mono ?_
  rintro e w1 ⟨rfl,n,rfl⟩
  obtain⟨w2,gQ⟩:∃w2,w2=((w.alloc (.cells #[.int .i64 (k.inp:Int),.int .i64 (k.rule:Int),.int .i64 (k.place:Int)] 225)).drewN n):=⟨_,rfl⟩
  rw[<-gQ]
  have dl:aa (fun _=>False) w w2:=by rw[gQ];exact(oE _).drewN n
  have h2:=h.same hI dl
  have dx:w2.heap[w.heap.size]?=some (.cells #[.int .i64 (k.inp:Int),.int .i64 (k.rule:Int),.int .i64 (k.place:Int)] 225 (0,0)):=by rw[gQ,World.drewN_heap'];exact heap_alloc_new _ _
  have q0:w2.cell? ⟨w.heap.size,0,none⟩=some (.int .i64 (k.inp:Int)):=by simp[World.cell?,dx]
  have q1:w2.cell? ⟨w.heap.size,1,none⟩=some (.int .i64 (k.rule:Int)):=by simp[World.cell?,dx]
  have q2:w2.cell? ⟨w.heap.size,2,none⟩=some (.int .i64 (k.place:Int)):=by simp[World.cell?,dx]
  obtain⟨x0,_,_,_,_,_,_,_,x2⟩:=h2.cells
  unfold aw at x0 x2
  have h2d:=h2.drewN hI 1
  obtain⟨eb,ob,EL,hm⟩:=h2d.mem
  have xp:=Lf I.b0 I.mb eb ob EL I.K.mc _ s.mem k rb r (w2.drewN 1) hm hk ((hr.fr (Fr.new (b0:=I.b0) (m:=mv.ownBlock) dl)).fr (Fr.new (b0:=I.b0) (m:=mv.ownBlock) ((aa.refl _ w2).drewN 1)))
  unfold lG aw at xp
  clear gQ c0 d2 yO hA
  go_wp2_with fail
  go_region_with (go_at_call 152;refine xp.mono ?_;rintro e w3 ⟨rfl,qbM,ff⟩)
  all_goals
   go_end0
   have eO:=h2d.setMem hI ff qbM hs
   exact⟨rfl,eO.1,((Fr.new dl).trans (Fr.new ((aa.refl _ w2).drewN 1))).trans eO.2⟩
theorem cQ.push {I:Wi}(hI:Ic I){mv:Value}{s:Wt}{w w9:World}(h:cQ I mv s w){rb gg cap:Nat}{r:Rs}{o:Obj}{MB:List Nat}(hr:fw w mv.ownBlock rb r)(m1:w.ownsRow I.b0 147 1 mv MB.length (MB.map aw))(m2:F2 (fw w mv.ownBlock) MB s.mt)
  (bW:w9.ownsRow I.b0 147 1 (.slice (some ⟨gg,0,none⟩) (MB.length+1) cap) (MB.length+1) (MB.map aw++[aw rb])) (hgrow:(w.alloc o).grownBy w9 mv.ownBlock) (dA:mv.ownBlock=some gg\/gg=w.heap.size+1) (hs:io I.K { s with mt:=s.mt++[r] }):
  cQ I (.slice (some ⟨gg,0,none⟩) (MB.length+1) cap) { s with mt:=s.mt++[r] } (w9.setCell ⟨I.wk,5,none⟩ (.slice (some ⟨gg,0,none⟩) (MB.length+1) cap))/\Fr I.b0 mv.ownBlock (some gg) w (w9.setCell ⟨I.wk,5,none⟩ (.slice (some ⟨gg,0,none⟩) (MB.length+1) cap))/\fw (w9.setCell ⟨I.wk,5,none⟩ (.slice (some ⟨gg,0,none⟩) (MB.length+1) cap)) (some gg) rb r:=by
 have tl:aa (fun k=>mv.ownBlock=some k) w w9:=((aa.refl _ w).alloc _).grown hgrow (fun k hk _=>hk)
 have gf:aa (fun k=>mv.ownBlock=some k\/k=I.wk) w (w9.setCell ⟨I.wk,5,none⟩ (.slice (some ⟨gg,0,none⟩) (MB.length+1) cap)):=(tl.mono (T:=fun k=>mv.ownBlock=some k\/k=I.wk) (fun k _ e=>Or.inl e)).setCell (p:=⟨I.wk,5,none⟩) (fun _=>Or.inr rfl) _
 have GO:=ag (show ai w I.wk=_ from h.blk)
 have hf:Fr I.b0 mv.ownBlock (some gg) w (w9.setCell ⟨I.wk,5,none⟩ (.slice (some ⟨gg,0,none⟩) (MB.length+1) cap)):=by
  refine⟨gf.mono (fun k hk e=>?_),fun k e=>?_⟩
  ·rcases e with e | e
   ·obtain⟨c,hc⟩:=ak m1 e
    refine⟨(m1.lt k e).1,fun c' t f si=>.inr ⟨?_,e⟩⟩
    have gB:w.heap[k]?=_:=hc
    rw[gB]at si;simp at si
    exact si.2.1.symm
   ·subst e
    refine⟨hI.low.1,fun c t f hc=>?_⟩
    rw[h.blk]at hc;simp at hc
    exact .inl (.inl hc.2.1.symm)
  ·have e':gg=k:=Option.some.inj e
   subst e'
   rcases dA with h1 | h1
   ·exact .inl h1
   ·right;omega
 have hwg:gg≠I.wk:=by
  intro e
  rcases dA with h1 | h1
  ·obtain⟨c,hc⟩:=ak m1 h1
   have gB:w.heap[gg]?=_:=hc
   rw[e,h.blk]at gB;simp at gB
  ·omega
 have ET:mv.ownBlock≠some I.wk:=fun e=>by
  obtain⟨c,hc⟩:=ak m1 e
  have gB:w.heap[I.wk]?=_:=hc
  rw[h.blk]at gB;simp at gB
 have X8:=hr.fr hf
 refine⟨?_,hf,X8⟩
 refine h.turn (mv':=.slice (some ⟨gg,0,none⟩) (MB.length+1) cap) gf hf (fun j e=>?_) ?_ rfl ⟨MB++[rb],?_,?_⟩ ?_ hs rfl h.far1 h.far2
 ·rcases e with e | e
  ·obtain⟨c,hc⟩:=ak m1 e
   exact⟨c,147,hc,by decide,by decide,by decide,by decide,by decide⟩
  ·subst e
   exact⟨_,_,h.blk,by decide,by decide,by decide,by decide,by decide⟩
 ·exact aj ((tl.block I.wk GO ET).trans h.blk) 5 _
 ·rw[List.length_append,List.map_append]
  exact aC bW ((aa.refl (·=I.wk) w9).setCell (p:=⟨I.wk,5,none⟩) (fun _=>rfl) _) (fun i hi e=>by
   have h1:gg=i:=Option.some.inj hi
   exact hwg (h1.trans e))
 ·exact(m2.mono (fun a b _ gu=>gu.fr hf)).app (.cons X8 .nil)
 ·rw[gf.block I.kb (ag (show ai w I.kb=_ from h.kn)) (fun e=>by
   rcases e with e | e
   ·obtain⟨c,hc⟩:=ak m1 e
    have gB:w.heap[I.kb]?=_:=hc
    rw[h.kn]at gB;simp at gB
   ·have:=h.kn
    rw[e,h.blk]at this;simp at this)]
  exact h.kn
theorem BA {I:Wi}(hI:Ic I){f:Nat}(hS:lA I f)(rule a:Nat)(t:Int)(s s':Wt)(mv:Value)(w:World)(ha:a<=I.K.len)(rz:rule<I.K.rs.length)(h:cQ I mv s w)(hm:s.cnt<=I.K.most)(hr:lQ I.K (fun j s=>wM I.K f j a s) rule a s=some (t,s')):
  Calls Tryz.prog 72 #[aw I.wk,.int .i64 (rule:Int),.int .i64 (a:Int)] w fun e w'=>lB I mv t s' w e w':=by
 have fV:=vn (fun j s t s' hs hx=>(jC f j a s t s' ha hs hx).1) h.sane hm hr
 have Da:=hI.l60
 have eI:=hI.len
 have qbH:=hI.wf.len
 have XM:=hI.most
 have hky:sB ⟨I.K.inp,rule,a⟩:=⟨hI.num,by show rule<8;omega,by show a<=60;omega⟩
 obtain⟨c0,c1,_,_,_,_,_,_,d2⟩:=h.cells
 have GO:=av c0
 have lV:=av d2
 obtain⟨i0,iC,gH,iD,iz⟩:=info_parts E6
 obtain⟨wa,mI⟩:∃wa,wa=w.alloc (.cells #[.int .i64 (I.K.inp:Int),.int .i64 (rule:Int),.int .i64 (a:Int)] 225):=⟨_,rfl⟩
 have oE:aa (fun _=>False) w wa:=by rw[mI];exact(aa.refl _ w).alloc _
 have h1:=(h.same hI oE).drewN hI 1
 have dx:wa.heap[w.heap.size]?=some (.cells #[.int .i64 (I.K.inp:Int),.int .i64 (rule:Int),.int .i64 (a:Int)] 225 (0,0)):=by rw[mI];exact heap_alloc_new _ _
 have q0:wa.cell? ⟨w.heap.size,0,none⟩=some (.int .i64 (I.K.inp:Int)):=by simp[World.cell?,dx]
 have q1:wa.cell? ⟨w.heap.size,1,none⟩=some (.int .i64 (rule:Int)):=by simp[World.cell?,dx]
 have q2:wa.cell? ⟨w.heap.size,2,none⟩=some (.int .i64 (a:Int)):=by simp[World.cell?,dx]
 have x0:wa.cell? ⟨I.wk,0,none⟩=some (aw I.gd):=(oE.cell (p:=⟨I.wk,0,none⟩) GO (fun x=>x)).trans c0
 have x2:wa.cell? ⟨I.gd,2,none⟩=some (aw I.mb):=(oE.cell (p:=⟨I.gd,2,none⟩) lV (fun x=>x)).trans d2
 obtain⟨eb,ob,EL,KB⟩:=h1.mem
 have M9:=JE I.b0 I.mb eb ob EL I.K.mc _ s.mem ⟨I.K.inp,rule,a⟩ (wa.drewN 1) KB (by have:=h.sane.hits;omega)
 have Kh:=jd I.K.mc s.mem ⟨I.K.inp,rule,a⟩
 unfold lQ at hr
 have OD:∀(j:Nat) (c:Array Value) (t:TypeId),wa.heap[j]?=some (Obj.cells c t (0,0))->(t=159\/t=152\/t=225)->¬Mw I.b0 (wa.drewN 1) j:=by
  intro j c t hj ht hw
  have:=hw.2 _ _ _ hj
  rcases ht with ht | ht | ht <;> subst ht <;> rcases this with h1 | h1 | h1 | h1 | h1 <;> exact absurd h1 (by decide)
 have Ym:wa.heap[I.wk]?=_:=(oE.block I.wk GO (fun x=>x)).trans h.blk
 have Xp:wa.heap[I.gd]?=_:=(oE.block I.gd lV (fun x=>x)).trans h.gnd
 have J9:∀w2,aa (Mw I.b0 (wa.drewN 1)) (wa.drewN 1) w2->w2.cell? ⟨I.wk,0,none⟩=some (aw I.gd)/\w2.cell? ⟨I.gd,2,none⟩=some (aw I.mb)/\w2.cell? ⟨w.heap.size,0,none⟩=some (.int .i64 (I.K.inp:Int))/\w2.cell? ⟨w.heap.size,1,none⟩=some (.int .i64 (rule:Int))/\w2.cell? ⟨w.heap.size,2,none⟩=some (.int .i64 (a:Int))/\w2.heap[I.wk]?=w.heap[I.wk]?:=by
  intro w2 co
  have e1:w2.heap[I.wk]?=wa.heap[I.wk]?:=co.block I.wk (ag (show ai wa I.wk=_ from Ym)) (OD _ _ _ Ym (.inl rfl))
  have e2:w2.heap[I.gd]?=wa.heap[I.gd]?:=co.block I.gd (ag (show ai wa I.gd=_ from Xp)) (OD _ _ _ Xp (.inr (.inl rfl)))
  have e3:w2.heap[w.heap.size]?=wa.heap[w.heap.size]?:=co.block _ (ag (show ai wa w.heap.size=_ from dx)) (OD _ _ _ dx (.inr (.inr rfl)))
  refine⟨?_,?_,?_,?_,?_,e1.trans (oE.block I.wk GO (fun x=>x))⟩
  ·simp only[World.cell?,e1]at x0 ⊢;exact x0
  ·simp only[World.cell?,e2]at x2 ⊢;exact x2
  ·simp only[World.cell?,e3]at q0 ⊢;exact q0
  ·simp only[World.cell?,e3]at q1 ⊢;exact q1
  ·simp only[World.cell?,e3]at q2 ⊢;exact q2
 unfold lG at M9
 unfold aw at *
 have hFa:Fr I.b0 mv.ownBlock mv.ownBlock w (wa.drewN 1):=(Fr.new oE).trans (Fr.new ((aa.refl _ wa).drewN 1))
 obtain⟨MB,m1,m2⟩:=h.mt
 obtain⟨p0,oV,tq⟩:=an m1
 have wl:MB.length=s.mt.length:=m2.len
 clear c0 d2
 cases hf:fh I.K.mc s.mem ⟨I.K.inp,rule,a⟩ with
 | mk o M=>
  rw[hf]at M9 hr Kh
  cases o with
  | some r=>
   simp only[Option.some.injEq,Prod.mk.injEq]at hr
   obtain⟨rfl,rfl⟩:=hr
   have M8:=(Kh.2.1 r rfl).1
   have hrc:=h.sane.ent _ M8
   dsimp only at hrc
   have Ta:io I.K { s with mem:=M,cnt:=s.cnt+r.cnt }:=⟨fV.sane.cnt,fV.sane.dn,by have:=h.sane.mtl;show s.mt.length<=s.cnt+r.cnt;omega,fV.sane.hits,fV.sane.ent,fV.sane.kn⟩
   have sQ:s.cnt<=20000/\r.cnt<=20000:=by omega
   have x0':wa.cell? ⟨I.wk,0,none⟩=some (.pointer (some ⟨I.gd,0,none⟩)):=x0
   have x2':wa.cell? ⟨I.gd,2,none⟩=some (.pointer (some ⟨I.mb,0,none⟩)):=x2
   go_enter Tryz.func72,Tryz.ntmps72
   go_wp2_with fail
   rw[<-mI]
   clear mI
   go_region_held3 (fun w'=>w'.cell? ⟨I.wk,0,none⟩=some (.pointer (some ⟨I.gd,0,none⟩))/\w'.cell? ⟨I.gd,2,none⟩=some (.pointer (some ⟨I.mb,0,none⟩))/\w'.cell? ⟨w.heap.size,0,none⟩=some (.int .i64 (I.K.inp:Int))/\w'.cell? ⟨w.heap.size,1,none⟩=some (.int .i64 (rule:Int))/\w'.cell? ⟨w.heap.size,2,none⟩=some (.int .i64 (a:Int))) (go_keep) ((go_at_call 103;refine M9.mono ?_;rintro e w2 hO;obtain⟨rb,rfl,hRr⟩:=hO.yes r rfl;have fS:=J9 w2 hO.kept;obtain⟨y1,y2,y3,y4,y5,y6⟩:=fS))
   have GH:fw w2 mv.ownBlock rb r:=hRr.fr (Fr.mem (m:=mv.ownBlock) hO.kept)
   obtain⟨_,_,rto,rcn⟩:=GH.cells
   have eL:=y6.trans h.blk
   have n3:w2.cell? ⟨I.wk,3,none⟩=some (.int .i64 (s.cnt:Int)):=by simp only[World.cell?,eL];rfl
   have nf3:w2.frozen? ⟨I.wk,3,none⟩=false:=by simp[World.frozen?,eL]
   unfold aw
   go_wp2_with fail
   go_region
   obtain⟨w3,gT⟩:∃w3,w3=(w2.setCell ⟨I.wk,3,none⟩ (.int .i64 ((s.cnt:Int)+(r.cnt:Int)))).drew:=⟨_,rfl⟩
   rw[<-gT]
   have qaY:aa (·=I.wk) w2 w3:=by rw[gT];exact((aa.refl (·=I.wk) w2).setCell (p:=⟨I.wk,3,none⟩) (fun _=>rfl) _).drew
   have Ii:w3.heap[I.wk]?=some (.cells #[aw I.gd,.int .i64 (I.K.inp:Int),.string I.inp,.int .i64 ((s.cnt+r.cnt:Nat):Int),.int .i64 (s.dn:Int),mv,.int .i64 s.far.1,.int .u64 (s.far.2:Int),.slice (some ⟨I.kb,0,none⟩) s.kn.length s.kn.length] 159 (0,0)):=by
    rw[gT,World.drew_heap',aj eL 3 _]
    simp[aw]
   obtain⟨h3,WD⟩:=h1.setMemN (s':={ s with mem:=M,cnt:=s.cnt+r.cnt }) hI hO.kept hO.st qaY Ii rfl rfl rfl Ta
   have sS:fw w3 mv.ownBlock rb r:=hRr.fr WD
   obtain⟨D6,OZ,YB⟩:=h3.mt
   obtain⟨_,_,_,_,_,z5,_,_,_⟩:=h3.cells
   have zf5:=h3.frz 5
   have qa9:D6.length=s.mt.length:=YB.len
   have Oz:D6.length<=50000:=by have:=h.sane.mtl;omega
   have qaB:I.b0<=w3.heap.size:=by have:=hI.low.1;have:=ag (show ai w3 I.wk=_ from Ii);omega
   obtain⟨p3,Wj,SN⟩:=an OZ
   have AV:=fun(gg cap:Nat) (w9:World) (o:Obj) bW hgrow dA=>h3.push hI (r:=r) (rb:=rb) (gg:=gg) (cap:=cap) (w9:=w9) (o:=o) sS OZ YB bW hgrow dA fV.sane
   have Tk:=ag (show ai w3 I.wk=_ from Ii)
   have R0:∀w9 o,(w3.alloc o).grownBy w9 mv.ownBlock->w9.heap[I.wk]?=w3.heap[I.wk]?:=fun w9 o hg=>by
    have tl:aa (fun k=>mv.ownBlock=some k) w3 w9:=((aa.refl _ w3).alloc _).grown hg (fun k hk _=>hk)
    refine tl.block I.wk Tk (fun e=>?_)
    obtain⟨c,hc⟩:=ak OZ e
    have gB:w3.heap[I.wk]?=_:=hc
    rw[Ii]at gB;simp at gB
   have S3:¬rb=I.wk:=fun e=>by
    cases sS with
    | mk blk _ _ _=>rw[e,Ii]at blk;simp at blk
   have KQ:¬I.wk=rb:=fun e=>S3 e.symm
   have Th:∀(gg cap:Nat) (w9:World),fw (w9.setCell ⟨I.wk,5,none⟩ (.slice (some ⟨gg,0,none⟩) (D6.length+1) cap)) (some gg) rb r->w9.cell? ⟨rb,2,none⟩=some (.int .i64 r.to):=fun gg cap w9 hP=>by
    obtain⟨_,_,DR,_⟩:=hP.cells
    rw[World.cell?_setCell_other _ ⟨I.wk,5,none⟩ ⟨rb,2,none⟩ _ (by simp[KQ])]at DR
    exact DR
   subst SN
   clear gT tq qa9 wl
   go_wp2_with (at_builtin;refine wpList_append_lies _ rfl _ _ _ rfl I.b0 147 i0 _ 1 8 Tryz.underlying157 iC gH iD iz rfl (by omega) (.slice p3 D6.length Wj) D6.length (D6.map aw) (by rfl) (OZ.alloc _) ⟨w3.heap.size,0,none⟩ 1 1 [.pointer (some ⟨rb,0,none⟩)] (by rfl) rfl (World.news_of_block (cs:=#[.pointer (some ⟨rb,0,none⟩)]) (t:=147) (fr:=(0,0)) (heap_alloc_new w3 _)) (by simp[Value.oneCell']) (by omega) (by simp[maxLen];omega) (by omega) (by simp;omega) (w3.heap.size+1) (by simp) ?_;intro gg cap w9 bW hgrow dA bj;have Yp:=(R0 w9 _ hgrow).trans Ii;have v5:w9.cell? ⟨I.wk,5,none⟩=some (.slice p3 D6.length Wj):=(by simp[World.cell?,Yp]);have vf5:w9.frozen? ⟨I.wk,5,none⟩=false:=(by simp[World.frozen?,Yp]);have DR:=Th gg cap w9 (AV gg cap w9 _ bW hgrow dA).2.2)
   obtain⟨EJ,hP2,JX⟩:=AV gg cap w9 _ bW hgrow dA
   go_ret
   exact⟨rfl,_,EJ,hFa.trans (WD.trans hP2)⟩
  | none=>
   have hM:M=s.mem:=Kh.2.2 rfl
   subst hM
   simp only at hr
   cases hc:nJ (fun j s=>wM I.K f j a s) (ap I.K.ns (cL I.K.rs rule)).subs (j8 s s.mem) with
   | none=>rw[hc]at hr;cases hr
   | some x=>
    obtain⟨t1,s1⟩:=x
    rw[hc]at hr
    simp only[Option.some.injEq,Prod.mk.injEq]at hr
    obtain⟨rfl,rfl⟩:=hr
    have x0':wa.cell? ⟨I.wk,0,none⟩=some (.pointer (some ⟨I.gd,0,none⟩)):=x0
    have x2':wa.cell? ⟨I.gd,2,none⟩=some (.pointer (some ⟨I.mb,0,none⟩)):=x2
    go_enter Tryz.func72,Tryz.ntmps72
    go_wp2_with fail
    rw[<-mI]
    clear mI
    go_region_held3 (fun w'=>w'.cell? ⟨I.wk,0,none⟩=some (.pointer (some ⟨I.gd,0,none⟩))/\w'.cell? ⟨I.gd,2,none⟩=some (.pointer (some ⟨I.mb,0,none⟩))/\w'.cell? ⟨w.heap.size,0,none⟩=some (.int .i64 (I.K.inp:Int))/\w'.cell? ⟨w.heap.size,1,none⟩=some (.int .i64 (rule:Int))/\w'.cell? ⟨w.heap.size,2,none⟩=some (.int .i64 (a:Int))) (go_keep) ((go_at_call 103;refine M9.mono ?_;rintro e w2 hO;obtain rfl:=hO.no rfl;have fS:=J9 w2 hO.kept;obtain⟨y1,y2,y3,y4,y5,y6⟩:=fS))
    go_wp2_with fail
    have h2:cQ I mv s w2:=(h1.setMem hI hO.kept hO.st h.sane).1
    have sG:Fr I.b0 mv.ownBlock mv.ownBlock (wa.drewN 1) w2:=(h1.setMem hI hO.kept hO.st h.sane).2
    have Sx:w2.heap[w.heap.size]?=wa.heap[w.heap.size]?:=hO.kept.block _ (ag (show ai wa w.heap.size=_ from dx)) (OD _ _ _ dx (.inr (.inr rfl)))
    have hdo:=NW hI hS rule a t1 s s1 mv w2 ha rz h2 hm hc
    unfold aw at hdo
    refine hdo.mono ?_
    rintro e w3 ⟨rb,mv3,rfl,sS,h3,WD⟩
    have qa0:w3.heap[w.heap.size]?=w2.heap[w.heap.size]?:=WD.kept.block _ (ag (show ai w2 w.heap.size=_ from Sx.trans dx)) (fun hw=>by
     rcases hw.ty (Sx.trans dx) with h5 | ⟨h5,_⟩
     ·exact absurd h5 (by decide)
     ·exact absurd h5 (by decide))
    have k3b:=(qa0.trans Sx).trans dx
    have u0:w3.cell? ⟨w.heap.size,0,none⟩=some (.int .i64 (I.K.inp:Int)):=by simp[World.cell?,k3b]
    have u1:w3.cell? ⟨w.heap.size,1,none⟩=some (.int .i64 (rule:Int)):=by simp[World.cell?,k3b]
    have u2:w3.cell? ⟨w.heap.size,2,none⟩=some (.int .i64 (a:Int)):=by simp[World.cell?,k3b]
    have Dj:io I.K { ({ s1 with mt:=s1.mt.take s.mt.length }:Wt) with mem:=if I.K.most<s1.cnt then s1.mem else eD I.K.mc s1.mem ⟨I.K.inp,rule,a⟩ (jJ rule a s t1 s1) }:=⟨fV.sane.cnt,fV.sane.dn,by have h5:(s1.mt.take s.mt.length++[jJ rule a s t1 s1]).length<=s1.cnt:=fV.sane.mtl;simp at h5;show (s1.mt.take s.mt.length).length<=s1.cnt;simp;omega,fV.sane.hits,fV.sane.ent,fV.sane.kn⟩
    have xp:=GU hI h3 ⟨I.K.inp,rule,a⟩ hky rb _ sS Dj
    unfold aw lG at xp
    unfold aw
    go_wp2_with fail
    refine xp.mono ?_
    rintro e w4 ⟨rfl,h4,WE⟩
    have wo:=sS.fr WE
    obtain⟨D6,OZ,YB⟩:=h4.mt
    obtain⟨_,_,_,_,_,z5,_,_,_⟩:=h4.cells
    have zf5:=h4.frz 5
    have Ii:=h4.blk
    have Oz:D6.length<=50000:=by have h5:=YB.len;have h6:=Dj.mtl;have h7:=Dj.cnt;rw[h5];simp only at h6 h7 ⊢;omega
    have qaB:I.b0<=w4.heap.size:=by have:=hI.low.1;have:=ag (show ai w4 I.wk=_ from Ii);omega
    obtain⟨p3,Wj,SN⟩:=an OZ
    have AV:=fun(gg cap:Nat) (w9:World) (o:Obj) bW hgrow dA=>h4.push hI (r:=jJ rule a s t1 s1) (rb:=rb) (gg:=gg) (cap:=cap) (w9:=w9) (o:=o) wo OZ YB bW hgrow dA fV.sane
    have Tk:=ag (show ai w4 I.wk=_ from Ii)
    have R0:∀w9 o,(w4.alloc o).grownBy w9 mv3.ownBlock->w9.heap[I.wk]?=w4.heap[I.wk]?:=fun w9 o hg=>by
     have tl:aa (fun k=>mv3.ownBlock=some k) w4 w9:=((aa.refl _ w4).alloc _).grown hg (fun k hk _=>hk)
     refine tl.block I.wk Tk (fun e=>?_)
     obtain⟨c,hc⟩:=ak OZ e
     have gB:w4.heap[I.wk]?=_:=hc
     rw[Ii]at gB;simp at gB
    have S3:¬rb=I.wk:=fun e=>by
     cases wo with
     | mk blk _ _ _=>rw[e,Ii]at blk;simp at blk
    have KQ:¬I.wk=rb:=fun e=>S3 e.symm
    have Th:∀(gg cap:Nat) (w9:World),fw (w9.setCell ⟨I.wk,5,none⟩ (.slice (some ⟨gg,0,none⟩) (D6.length+1) cap)) (some gg) rb (jJ rule a s t1 s1)->w9.cell? ⟨rb,2,none⟩=some (.int .i64 t1):=fun gg cap w9 hP=>by
     obtain⟨_,_,DR,_⟩:=hP.cells
     rw[World.cell?_setCell_other _ ⟨I.wk,5,none⟩ ⟨rb,2,none⟩ _ (by simp[KQ])]at DR
     exact DR
    subst SN
    clear tq wl
    go_wp2_with (at_builtin;refine wpList_append_lies _ rfl _ _ _ rfl I.b0 147 i0 _ 1 8 Tryz.underlying157 iC gH iD iz rfl (by omega) (.slice p3 D6.length Wj) D6.length (D6.map aw) (by rfl) (OZ.alloc _) ⟨w4.heap.size,0,none⟩ 1 1 [.pointer (some ⟨rb,0,none⟩)] (by rfl) rfl (World.news_of_block (cs:=#[.pointer (some ⟨rb,0,none⟩)]) (t:=147) (fr:=(0,0)) (heap_alloc_new w4 _)) (by simp[Value.oneCell']) (by omega) (by simp[maxLen];omega) (by omega) (by simp;omega) (w4.heap.size+1) (by simp) ?_;intro gg cap w9 bW hgrow dA bj;have Yp:=(R0 w9 _ hgrow).trans Ii;have v5:w9.cell? ⟨I.wk,5,none⟩=some (.slice p3 D6.length Wj):=(by simp[World.cell?,Yp]);have vf5:w9.frozen? ⟨I.wk,5,none⟩=false:=(by simp[World.frozen?,Yp]);have DR:=Th gg cap w9 (AV gg cap w9 _ bW hgrow dA).2.2)
    obtain⟨EJ,hP2,JX⟩:=AV gg cap w9 _ bW hgrow dA
    go_ret
    exact⟨rfl,_,EJ,hFa.trans (sG.trans (WD.trans (WE.trans hP2)))⟩
end Go.Proofs.YtagklnaaoclmhaaGreatDoor
