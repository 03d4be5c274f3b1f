import Derived.Test.YtagklnaaoclmhaaGreatDoorMnAO
set_option linter.unusedSimpArgs false
set_option linter.unusedVariables false
set_option maxRecDepth 100000
set_option maxHeartbeats 16000000
namespace Go.Proofs.YtagklnaaoclmhaaGreatDoor
open Go.RowKit
structure lB (I:Wi)(mv:Value)(t:Int)(s':Wt)(w:World)(e:Ending)(w':World):Prop where
 res:e=.returned (.int .i64 t)
 st:∃mv',cQ I mv' s' w'/\Fr I.b0 mv.ownBlock mv'.ownBlock w w'
def zQ (I:Wi)(i:Nat):Prop:=i<I.K.ns.length/\((ap I.K.ns i).kind=4->I.P.getD i 0∈I.L)
def lA (I:Wi)(f:Nat):Prop:=∀i a s t s' mv w,zQ I i->a<=I.K.len->cQ I mv s w->wM I.K f i a s=some (t,s')->
 Calls Tryz.prog 171 #[aw I.wk,aO I.P i,.int .i64 (a:Int)] w fun e w'=>lB I mv t s' w e w'
theorem zh {b0:Nat}{m m':Option Nat}{w w':World}(hf:Fr b0 m m' w w'){base size n:Nat}{v:Value}{xs:List Value}(h:w.ownsRow base 187 size v n xs):w'.ownsRow base 187 size v n xs:=
 aC h hf.kept (fun i hi hw=>by
  obtain⟨c,hc⟩:=ak h hi
  rcases hw.ty hc with h1 | ⟨h1,_⟩
  ·rcases h1 with h1 | h1 | h1 | h1 | h1 | h1 | h1 <;> exact absurd h1 (by decide)
  ·exact absurd h1 (by decide))
theorem lq {w:World}{base:Nat}{v:Value}{P l:List Nat}(h:w.ownsRow base 187 1 v l.length (l.map (aO P))){k:Nat}(hk:k<l.length):
  ∃g cap,v=.slice (some ⟨g,0,none⟩) l.length cap/\w.cell? ⟨g,k,none⟩=some (aO P l[k]):=by
 obtain⟨g,cap,hv,_,_⟩:=h.form (by omega)
 subst hv
 refine⟨g,cap,rfl,?_⟩
 rw[h.cellAt k (by omega)]
 simp[hk]
theorem oB {I:Wi}(hI:Ic I){f:Nat}(hS:lA I f)(base a:Nat)(v:Value)(l:List Nat)(t:Int)(s s':Wt)(mv:Value)(w:World)(ha:a<=I.K.len)(hO:w.ownsRow base 187 1 v l.length (l.map (aO I.P)))(hl:∀j∈l,zQ I j)(AL:l.length<=9223372036854775807)(h:cQ I mv s w)(hr:nJ (fun j s=>wM I.K f j a s) l s=some (t,s')):
  Calls Tryz.prog 150 #[aw I.wk,.int .i64 (a:Int),v] w fun e w'=>lB I mv t s' w e w':=by
 obtain⟨p,cap,hv⟩:=an hO
 subst hv
 have HR:Hid (nJ (fun j s=>wM I.K f j a s) (l.drop 0) s=some (t,s')):=hr
 clear hr
 unfold aw
 go_enter Tryz.func150,Tryz.ntmps150
 go_wp2
 go_loopg [12] l.length (fun n i wx=>∃(k:Nat) (Cr:Value) (sx:Wt),Hid (k+n=l.length)/\i=.int .i64 k/\cQ I Cr sx wx/\Fr I.b0 mv.ownBlock Cr.ownBlock w wx/\Hid (nJ (fun j s=>wM I.K f j a s) (l.drop k) sx=some (t,s')))
 case atStart=>exact⟨0,mv,s,Nat.zero_add _,rfl,h,Fr.refl _ _ _,HR.out⟩
 case round=>
  obtain⟨k,Cr,sx,eh,rfl,hx,hF,HX⟩:=hrel
  obtain⟨m,hm⟩:∃m,m=gk:=⟨gk,rfl⟩
  subst hm
  have kK:=zh hF hO
  by_cases bj:k<l.length
  ·obtain⟨g,kT,hv,r0⟩:=lq kK bj
   simp only[Value.slice.injEq]at hv
   obtain⟨hp,_,fO⟩:=hv
   subst hp fO
   have hX:=HX.out
   rw[List.drop_eq_getElem_cons bj,nJ]at hX
   cases hq:wM I.K f l[k] a sx with
   | none=>rw[hq]at hX;cases hX
   | some y=>
    obtain⟨t1,s1⟩:=y
    rw[hq]at hX
    simp only at hX
    have hC:=hS l[k] a sx t1 s1 Cr wr (hl _ (List.getElem_mem bj)) ha hx hq
    unfold aw aO at hC
    unfold aO at r0
    obtain⟨pq,lX⟩:∃pq,pq=I.P.getD l[k] 0:=⟨_,rfl⟩
    rw[<-lX]at hC r0
    have HQ:=ae hX
    clear hX HX hq lX HR
    go_wp2_with fail
    refine hC.mono ?_
    rintro e w7 ⟨rfl,jP,h7,Gn⟩
    have M2:=hF.trans Gn
    by_cases ht:t1=-1
    ·have H2:Hid (nJ (fun j s=>wM I.K f j a s) (l.drop (k+1)) s1=some (t,s')):=by
      have:=HQ.out
      rw[if_pos ht]at this
      exact this
     subst ht
     clear HQ hC
     go_wp2
     go_roundg (m-1)
     case measure=>have:=eh.out;omega
     case rel=>exact⟨k+1,jP,s1,by have:=eh.out;unfold Hid;omega,by go_num,h7,M2,H2.out⟩
    ·have H2:Hid (t1=t/\s1=s'):=by
      have:=HQ.out
      rw[if_neg ht]at this
      unfold Hid
      simpa using this
     have q:(t1 != -1)=true:=by simpa using ht
     clear HQ hC
     go_wp2
     go_ret
     obtain⟨rfl,rfl⟩:=H2.out
     exact⟨rfl,jP,h7,M2⟩
  ·have H2:Hid (t=-1/\s'=sx):=by
    have:=HX.out
    rw[List.drop_eq_nil_of_le (by omega),nJ]at this
    simp only[Option.some.injEq,Prod.mk.injEq]at this
    exact⟨this.1.symm,this.2.symm⟩
   clear HX HR
   go_wp2
   go_ret
   obtain⟨h1,h2⟩:=H2.out
   rw[h1,h2]
   exact⟨rfl,Cr,hx,hF⟩
theorem LW {I:Wi}(hI:Ic I){f:Nat}(hS:lA I f)(base a:Nat)(v:Value)(l:List Nat)(t:Int)(s s':Wt)(mv:Value)(w:World)(ha:a<=I.K.len)(hO:w.ownsRow base 187 1 v l.length (l.map (aO I.P)))(hl:∀j∈l,zQ I j)(AL:l.length<=9223372036854775807)(h:cQ I mv s w)(hr:tE (fun j a s=>wM I.K f j a s) l a s=some (t,s')):
  Calls Tryz.prog 192 #[aw I.wk,.int .i64 (a:Int),v] w fun e w'=>lB I mv t s' w e w':=by
 obtain⟨p,cap,hv⟩:=an hO
 subst hv
 have HR:Hid (tE (fun j a s=>wM I.K f j a s) (l.drop 0) a s=some (t,s')):=hr
 have Da:=hI.l60
 have eI:=hI.len
 clear hr
 unfold aw
 go_enter Tryz.func192,Tryz.ntmps192
 go_wp2
 go_loopg [1,11] l.length (fun n x i wx=>∃(k ax:Nat) (Cr:Value) (sx:Wt),Hid (k+n=l.length)/\i=.int .i64 k/\x=.int .i64 (ax:Int)/\ax<=I.K.len/\cQ I Cr sx wx/\Fr I.b0 mv.ownBlock Cr.ownBlock w wx/\Hid (tE (fun j a s=>wM I.K f j a s) (l.drop k) ax sx=some (t,s')))
 case atStart=>exact⟨0,a,mv,s,Nat.zero_add _,rfl,rfl,ha,h,Fr.refl _ _ _,HR.out⟩
 case round=>
  obtain⟨k,ax,Cr,sx,eh,rfl,rfl,WX,hx,hF,HX⟩:=hrel
  obtain⟨m,hm⟩:∃m,m=gk:=⟨gk,rfl⟩
  subst hm
  have kK:=zh hF hO
  by_cases bj:k<l.length
  ·obtain⟨g,kT,hv,r0⟩:=lq kK bj
   simp only[Value.slice.injEq]at hv
   obtain⟨hp,_,fO⟩:=hv
   subst hp fO
   have hX:=HX.out
   rw[List.drop_eq_getElem_cons bj,tE]at hX
   cases hq:wM I.K f l[k] ax sx with
   | none=>rw[hq]at hX;cases hX
   | some y=>
    obtain⟨t1,s1⟩:=y
    rw[hq]at hX
    simp only at hX
    have hC:=hS l[k] ax sx t1 s1 Cr wr (hl _ (List.getElem_mem bj)) WX hx hq
    have jb:=(jC f l[k] ax sx t1 s1 WX hx.sane hq).1.rng
    unfold aw aO at hC
    unfold aO at r0
    obtain⟨pq,lX⟩:∃pq,pq=I.P.getD l[k] 0:=⟨_,rfl⟩
    rw[<-lX]at hC r0
    have HQ:=ae hX
    clear hX HX hq lX HR
    go_wp2_with fail
    refine hC.mono ?_
    rintro e w7 ⟨rfl,jP,h7,Gn⟩
    have M2:=hF.trans Gn
    by_cases ht:t1=-1
    ·have H2:Hid (t=-1/\s'=s1):=by
      have:=HQ.out
      rw[if_pos ht]at this
      simp only[Option.some.injEq,Prod.mk.injEq]at this
      exact⟨this.1.symm,this.2.symm⟩
     subst ht
     clear HQ hC
     go_wp2
     go_ret
     obtain⟨h1,h2⟩:=H2.out
     rw[h1,h2]
     exact⟨rfl,jP,h7,M2⟩
    ·have H2:Hid (tE (fun j a s=>wM I.K f j a s) (l.drop (k+1)) t1.toNat s1=some (t,s')):=by
      have:=HQ.out
      rw[if_neg ht]at this
      exact this
     have q:(t1 == -1)=false:=by simpa using ht
     obtain⟨b1,dE⟩:∃b1,b1=t1.toNat:=⟨_,rfl⟩
     have eL:=jb.nat ht
     rw[<-dE]at eL H2
     have HB:Hid (t1=(b1:Int)):=eL.2.symm
     have Sf:=eL.1
     clear HQ hC jb dE eL
     go_wp2
     go_roundg (m-1)
     case measure=>have:=eh.out;omega
     case rel=>exact⟨k+1,b1,jP,s1,by have:=eh.out;unfold Hid;omega,by go_num,by rw[HB.out],Sf,h7,M2,H2.out⟩
  ·have H2:Hid (t=(ax:Int)/\s'=sx):=by
    have:=HX.out
    rw[List.drop_eq_nil_of_le (by omega),tE]at this
    simp only[Option.some.injEq,Prod.mk.injEq]at this
    exact⟨this.1.symm,this.2.symm⟩
   clear HX HR
   go_wp2
   go_ret
   obtain⟨h1,h2⟩:=H2.out
   rw[h1,h2]
   exact⟨rfl,Cr,hx,hF⟩
theorem xR {I:Wi}(hI:Ic I){f:Nat}(hS:lA I f)(i a q:Nat)(t:Int)(s s':Wt)(mv:Value)(w:World)(ha:a<=I.K.len)(hi:zQ I i)(h:cQ I mv s w)(hr:vG (fun a s=>wM I.K f i a s) q a s=some (t,s')):
  Calls Tryz.prog 194 #[aw I.wk,aO I.P i,.int .i64 (a:Int)] w fun e w'=>lB I mv t s' w e w':=by
 have HR:Hid (vG (fun a s=>wM I.K f i a s) q a s=some (t,s')):=hr
 clear hr
 have UG:=fun ax s t s' mv w ha h hq=>hS i ax s t s' mv w hi ha h hq
 unfold aw aO at UG ⊢
 generalize I.P.getD i 0=pq at *
 go_enter Tryz.func194,Tryz.ntmps194
 go_wp2
 go_loopg [2] q (fun n x wx=>∃(ax:Nat) (Cr:Value) (sx:Wt),x=.int .i64 (ax:Int)/\ax<=I.K.len/\cQ I Cr sx wx/\Fr I.b0 mv.ownBlock Cr.ownBlock w wx/\Hid (vG (fun a s=>wM I.K f i a s) n ax sx=some (t,s')))
 case atStart=>exact⟨a,mv,s,rfl,ha,h,Fr.refl _ _ _,HR.out⟩
 case round=>
  obtain⟨ax,Cr,sx,rfl,WX,hx,hF,HX⟩:=hrel
  obtain⟨m,hm⟩:∃m,m=gk:=⟨gk,rfl⟩
  subst hm
  cases m with
  | zero=>exact absurd HX.out (by simp[vG])
  | succ m=>
   have hX:=HX.out
   rw[vG]at hX
   cases hq:wM I.K f i ax sx with
   | none=>rw[hq]at hX;cases hX
   | some y=>
    obtain⟨t1,s1⟩:=y
    rw[hq]at hX
    simp only at hX
    have hC:=UG ax sx t1 s1 Cr wr WX hx hq
    have jb:=(jC f i ax sx t1 s1 WX hx.sane hq).1.rng
    have HQ:=ae hX
    clear hX HX hq HR
    go_wp2_with fail
    refine hC.mono ?_
    rintro e w7 ⟨rfl,jP,h7,Gn⟩
    have M2:=hF.trans Gn
    by_cases ht:t1=-1
    ·have H2:Hid (t=(ax:Int)/\s'=s1):=by
      have:=HQ.out
      rw[if_pos ht]at this
      simp only[Option.some.injEq,Prod.mk.injEq]at this
      exact⟨this.1.symm,this.2.symm⟩
     subst ht
     clear HQ hC
     go_wp2
     go_ret
     obtain⟨h1,h2⟩:=H2.out
     rw[h1,h2]
     exact⟨rfl,jP,h7,M2⟩
    ·have H2:Hid (vG (fun a s=>wM I.K f i a s) m t1.toNat s1=some (t,s')):=by
      have:=HQ.out
      rw[if_neg ht]at this
      exact this
     have q:(t1 == -1)=false:=by simpa using ht
     obtain⟨b1,dE⟩:∃b1,b1=t1.toNat:=⟨_,rfl⟩
     have eL:=jb.nat ht
     rw[<-dE]at eL H2
     have HB:Hid (t1=(b1:Int)):=eL.2.symm
     have Sf:=eL.1
     clear HQ hC jb dE eL
     go_wp2
     go_roundg m
     case measure=>omega
     case rel=>exact⟨b1,jP,s1,by rw[HB.out],Sf,h7,M2,H2.out⟩
theorem Ly {I:Wi}(hI:Ic I){f:Nat}(hS:lA I f)(i a:Nat)(t:Int)(s s':Wt)(mv:Value)(w:World)(ha:a<=I.K.len)(hi:zQ I i)(h:cQ I mv s w)(hr:(wM I.K f i a s).map (fun x=>if x.1=-1 then ((a:Int),x.2) else x)=some (t,s')):
  Calls Tryz.prog 193 #[aw I.wk,aO I.P i,.int .i64 (a:Int)] w fun e w'=>lB I mv t s' w e w':=by
 cases hq:wM I.K f i a s with
 | none=>rw[hq]at hr;cases hr
 | some y=>
  obtain⟨t1,s1⟩:=y
  rw[hq]at hr
  simp only[Option.map_some,Option.some.injEq]at hr
  have hC:=hS i a s t1 s1 mv w hi ha h hq
  unfold aw aO at hC ⊢
  generalize I.P.getD i 0=pq at *
  by_cases ht:t1=-1
  ·rw[if_pos ht]at hr
   simp only[Prod.mk.injEq]at hr
   obtain⟨rfl,rfl⟩:=hr
   subst ht
   go_enter Tryz.func193,Tryz.ntmps193
   go_wp2_with fail
   refine hC.mono ?_
   rintro e w7 ⟨rfl,jP,h7,Gn⟩
   go_wp2
   go_ret
   exact⟨rfl,jP,h7,Gn⟩
  ·rw[if_neg ht]at hr
   simp only[Prod.mk.injEq]at hr
   obtain⟨rfl,rfl⟩:=hr
   have q:(t1 == -1)=false:=by simpa using ht
   go_enter Tryz.func193,Tryz.ntmps193
   go_wp2_with fail
   refine hC.mono ?_
   rintro e w7 ⟨rfl,jP,h7,Gn⟩
   go_wp2
   go_ret
   exact⟨rfl,jP,h7,Gn⟩
theorem Hi {I:Wi}(hI:Ic I){f:Nat}(hS:lA I f)(i a q:Nat)(t:Int)(s s':Wt)(mv:Value)(w:World)(ha:a<=I.K.len)(hi:zQ I i)(h:cQ I mv s w)
  (hr:(match wM I.K f i a s with | none=>none | some (t,s')=>if t=-1 then some (-1,s') else vG (fun a s=>wM I.K f i a s) q t.toNat s')=some (t,s')):
  Calls Tryz.prog 195 #[aw I.wk,aO I.P i,.int .i64 (a:Int)] w fun e w'=>lB I mv t s' w e w':=by
 cases hq:wM I.K f i a s with
 | none=>rw[hq]at hr;cases hr
 | some y=>
  obtain⟨t1,s1⟩:=y
  rw[hq]at hr
  simp only at hr
  have hC:=hS i a s t1 s1 mv w hi ha h hq
  have jb:=(jC f i a s t1 s1 ha h.sane hq).1.rng
  by_cases ht:t1=-1
  ·rw[if_pos ht]at hr
   simp only[Option.some.injEq,Prod.mk.injEq]at hr
   obtain⟨rfl,rfl⟩:=hr
   subst ht
   unfold aw aO at hC ⊢
   generalize I.P.getD i 0=pq at *
   go_enter Tryz.func195,Tryz.ntmps195
   go_wp2_with fail
   refine hC.mono ?_
   rintro e w7 ⟨rfl,jP,h7,Gn⟩
   go_wp2
   go_ret
   exact⟨rfl,jP,h7,Gn⟩
  ·rw[if_neg ht]at hr
   have q2:(t1 == -1)=false:=by simpa using ht
   obtain⟨b1,dE⟩:∃b1,b1=t1.toNat:=⟨_,rfl⟩
   have eL:=jb.nat ht
   rw[<-dE]at eL hr
   have Yc:=fun jP w7 h7=>xR hI hS i b1 q t s1 s' jP w7 eL.1 hi h7 hr
   obtain⟨rfl⟩:t1=(b1:Int):=eL.2.symm
   unfold aw aO at hC Yc ⊢
   generalize I.P.getD i 0=pq at *
   clear jb dE hr hq
   go_enter Tryz.func195,Tryz.ntmps195
   go_wp2_with fail
   refine hC.mono ?_
   rintro e w7 ⟨rfl,jP,h7,Gn⟩
   go_wp2_with fail
   refine(Yc jP w7 h7).mono ?_
   rintro e w8 ⟨rfl,mv8,h8,M2⟩
   go_wp2
   go_ret
   exact⟨rfl,mv8,h8,Gn.trans M2⟩
theorem LN {w:World}{base:Nat}{v:Value}{rs:List (Nat × Nat)}(h:w.ownsRow base 321 2 v rs.length (rs.flatMap Ho)){k:Nat}(hk:k<rs.length):
  ∃g cap,v=.slice (some ⟨g,0,none⟩) rs.length cap/\w.cell? ⟨g,k*2,none⟩=some (.int .u8 (rs[k].1:Int))/\w.cell? ⟨g,k*2+1,none⟩=some (.int .u8 (rs[k].2:Int)):=by
 obtain⟨g,cap,hv,_,_⟩:=h.form (by omega)
 subst hv
 have hf:∀a:Nat × Nat,(Ho a).length=2:=fun _=>rfl
 refine⟨g,cap,rfl,?_,?_⟩
 ·rw[h.cellAt (k*2) (by omega)]
  have:=ep Ho 2 hf rs k 0 (by omega) hk
  rw[Nat.add_zero]at this
  rw[this];rfl
 ·rw[h.cellAt (k*2+1) (by omega),ep Ho 2 hf rs k 1 (by omega) hk];rfl
theorem De (a z c kb:Nat)(w:World)(hk:w.cell? ⟨kb,0,none⟩=some (.int .u8 (c:Int))):
  Calls Tryz.prog 211 #[.agg #[.int .u8 (a:Int),.int .u8 (z:Int)],.pointer (some ⟨kb,0,none⟩)] w fun e w'=>e=.returned (.bool (decide (a<=c/\c<=z)))/\aa (fun _=>False) w w':=by
 have bj:=jL hk
 have eW:kb≠w.heap.size:=fun e=>by subst e;exact Nat.lt_irrefl _ bj
 have qc3:¬w.heap.size=kb:=fun e=>eW e.symm
 by_cases h1:a<=c
 ·have q1:(a:Int)<=(c:Int):=by omega
  go_enter Tryz.func211,Tryz.ntmps211
  go_wp2
  go_ret
  refine⟨?_,(aa.refl _ _).alloc _⟩
  simp[h1]
 ·have q1:¬(a:Int)<=(c:Int):=by omega
  go_enter Tryz.func211,Tryz.ntmps211
  go_wp2
  go_ret
  refine⟨?_,(aa.refl _ _).alloc _⟩
  simp[h1]
theorem uD (base:Nat)(v:Value)(rs:List (Nat × Nat))(c kb:Nat)(w:World)(hk:w.cell? ⟨kb,0,none⟩=some (.int .u8 (c:Int)))(hO:w.ownsRow base 321 2 v rs.length (rs.flatMap Ho))(hl:rs.length<=5000):
  Calls Tryz.prog 214 #[v,.func (.func 211) #[] #[.pointer (some ⟨kb,0,none⟩)]] w fun e w'=>∃i:Int,e=.returned (.int .i64 i)/\(0<=i ↔ wB rs c=true)/\aa (fun _=>False) w w':=by
 obtain⟨p,cap,dU⟩:=an hO
 subst dU
 have uz:=jL hk
 go_enter Tryz.func214,Tryz.ntmps214
 go_wp2
 go_loopg [8] rs.length (fun n i wx=>∃k:Nat,Hid (k+n=rs.length)/\i=.int .i64 k/\Hid (∀j (h:j<rs.length),j<k->¬(rs[j].1<=c/\c<=rs[j].2))/\aa (fun _=>False) w wx)
 case atStart=>exact⟨0,Nat.zero_add _,rfl,fun j _ h=>absurd h (by omega),aa.refl _ _⟩
 case round=>
  obtain⟨k,eh,rfl,HA,hK⟩:=hrel
  obtain⟨m,hm⟩:∃m,m=gk:=⟨gk,rfl⟩
  subst hm
  have kK:=aC hO hK (fun _ _ h=>h)
  have ti:wr.cell? ⟨kb,0,none⟩=some (.int .u8 (c:Int)):=by rw[hK.cell (p:=⟨kb,0,none⟩) uz (fun h=>h)];exact hk
  by_cases bj:k<rs.length
  ·obtain⟨gb,kT,dU,r0,r1⟩:=LN kK bj
   simp only[Value.slice.injEq]at dU
   obtain⟨hp,_,fO⟩:=dU
   subst hp fO
   have hf:=De rs[k].1 rs[k].2 c kb wr ti
   go_wp2_with fail
   refine hf.mono ?_
   rintro e w7 ⟨rfl,eE⟩
   have lM:=hK.trans eE
   by_cases sl:rs[k].1<=c/\c<=rs[k].2
   ·have q:decide (rs[k].1<=c/\c<=rs[k].2)=true:=by simpa using sl
    have HF:Hid (wB rs c=true):=by
     unfold Hid wB
     rw[List.any_eq_true]
     exact⟨rs[k],List.getElem_mem bj,by simpa using sl⟩
    rw[q]
    clear sl HA q
    go_wp2
    go_ret
    exact⟨(k:Int),rfl,⟨fun _=>HF.out,fun _=>by omega⟩,lM⟩
   ·have q:decide (rs[k].1<=c/\c<=rs[k].2)=false:=by simpa using sl
    have HF:Hid (∀j (h:j<rs.length),j<k+1->¬(rs[j].1<=c/\c<=rs[j].2)):=fun j h hj=>by
     rcases Nat.lt_or_eq_of_le (Nat.lt_succ_iff.1 hj) with h1 | h1
     ·exact HA.out j h h1
     ·subst h1;exact sl
    rw[q]
    clear sl HA q
    go_wp2
    go_roundg (m-1)
    case measure=>have:=eh.out;omega
    case rel=>exact⟨k+1,by have:=eh.out;unfold Hid;omega,by go_num,HF,lM⟩
  ·have HF:Hid (wB rs c=false):=by
    unfold Hid wB
    rw[List.any_eq_false]
    intro x hx
    obtain⟨j,hj,rfl⟩:=List.getElem_of_mem hx
    simpa using HA.out j hj (by omega)
   clear HA
   go_wp2
   go_ret
   exact⟨-1,rfl,⟨fun h=>absurd h (by decide),fun h=>by rw[HF.out]at h;cases h⟩,hK⟩
theorem GE (base:Nat)(v:Value)(rs:List (Nat × Nat))(c:Nat)(w:World)(hO:w.ownsRow base 321 2 v rs.length (rs.flatMap Ho))(hl:rs.length<=5000):
  Calls Tryz.prog 205 #[.int .u8 (c:Int),v] w fun e w'=>e=.returned (.bool (wB rs c))/\aa (fun _=>False) w w':=by
 have hmf:∀(fn:Fn) (first cap:Array Value) (w:World),(Instr.makeFunc fn first cap).run Tryz.prog w=.ok (.func fn first cap) w:=fun _ _ _ _=>rfl
 obtain⟨p,cap,dU⟩:=an hO
 have Kp:=uD base v rs c w.heap.size (w.alloc (.cells #[.int .u8 (c:Int)] 5)) (by unfold World.cell?;rw[heap_alloc_new];rfl) (hO.alloc _) hl
 have kf:Calls Tryz.prog 210 #[v,.func (.func 211) #[] #[.pointer (some ⟨w.heap.size,0,none⟩)]] (w.alloc (.cells #[.int .u8 (c:Int)] 5)) fun e w'=>e=.returned (.bool (wB rs c))/\aa (fun _=>False) (w.alloc (.cells #[.int .u8 (c:Int)] 5)) w':=by
  subst dU
  go_enter Tryz.func210,Tryz.ntmps210
  go_wp2_with fail
  refine Kp.mono ?_
  rintro e w1 ⟨i,rfl,hi,hK⟩
  by_cases h0:0<=i
  ·have HI:Hid (wB rs c=true):=hi.1 h0
   clear hi
   go_wp2
   go_ret
   refine⟨?_,hK⟩
   rw[HI.out]
   simp[h0]
  ·have HI:Hid (wB rs c=false):=by
    unfold Hid
    cases hq:wB rs c with
    | false=>rfl
    | true=>exact absurd (hi.2 hq) h0
   clear hi
   go_wp2
   go_ret
   refine⟨?_,hK⟩
   rw[HI.out]
   simp[h0]
 subst dU
 go_enter Tryz.func205,Tryz.ntmps205
 go_wp2_with fail
 refine kf.mono ?_
 rintro e w1 ⟨rfl,hK⟩
 go_wp2
 go_ret
 exact⟨rfl,((aa.refl _ w).alloc _).trans hK⟩
theorem vZ (s t:ByteArray)(w:World)(hs:s.size<=1000)(ht:t.size<=1000):
  Calls Tryz.prog 204 #[.string s,.string t] w fun e w'=>e=.returned (.bool (decide (t.size<=s.size)&&((s.extract 0 t.size).toList == t.toList)))/\w'=w:=by
 have h2:Calls Tryz.prog 209 #[.string s,.string t] w fun e w'=>e=.returned (.bool (decide (t.size<=s.size)&&((s.extract 0 t.size).toList == t.toList)))/\w'=w:=by
  by_cases h:t.size<=s.size
  ·have q:(s.size:Int) ≥ (t.size:Int):=by omega
   have q2:¬(s.size:Int)<(t.size:Int):=by omega
   go_enter Tryz.func209,Tryz.ntmps209
   go_wp2
   go_ret
   exact⟨rfl,rfl⟩
  ·have q:¬(s.size:Int) ≥ (t.size:Int):=by omega
   go_enter Tryz.func209,Tryz.ntmps209
   go_wp2
   go_ret
   exact⟨rfl,rfl⟩
 go_enter Tryz.func204,Tryz.ntmps204
 go_wp2_with fail
 refine h2.mono ?_
 rintro e w1 ⟨rfl,rfl⟩
 go_wp2
 go_ret
 exact⟨rfl,rfl⟩
theorem mW {s:ByteArray}{a n:Nat}(t:List UInt8)(hn:t.length=n)(h:a+n<=s.size):((s.data.toList.drop a).take n=t) ↔ ∀k,k<n->am s (a+k)=(t.getD k 0).toNat:=by
 have hl:s.data.toList.length=s.size:=Array.length_toList
 constructor
 ·rintro rfl k hk
  have co:a+k<s.data.toList.length:=by omega
  unfold am
  simp only[List.getD_eq_getElem?_getD]
  rw[List.getElem?_take_of_lt hk,List.getElem?_drop]
 ·intro hb
  apply List.ext_getElem
  ·rw[List.length_take,List.length_drop];omega
  ·intro k h1 h2
   have hk:k<n:=by omega
   have co:a+k<s.data.toList.length:=by omega
   have:=hb k hk
   unfold am at this
   simp only[List.getD_eq_getElem?_getD,List.getElem?_eq_getElem co,List.getElem?_eq_getElem h2,Option.getD_some]at this
   rw[List.getElem_take,List.getElem_drop]
   exact UInt8.toNat_inj.1 this
theorem TK (s:ByteArray)(a:Nat)(t:List UInt8)(ha:a<=s.size):(decide ((ba t).size<=(s.extract a s.size).size)&&(((s.extract a s.size).extract 0 (ba t).size).toList == (ba t).toList))=sY (am s) s.size a t:=by
 have Ob:(ba t).size=t.length:=by show t.toArray.size=_;simp
 have M8:(s.extract a s.size).size=s.size-a:=by simp[ByteArray.size_extract]
 rw[Ob,M8]
 unfold sY
 by_cases h:a+t.length<=s.size
 ·have h1:t.length<=s.size-a:=by omega
  rw[decide_eq_true h,decide_eq_true h1,Bool.true_and,Bool.true_and]
  have hx:(s.extract a s.size).extract 0 t.length=ba ((s.data.toList.drop a).take t.length):=by
   rw[kQ (s.extract a s.size) 0 t.length (by rw[M8];exact h1),kQ s a s.size (Nat.le_refl _)]
   have hl:s.data.toList.length=s.size:=Array.length_toList
   congr 1
   show (((((s.data.toList.drop a).take (s.size-a)).toArray).toList).drop 0).take (t.length-0)=_
   rw[List.drop_zero,Nat.sub_zero,List.toList_toArray,List.take_take,Nat.min_eq_left h1]
  rw[hx,dS,dS,Bool.eq_iff_iff,beq_iff_eq,mW t rfl h,List.all_eq_true]
  constructor
  ·intro hb k hk
   simpa using hb k (List.mem_range.1 hk)
  ·intro hb k hk
   simpa using hb k (List.mem_range.2 hk)
 ·have h1:¬t.length<=s.size-a:=by omega
  rw[decide_eq_false h,decide_eq_false h1]
  rfl
def sZ (s:ByteArray)(N:Nd)(a:Nat):Int:=match mX (am s) s.size N a with | some t=>(t:Int)-a | none=>-1
theorem BO {base:Nat}{S:Nat->Prop}{P:List Nat}{r:Int}{N:Nd}{k:Nat}(s:ByteArray)(a:Nat)(w:World)(h:iG w base S P r N k)(hk:N.kind<=2)(ha:a<=s.size)(hs:s.size<=60)(Dp:N.text.length<=1000)(Cn:N.rng.length<=5000):
  Calls Tryz.prog 200 #[aw k,.string (s.extract a s.size)] w fun e w'=>e=.returned (.int .i64 (sZ s N a))/\aa (fun _=>False) w w':=by
 obtain⟨z,vR,vP,hb,_,hR,_,_,_⟩:=h
 have c0:w.cell? ⟨k,0,none⟩=some (.int .i64 (cu N.kind)):=by simp[World.cell?,hb,Fx]
 have c4:w.cell? ⟨k,4,none⟩=some (.string (ba N.text)):=by simp[World.cell?,hb,Fx]
 have c5:w.cell? ⟨k,5,none⟩=some vR:=by simp[World.cell?,hb,Fx]
 have Ob:(ba N.text).size=N.text.length:=by show N.text.toArray.size=_;simp
 have M8:(s.extract a s.size).size=s.size-a:=by simp[ByteArray.size_extract]
 clear hb
 unfold aw
 by_cases h0:N.kind=0
 ·have gC:cu N.kind=1:=by rw[h0];rfl
  rw[gC]at c0
  have hH:=vZ (s.extract a s.size) (ba N.text) w (by omega) (by omega)
  rw[TK s a N.text ha]at hH
  cases hl:sY (am s) s.size a N.text with
  | true=>
   rw[hl]at hH
   have HS:Hid (sZ s N a=(N.text.length:Int)):=by
    unfold Hid sZ mX
    rw[if_pos h0,if_pos hl]
    simp only;omega
   go_enter Tryz.func200,Tryz.ntmps200
   go_wp2_with fail
   refine hH.mono ?_
   rintro e w1 ⟨rfl,rfl⟩
   go_wp2
   go_ret
   refine⟨?_,aa.refl _ _⟩
   rw[HS.out,<-Ob];rfl
  | false=>
   rw[hl]at hH
   have HS:Hid (sZ s N a=-1):=by
    unfold Hid sZ mX
    rw[if_pos h0,if_neg (by rw[hl];simp)]
   go_enter Tryz.func200,Tryz.ntmps200
   go_wp2_with fail
   refine hH.mono ?_
   rintro e w1 ⟨rfl,rfl⟩
   go_wp2
   go_ret
   refine⟨?_,aa.refl _ _⟩
   rw[HS.out];rfl
 ·have Xz:(cu N.kind == 1)=false:=by
   unfold cu;rw[if_neg (by omega),if_pos hk]
   simp;omega
  by_cases lN:a=s.size
  ·have he:s.extract a s.size=⟨#[]⟩:=by rw[lN];apply ByteArray.ext;simp
   have HS:Hid (sZ s N a=-1):=by
    unfold Hid sZ mX
    rw[if_neg h0,if_neg (by omega)]
   rw[he]
   go_enter Tryz.func200,Tryz.ntmps200
   go_wp2_with fail
   go_quiet (fail)
   go_wp2
   go_ret
   refine⟨?_,(aa.refl _ _).drewN _⟩
   rw[HS.out];rfl
  ·obtain⟨T,hT⟩:∃T,T=s.extract a s.size:=⟨_,rfl⟩
   rw[<-hT]at M8 ⊢
   have hTs:0<T.size:=by omega
   have hT0:T[0].toNat=am s a:=by
    rw[cZ (show a<s.size by omega)]
    congr 1
    subst hT
    simp[ByteArray.getElem_extract]
   have WR:(T.toList == (⟨#[]⟩:ByteArray).toList)=false:=by
    rw[beq_eq_false_iff_ne]
    intro e
    have:=congrArg List.length e
    simp[ByteArray.toList_eq]at this
    rw[this]at hTs
    simp at hTs
   have hTe:T.toList.isEmpty=false:=by
    cases hq:T.toList with
    | nil=>rw[hq]at WR;simp at WR
    | cons x l=>rfl
   have qb7:=UInt8.toNat_lt T[0]
   clear hT
   by_cases h1:N.kind=1
   ·have gC:cu N.kind=2:=by rw[h1];rfl
    rw[gC]at c0 Xz
    have hH:=fun W hW=>GE base vR N.rng (am s a) W hW Cn
    have HS:Hid (sZ s N a=if wB N.rng (am s a) then 1 else -1):=by
     unfold Hid sZ mX
     rw[if_neg h0]
     by_cases fm:wB N.rng (am s a)=true
     ·rw[if_pos ⟨by omega,.inr fm⟩,if_pos fm];simp only;omega
     ·rw[if_neg (fun x=>by
       rcases x.2 with e | e
       ·omega
       ·exact fm e),if_neg fm]
    obtain⟨pp,cap,E2⟩:=an hR
    subst E2
    go_enter Tryz.func200,Tryz.ntmps200
    go_wp2_with fail
    have uz:=av c0
    go_region_held3 (fun w'=>w'.cell? ⟨k,0,none⟩=some (.int .i64 2)/\w'.cell? ⟨k,5,none⟩=some (.slice pp N.rng.length cap)) (go_keep) ((go_at_call 205;refine(hH w.drew hR).mono ?_;rintro e w1 ⟨rfl,dd⟩;have d0:w1.cell? ⟨k,0,none⟩=some (.int .i64 2):=(dd.cell (p:=⟨k,0,none⟩) uz (fun x=>x)).trans c0;have d5:w1.cell? ⟨k,5,none⟩=some (.slice pp N.rng.length cap):=(dd.cell (p:=⟨k,5,none⟩) uz (fun x=>x)).trans c5))
    cases hq:wB N.rng (am s a)
    ·rw[hq]at HS
     go_wp2
     go_ret
     refine⟨?_,(aa.refl (fun _=>False) w).drew.trans dd⟩
     rw[HS.out];rfl
    ·rw[hq]at HS
     go_wp2
     go_ret
     refine⟨?_,(aa.refl (fun _=>False) w).drew.trans dd⟩
     rw[HS.out];rfl
   ·have gC:cu N.kind=3:=by rw[show N.kind=2 by omega];rfl
    rw[gC]at c0 Xz
    have HS:Hid (sZ s N a=1):=by
     unfold Hid sZ mX
     rw[if_neg h0,if_pos ⟨by omega,.inl (by omega)⟩]
     simp only;omega
    go_enter Tryz.func200,Tryz.ntmps200
    go_wp2_with fail
    go_quiet (fail)
    go_wp2
    go_ret
    refine⟨?_,(aa.refl _ _).drewN _⟩
    rw[HS.out];rfl
theorem qp {x:Nat}(h:x<2^64):IntKind.u64.wrap (x:Int)=(x:Int):=by
 unfold IntKind.wrap
 have h2:IntKind.u64.bits=64:=rfl
 have h3:IntKind.u64.signed=false:=rfl
 rw[h2,h3]
 simp only[Bool.false_and,Bool.false_eq_true,if_false]
 omega
theorem yl {x:Nat}(h:x<2^64):(BitVec.ofInt 64 (x:Int)).toNat=x:=by
 rw[BitVec.ofInt_natCast,BitVec.toNat_ofNat]
 exact Nat.mod_eq_of_lt h
theorem TS {x y:Nat}(hx:x<2^64)(hy:y<2^64):bits BinOp.or IntKind.u64 (x:Int) (y:Int)=((x ||| y:Nat):Int):=by
 have h:bits BinOp.or IntKind.u64 (x:Int) (y:Int)=IntKind.u64.wrap (((BitVec.ofInt 64 (x:Int) ||| BitVec.ofInt 64 (y:Int)).toNat:Nat):Int):=rfl
 rw[h,BitVec.toNat_or,yl hx,yl hy,qp (Nat.or_lt_two_pow hx hy)]
theorem NN {x y:Nat}(hx:x<2^64)(hy:y<2^64):bits BinOp.and IntKind.u64 (x:Int) (y:Int)=((x &&& y:Nat):Int):=by
 have h:bits BinOp.and IntKind.u64 (x:Int) (y:Int)=IntKind.u64.wrap (((BitVec.ofInt 64 (x:Int) &&& BitVec.ofInt 64 (y:Int)).toNat:Nat):Int):=rfl
 rw[h,BitVec.toNat_and,yl hx,yl hy,qp (Nat.and_lt_two_pow x hy)]
theorem Lz {f t:Nat}(hf:f<2^40)(ht:t<40):bits BinOp.or IntKind.u64 (f:Int) (IntKind.u64.wrap (2^t))=((f ||| 2^t:Nat):Int):=by
 have h1:(2:Nat)^t<2^64:=Nat.pow_lt_pow_right (by decide) (by omega)
 have h2:((2:Int)^t)=((2^t:Nat):Int):=by push_cast;rfl
 rw[h2,qp h1]
 exact TS (Nat.lt_of_lt_of_le hf (by decide)) h1
theorem EA {p:Int}{f a t:Nat}(hf:f<2^40)(ht:t<40):(fI (p,f) (a,t)).2<2^40:=by
 have h1:(2:Nat)^t<2^40:=Nat.pow_lt_pow_right (by decide) ht
 unfold fI
 split
 ·exact h1
 ·split
  ·exact Nat.or_lt_two_pow hf h1
  ·exact hf
structure Vq (wk:Nat)(x0 x1 x2 x3 x4 x5 x8:Value)(F:Int × Nat)(w:World)(e:Ending)(w':World):Prop where
 res:e=.returned (.tuple #[])
 blk:w'.heap[wk]?=some (.cells #[x0,x1,x2,x3,x4,x5,.int .i64 F.1,.int .u64 (F.2:Int),x8] 159 (0,0))
 kept:aa (·=wk) w w'
theorem CU (wk t a:Nat)(p:Int)(f:Nat)(x0 x1 x2 x3 x4 x5 x8:Value)(w:World)(hb:w.heap[wk]?=some (.cells #[x0,x1,x2,x3,x4,x5,.int .i64 p,.int .u64 (f:Int),x8] 159 (0,0)))(ht:t<40)(hf:f<2^40)(ha:a<=60)(hp:-1<=p/\p<=60):
  Calls Tryz.prog 201 #[.pointer (some ⟨wk,6,none⟩),.int .i64 (t:Int),.int .i64 (a:Int)] w fun e w'=>Vq wk x0 x1 x2 x3 x4 x5 x8 (fI (p,f) (a,t)) w e w':=by
 have h0:w.cell? ⟨wk,6,none⟩=some (.int .i64 p):=by simp[World.cell?,hb]
 have h1:w.cell? ⟨wk,7,none⟩=some (.int .u64 (f:Int)):=by simp[World.cell?,hb]
 have f0:w.frozen? ⟨wk,6,none⟩=false:=by simp[World.frozen?,hb]
 have f1:w.frozen? ⟨wk,7,none⟩=false:=by simp[World.frozen?,hb]
 by_cases h:p<(a:Int)
 ·have HF:Hid (fI (p,f) (a,t)=((a:Int),2^t)):=by unfold Hid fI;rw[if_pos h]
  have HO:Hid (bits BinOp.or IntKind.u64 0 (IntKind.u64.wrap (2^t))=((2^t:Nat):Int)):=by
   have:=Lz (f:=0) (t:=t) (by decide) ht
   unfold Hid
   simpa using this
  go_enter Tryz.func201,Tryz.ntmps201
  go_wp2
  go_region
  go_end0
  rw[HF.out]
  refine⟨rfl,?_,((((aa.refl (·=wk) w).setCell (p:=⟨wk,6,none⟩) (fun _=>rfl) _).setCell (p:=⟨wk,7,none⟩) (fun _=>rfl) _).setCell (p:=⟨wk,7,none⟩) (fun _=>rfl) _).drew⟩
  rw[World.drew_heap',aj (aj (aj hb 6 _) 7 _) 7 _,HO.out]
  simp
 ·by_cases h2:p=(a:Int)
  ·subst h2
   have HF:Hid (fI ((a:Int),f) (a,t)=((a:Int),f ||| 2^t)):=by unfold Hid fI;rw[if_neg h,if_pos rfl]
   have HO:Hid (bits BinOp.or IntKind.u64 (f:Int) (IntKind.u64.wrap (2^t))=((f ||| 2^t:Nat):Int)):=Lz hf ht
   go_enter Tryz.func201,Tryz.ntmps201
   go_wp2
   go_region
   go_end0
   rw[HF.out]
   refine⟨rfl,?_,((aa.refl (·=wk) w).setCell (p:=⟨wk,7,none⟩) (fun _=>rfl) _).drew⟩
   rw[World.drew_heap',aj hb 7 _,HO.out]
   simp
  ·have HF:Hid (fI (p,f) (a,t)=(p,f)):=by unfold Hid fI;rw[if_neg h,if_neg h2]
   have q:((a:Int) == p)=false:=beq_eq_false_iff_ne.2 (fun e=>h2 e.symm)
   go_enter Tryz.func201,Tryz.ntmps201
   go_wp2
   go_end0
   rw[HF.out]
   exact⟨rfl,hb,aa.refl _ _⟩
theorem Er {w:World}{b0:Nat}{mv:Value}{MB:List Nat}(h:w.ownsRow b0 147 1 mv MB.length (MB.map aw)){k:Nat}(hk:k<=MB.length):
  ∃p c,mv=.slice p MB.length c/\w.ownsRow b0 147 1 (.slice p k c) (MB.take k).length ((MB.take k).map aw)/\MB.length<=c/\c<=maxLen/\(Value.slice p k c).ownBlock=mv.ownBlock/\(p=none->k=0/\c=0/\MB=[])/\(∀a,p=some a->a.off=0/\a.spot=none):=by
 have bj:(MB.take k).length=k:=by rw[List.length_take];omega
 rcases h.2 with⟨h1,h2⟩ | ⟨g,cap,gz,h1,h2,h3,h4,h5,h6,h7⟩
 ·have Cj:k=0:=by omega
  subst Cj
  refine⟨none,0,by rw[h1,h2],?_,by omega,by decide,by rw[h1],fun _=>⟨rfl,rfl,List.eq_nil_of_length_eq_zero h2⟩,fun a e=>(by cases e)⟩
  simp
  exact World.ownsRow_nil _ _ _ _
 ·refine⟨some ⟨g,0,none⟩,cap,h1,⟨by rw[List.length_map,bj,Nat.mul_one],.inr ⟨g,cap,gz,by rw[bj],h2,h3,by omega,h5,h6,?_⟩⟩,h4,h5,by rw[h1];rfl,fun e=>(by cases e),fun a e=>(by cases e;exact⟨rfl,rfl⟩)⟩
  rw[bj,Nat.mul_one]
  rw[Nat.mul_one]at h7
  rw[List.map_take,<-h7,List.take_take,Nat.min_eq_left hk]
theorem F2.take {α β:Type}{P:α->β->Prop}{l:List α}{m:List β}(h:F2 P l m):∀k,F2 P (l.take k) (m.take k):=by
 induction h with
 | nil=>intro k;simp;exact .nil
 | cons hp hr ih=>
  intro k
  cases k with
  | zero=>exact .nil
  | succ k=>exact .cons hp (ih k)
theorem F2.drop {α β:Type}{P:α->β->Prop}{l:List α}{m:List β}(h:F2 P l m):∀k,F2 P (l.drop k) (m.drop k):=by
 induction h with
 | nil=>intro k;simp;exact .nil
 | cons hp hr ih=>
  intro k
  cases k with
  | zero=>exact .cons hp hr
  | succ k=>exact ih k
theorem Pg {I:Wi}{mv:Value}{s:Wt}{w:World}(h:cQ I mv s w)(v:Value)(q:Nat):aa (·=I.wk) w (w.setCell ⟨I.wk,q,none⟩ v):=(aa.refl (·=I.wk) w).setCell (p:=⟨I.wk,q,none⟩) (fun _=>rfl) _
theorem cQ.cut {I:Wi}(hI:Ic I){mv:Value}{s:Wt}{w:World}(h:cQ I mv s w){k:Nat}(hk:k<=s.mt.length):
  ∃p c,mv=.slice p s.mt.length c/\s.mt.length<=c/\c<=maxLen/\(p=none->k=0/\c=0/\s.mt=[])/\(∀a,p=some a->a.off=0/\a.spot=none)/\cQ I (.slice p k c) { s with mt:=s.mt.take k } (w.setCell ⟨I.wk,5,none⟩ (.slice p k c))/\(Value.slice p k c).ownBlock=mv.ownBlock/\Fr I.b0 mv.ownBlock mv.ownBlock w (w.setCell ⟨I.wk,5,none⟩ (.slice p k c)):=by
 obtain⟨MB,h1,h2⟩:=h.mt
 have hl:MB.length=s.mt.length:=h2.len
 obtain⟨p,c,e1,e2,e3,e4,e5,e6,e7⟩:=Er h1 (show k<=MB.length by omega)
 have fU:=Pg h (.slice p k c) 5
 have hf:=h.wkF hI fU
 refine⟨p,c,by rw[<-hl];exact e1,by omega,e4,fun e=>?_,e7,?_,e5,hf⟩
 ·obtain⟨a1,a2,a3⟩:=e6 e
  refine⟨a1,a2,?_⟩
  rw[a3]at hl
  exact List.eq_nil_of_length_eq_zero hl.symm
 ·refine h.turn (mv':=.slice p k c) fU (by rw[e5];exact hf) h.wkK (aj h.blk 5 _) rfl ⟨MB.take k,aC e2 fU (fun i hi e=>?_),?_⟩ ?_ ?_ rfl h.far1 h.far2
  ·have e':i=I.wk:=e
   obtain⟨cc,hc⟩:=ak e2 hi
   rw[e',show ai w I.wk=_ from h.blk]at hc
   simp at hc
  ·rw[e5]
   exact(h2.take k).mono (fun a b _ hr=>hr.fr hf)
  ·rw[fU.block I.kb (ag (show ai w I.kb=_ from h.kn)) (fun e=>by
    have e':I.kb=I.wk:=e
    have:=h.kn
    rw[e',h.blk]at this;simp at this)]
   exact h.kn
  ·refine⟨h.sane.cnt,h.sane.dn,?_,h.sane.hits,h.sane.ent,h.sane.kn⟩
   have:=h.sane.mtl
   show (s.mt.take k).length<=s.cnt
   rw[List.length_take];omega
theorem rN {I:Wi}(hI:Ic I){mv:Value}{s:Wt}{w:World}(h:cQ I mv s w):Calls Tryz.prog 73 #[aw I.wk] w fun e w'=>e=.returned (.bool (decide (I.K.most<s.cnt)))/\∃n,w'=w.drewN n:=by
 obtain⟨c0,_,_,c3,_,_,_,d1,_⟩:=h.cells
 unfold aw at *
 by_cases hs:I.K.most<s.cnt
 ·have q:(s.cnt:Int) > (I.K.most:Int):=by omega
  have q':decide (I.K.most<s.cnt)=true:=by simpa using hs
  go_enter Tryz.func73,Tryz.ntmps73
  go_wp2
  go_quiet (fail)
  go_wp2
  go_ret
  exact⟨by rw[q'];rfl,_,rfl⟩
 ·have q:¬(s.cnt:Int) > (I.K.most:Int):=by omega
  have q':decide (I.K.most<s.cnt)=false:=by simpa using hs
  go_enter Tryz.func73,Tryz.ntmps73
  go_wp2
  go_quiet (fail)
  go_wp2
  go_ret
  exact⟨by rw[q'];rfl,_,rfl⟩
def PT (I:Wi)(f:Nat):Prop:=∀i a s t s' mv w,zQ I i->a<=I.K.len->cQ I mv s w->s.cnt<=I.K.most->Cu I.K (wM I.K f) f i a s=some (t,s')->
 Calls Tryz.prog 179 #[aw I.wk,aO I.P i,.int .i64 (a:Int)] w fun e w'=>lB I mv t s' w e w'
theorem PB {K:Wc}{f i a:Nat}{s:Wt}{t:Int}{s':Wt}(ha:a<=K.len)(h:io K s)(hm:s.cnt<=K.most)(hk:Cu K (wM K f) f i a s=some (t,s')):∃l,s'.mt=s.mt++l:=by
 have h2:wM K (f+1) i a s=some (rT s.mt.length (t,s')):=by
  rw[wM,if_neg (by omega),hk];rfl
 by_cases ht:t=-1
 ·have hx:nY K s t s'\/True:=.inr trivial
  unfold Cu at hk
  have ih:∀j b s t s',b<=K.len->io K s->wM K f j b s=some (t,s')->nY K s t s':=fun j b s t s' hb hs hx=>(jC f j b s t s' hb hs hx).1
  split at hk
  ·simp only[Option.some.injEq]at hk
   unfold Ns at hk
   cases jc:mX K.b K.len (ap K.ns i) a with
   | some u=>rw[jc]at hk;simp only[Prod.mk.injEq]at hk;rw[<-hk.2];exact⟨[],by simp⟩
   | none=>rw[jc]at hk;simp only[Prod.mk.injEq]at hk;rw[<-hk.2];exact⟨[],by simp⟩
  ·split at hk
   ·exact(vn (fun j s t s' hs hx=>ih j a s t s' ha hs hx) h hm hk).pre
   ·split at hk
    ·exact(zv (fun j s t s' hs hx=>ih j a s t s' ha hs hx) h hk).pre
    ·split at hk
     ·exact(zB (fun j b s t s' hb hs hx=>ih j b s t s' hb hs hx) _ _ _ _ _ ha h hk).pre
     ·split at hk
      ·cases hx:wM K f ((ap K.ns i).subs.getD 0 0) a s with
       | none=>rw[hx]at hk;cases hk
       | some y=>
        obtain⟨t2,s2⟩:=y
        rw[hx]at hk
        simp only[Option.map_some,Option.some.injEq]at hk
        have h1:=ih _ _ _ _ _ ha h hx
        split at hk
        ·simp only[Prod.mk.injEq]at hk
         rw[<-hk.2];exact h1.pre
        ·simp only[Prod.mk.injEq]at hk
         rw[<-hk.2];exact h1.pre
      ·split at hk
       ·exact(qm (fun b s t s' hb hs hx=>ih _ b s t s' hb hs hx) _ _ _ _ _ ha h hk).pre
       ·split at hk
        ·cases hx:wM K f ((ap K.ns i).subs.getD 0 0) a s with
         | none=>rw[hx]at hk;cases hk
         | some y=>
          obtain⟨t2,s2⟩:=y
          rw[hx]at hk
          simp only at hk
          have h1:=ih _ _ _ _ _ ha h hx
          split at hk
          ·simp only[Option.some.injEq,Prod.mk.injEq]at hk
           rw[<-hk.2];exact h1.pre
          ·next hn=>exact(h1.then (qm (fun b s t s' hb hs hx=>ih _ b s t s' hb hs hx) _ _ _ _ _ (h1.rng.nat hn).1 h1.sane hk)).pre
        ·cases hx:wM K f ((ap K.ns i).subs.getD 0 0) a s with
         | none=>rw[hx]at hk;cases hk
         | some y=>
          obtain⟨t2,s2⟩:=y
          rw[hx]at hk
          simp only[Option.map_some,Option.some.injEq,Q1,Prod.mk.injEq]at hk
          have h1:=ih _ _ _ _ _ ha h hx
          rw[<-hk.2];exact h1.cut.pre
 ·have hw:rT s.mt.length (t,s')=(t,s'):=by unfold rT;rw[if_neg ht]
  rw[hw]at h2
  exact(jC (f+1) i a s t s' ha h h2).1.pre
theorem GZ {I:Wi}(hI:Ic I){f:Nat}(hK:PT I f):lA I (f+1):=by
 intro i a s t s' mv w hi ha h hr
 have yO:=rN hI h
 rw[wM]at hr
 unfold aw aO at *
 by_cases hs:I.K.most<s.cnt
 ·rw[if_pos hs]at hr
  simp only[Option.some.injEq,Prod.mk.injEq]at hr
  obtain⟨rfl,rfl⟩:=hr
  rw[decide_eq_true hs]at yO
  generalize I.P.getD i 0=pq at *
  clear hK hi
  go_enter Tryz.func171,Tryz.ntmps171
  go_wp2_with fail
  refine yO.mono ?_
  rintro e w1 ⟨rfl,n,rfl⟩
  go_wp2
  go_ret
  exact⟨rfl,mv,h.drewN hI n,Fr.new ((aa.refl _ w).drewN n)⟩
 ·rw[if_neg hs]at hr
  rw[decide_eq_false hs]at yO
  cases hk:Cu I.K (wM I.K f) f i a s with
  | none=>rw[hk]at hr;cases hr
  | some y=>
   obtain⟨t1,s1⟩:=y
   rw[hk]at hr
   simp only[Option.map_some,Option.some.injEq]at hr
   have SX:=PB ha h.sane (by omega) hk
   have hC:=fun n=>hK i a s t1 s1 mv (w.drewN n) hi ha (h.drewN hI n) (by omega) hk
   have ri:=fun n=>(h.drewN hI n).cells.2.2.2.2.2.1
   obtain⟨MB,N2,N4⟩:=h.mt
   obtain⟨p0,oV,tq⟩:=an N2
   have wl:MB.length=s.mt.length:=N4.len
   rw[wl]at tq
   have Oz:s.mt.length<=50000:=by have:=h.sane.mtl;have:=h.sane.cnt;have:=hI.most;omega
   unfold aw aO at hC
   generalize I.P.getD i 0=pq at *
   by_cases ht:t1=-1
   ·have tt:t=-1/\s'={ s1 with mt:=s1.mt.take s.mt.length }:=by
     unfold rT at hr
     rw[if_pos ht]at hr
     simp only[Prod.mk.injEq]at hr
     exact⟨by rw[<-hr.1];exact ht,hr.2.symm⟩
    obtain⟨rfl,rfl⟩:=tt
    subst ht
    subst tq
    clear hk hr N2 N4 wl
    go_enter Tryz.func171,Tryz.ntmps171
    go_wp2_with fail
    refine yO.mono ?_
    rintro e w1 ⟨rfl,n,rfl⟩
    have qaH:=ri n
    go_wp2_with fail
    refine(hC n).mono ?_
    rintro e w2 ⟨rfl,ss,h2,sG⟩
    obtain⟨l,hl⟩:=SX
    obtain⟨p,c,e1,e2,e3,e4,e4',e5,e6,e7⟩:=h2.cut hI (k:=s.mt.length) (by rw[hl];simp)
    have c5:=h2.cells.2.2.2.2.2.1
    have f5:=h2.frz 5
    subst e1
    have RU:=sG.trans e7
    rw[<-e6]at RU
    have hlc:s.mt.length<=c:=by rw[hl]at e2;simp at e2;omega
    have q1:¬(c:Int)<(s.mt.length:Int):=by omega
    unfold maxLen at e3
    cases p with
    | none=>
     obtain⟨k1,k2,k3⟩:=e4 rfl
     have RV:Fr I.b0 (Value.slice p0 s.mt.length oV).ownBlock (Value.slice none 0 0).ownBlock (w.drewN n) (w2.setCell ⟨I.wk,5,none⟩ (Value.slice none 0 0)):=by
      have:=RU
      rw[show Value.slice none s.mt.length c=Value.slice none 0 0 by rw[k1,k2]]at this
      exact this
     have e5':cQ I (.slice none 0 0) { s1 with mt:=s1.mt.take s.mt.length } (w2.setCell ⟨I.wk,5,none⟩ (.slice none 0 0)):=by
      have:=e5
      rw[show Value.slice none s.mt.length c=Value.slice none 0 0 by rw[k1,k2]]at this
      exact this
     rw[k1]
     subst k2
     rw[k3]at c5
     go_wp2
     go_ret
     exact⟨rfl,_,e5',(Fr.new ((aa.refl _ w).drewN n)).trans RV⟩
    | some ad=>
     obtain⟨ab,ao,asp⟩:=ad
     obtain⟨rfl,rfl⟩:=e4' _ rfl
     go_wp2
     go_ret
     exact⟨rfl,_,e5,(Fr.new ((aa.refl _ w).drewN n)).trans RU⟩
   ·have tt:t=t1/\s'=s1:=by
     unfold rT at hr
     rw[if_neg ht]at hr
     simp only[Prod.mk.injEq]at hr
     exact⟨hr.1.symm,hr.2.symm⟩
    obtain⟨rfl,rfl⟩:=tt
    have q:(t == -1)=false:=by simpa using ht
    subst tq
    clear hk hr N2 N4 wl
    go_enter Tryz.func171,Tryz.ntmps171
    go_wp2_with fail
    refine yO.mono ?_
    rintro e w1 ⟨rfl,n,rfl⟩
    have qaH:=ri n
    go_wp2_with fail
    refine(hC n).mono ?_
    rintro e w2 ⟨rfl,ss,h2,sG⟩
    go_wp2
    go_ret
    exact⟨rfl,ss,h2,(Fr.new ((aa.refl _ w).drewN n)).trans sG⟩
theorem xA {I:Wi}(hI:Ic I){f:Nat}(hS:lA I f)(i a:Nat)(want:Bool)(t:Int)(s s':Wt)(mv:Value)(w:World)(ha:a<=I.K.len)(hi:zQ I i)(h:cQ I mv s w)(hr:(wM I.K f i a s).map (Q1 s.mt.length a want)=some (t,s')):
  Calls Tryz.prog 196 #[aw I.wk,aO I.P i,.int .i64 (a:Int),.bool want] w fun e w'=>lB I mv t s' w e w':=by
 cases hk:wM I.K f i a s with
 | none=>rw[hk]at hr;cases hr
 | some y=>
  obtain⟨t1,s1⟩:=y
  rw[hk]at hr
  simp only[Option.map_some,Option.some.injEq,Q1,Prod.mk.injEq]at hr
  obtain⟨oh,rfl⟩:=hr
  have SX:=(jC f i a s t1 s1 ha h.sane hk).1.pre
  have hC:=hS i a s t1 s1 mv w hi ha h hk
  have ri:=h.cells.2.2.2.2.2.1
  obtain⟨MB,N2,N4⟩:=h.mt
  obtain⟨p0,oV,tq⟩:=an N2
  have wl:MB.length=s.mt.length:=N4.len
  rw[wl]at tq
  have Oz:s.mt.length<=50000:=by have:=h.sane.mtl;have:=h.sane.cnt;have:=hI.most;omega
  unfold aw aO at *
  generalize I.P.getD i 0=pq at *
  subst tq
  have HT:Hid (t=if (t1 != -1)=want then (a:Int) else -1):=by
   unfold Hid
   rw[<-oh]
   congr 1
   simp[bne,BEq.beq,instBEqOfDecidableEq]
  clear hk oh N2 N4 wl
  go_enter Tryz.func196,Tryz.ntmps196
  go_wp2_with fail
  refine hC.mono ?_
  rintro e w2 ⟨rfl,ss,h2,sG⟩
  obtain⟨l,hl⟩:=SX
  obtain⟨p,c,e1,e2,e3,e4,e4',e5,e6,e7⟩:=h2.cut hI (k:=s.mt.length) (by rw[hl];simp)
  have c5:=h2.cells.2.2.2.2.2.1
  have f5:=h2.frz 5
  subst e1
  have RU:=sG.trans e7
  rw[<-e6]at RU
  have hlc:s.mt.length<=c:=by rw[hl]at e2;simp at e2;omega
  have q1:¬(c:Int)<(s.mt.length:Int):=by omega
  unfold maxLen at e3
  obtain⟨b1,dE⟩:∃b1,b1=(t1 != -1):=⟨_,rfl⟩
  rw[<-dE]at HT
  cases p with
  | none=>
   obtain⟨k1,k2,k3⟩:=e4 rfl
   have RV:Fr I.b0 (Value.slice p0 s.mt.length oV).ownBlock (Value.slice none 0 0).ownBlock w (w2.setCell ⟨I.wk,5,none⟩ (Value.slice none 0 0)):=by
    have:=RU
    rw[show Value.slice none s.mt.length c=Value.slice none 0 0 by rw[k1,k2]]at this
    exact this
   have e5':cQ I (.slice none 0 0) { s1 with mt:=s1.mt.take s.mt.length } (w2.setCell ⟨I.wk,5,none⟩ (.slice none 0 0)):=by
    have:=e5
    rw[show Value.slice none s.mt.length c=Value.slice none 0 0 by rw[k1,k2]]at this
    exact this
   rw[k1]
   subst k2
   rw[k3]at c5
   cases b1 <;> cases want
   all_goals
    have sA:=HT.out
    simp only[if_true,if_false,Bool.false_eq_true,Bool.true_eq_false,reduceCtorEq]at sA
    rw[eq_comm]at dE
    subst sA
    clear HT
    go_wp2
    go_ret
    exact⟨rfl,_,e5',RV⟩
  | some ad=>
   obtain⟨ab,ao,asp⟩:=ad
   obtain⟨rfl,rfl⟩:=e4' _ rfl
   cases b1 <;> cases want
   all_goals
    have sA:=HT.out
    simp only[if_true,if_false,Bool.false_eq_true,Bool.true_eq_false,reduceCtorEq]at sA
    rw[eq_comm]at dE
    subst sA
    clear HT
    go_wp2
    go_ret
    exact⟨rfl,_,e5,RU⟩
theorem cQ.part {I:Wi}{mv:Value}{s:Wt}{w:World}(h:cQ I mv s w){i:Nat}(hi:i<I.K.ns.length):iG w I.bg (fun _=>True) I.P (I.ρ i) (ap I.K.ns i) (I.P.getD i 0):=by
 have:=h.gm.ar.part i hi
 rw[bA hi];exact this
theorem Hz {I:Wi}(hI:Ic I)(i a:Nat)(s:Wt)(mv:Value)(w:World)(ha:a<=I.K.len)(hi:i<I.K.ns.length)(hk:(ap I.K.ns i).kind<=2)(Dp:(ap I.K.ns i).text.length<=1000)(Cn:(ap I.K.ns i).rng.length<=5000)(h:cQ I mv s w):
  Calls Tryz.prog 197 #[aw I.wk,aO I.P i,.int .i64 (a:Int)] w fun e w'=>lB I mv (Ns I.K (ap I.K.ns i) a s).1 (Ns I.K (ap I.K.ns i) a s).2 w e w':=by
 have hp:=h.part hi
 have Da:=hI.l60
 have eI:=hI.len
 have jb:=BO I.inp a w hp hk (by omega) Da Dp Cn
 obtain⟨z,vR,vP,hb,_⟩:=hp
 have ct:w.cell? ⟨I.P.getD i 0,2,none⟩=some (.int .i64 ((ap I.K.ns i).term:Int)):=by simp only[World.cell?,hb];rfl
 have sn:=ag (show ai w (I.P.getD i 0)=_ from hb)
 obtain⟨_,_,c2,_,_,_,_,_,_⟩:=h.cells
 have ht:=hI.term i hi
 unfold aw aO at *
 generalize I.P.getD i 0=pq at *
 generalize ap I.K.ns i=N at *
 have HW:Hid (Ns I.K N a s=match mX (am I.inp) I.inp.size N a with | some t=>((t:Int),s) | none=>(-1,{ s with far:=fI s.far (a,N.term) })):=by
  unfold Hid Ns;rw[hI.bt,hI.len];rfl
 unfold sZ at jb
 have qcr:a<=I.inp.size:=by omega
 cases jc:mX (am I.inp) I.inp.size N a with
 | some t=>
  rw[jc]at jb HW
  simp only at jb
  have nj:a<=t/\t<=60:=by
   unfold mX at jc
   split at jc
   ·split at jc
    ·next hl=>cases jc;have:=yZ hl;omega
    ·cases jc
   ·split at jc
    ·next hl=>cases jc;omega
    ·cases jc
  have q:(((t:Int)-(a:Int)) == -1)=false:=by simp;omega
  clear jc
  go_enter Tryz.func197,Tryz.ntmps197
  go_wp2_with fail
  refine jb.mono ?_
  rintro e w1 ⟨rfl,dd⟩
  go_wp2
  go_ret
  rw[HW.out]
  refine⟨?_,mv,?_,Fr.new dd⟩
  ·show Ending.returned (.int .i64 ((a:Int)+((t:Int)-a)))=.returned (.int .i64 (t:Int))
   congr 2;omega
  ·exact h.nums hI (dd.mono (fun _ _ x=>x.elim)) (by rw[dd.block I.wk (ag (show ai w I.wk=_ from h.blk)) (fun x=>x)];exact h.blk) rfl rfl rfl h.sane h.far1 h.far2
 | none=>
  rw[jc]at jb HW
  simp only at jb
  clear jc
  go_enter Tryz.func197,Tryz.ntmps197
  go_wp2_with fail
  refine jb.mono ?_
  rintro e w1 ⟨rfl,dd⟩
  have h1:cQ I mv s w1:=h.nums hI (dd.mono (fun _ _ x=>x.elim)) (by rw[dd.block I.wk (ag (show ai w I.wk=_ from h.blk)) (fun x=>x)];exact h.blk) rfl rfl rfl h.sane h.far1 h.far2
  have ct1:w1.cell? ⟨pq,2,none⟩=some (.int .i64 (N.term:Int)):=(dd.cell (p:=⟨pq,2,none⟩) sn (fun x=>x)).trans ct
  have pA:=h.far1
  have Gz:=CU I.wk N.term a s.far.1 s.far.2 _ _ _ _ _ _ _ w1.drew h1.blk ht h.far2 (by omega) ⟨pA.1,by omega⟩
  go_wp2_with fail
  go_region_with (go_at_call 201;refine Gz.mono ?_;rintro e w2 ⟨rfl,eL,dl⟩)
  go_wp2
  go_ret
  rw[HW.out]
  have h2:cQ I mv { s with far:=fI s.far (a,N.term) } w2:=by
   refine h1.nums hI ((aa.refl (·=I.wk) w1).drew.trans dl) eL rfl rfl rfl ⟨h.sane.cnt,h.sane.dn,h.sane.mtl,h.sane.hits,h.sane.ent,h.sane.kn⟩ ?_ (EA h.far2 ht)
   show -1<=(fI s.far (a,N.term)).1/\_
   unfold fI
   split
   ·dsimp only;omega
   ·split <;> (dsimp only;omega)
  exact⟨rfl,mv,h2,(Fr.new dd).trans (h1.wkF hI ((aa.refl (·=I.wk) w1).drew.trans dl))⟩
end Go.Proofs.YtagklnaaoclmhaaGreatDoor
