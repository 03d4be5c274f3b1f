import Derived.Test.YtagklnaaoclmhaaGreatDoorMnAN
set_option linter.unusedSimpArgs false
set_option linter.unusedVariables false
set_option maxRecDepth 100000
set_option maxHeartbeats 16000000
namespace Go.Proofs.YtagklnaaoclmhaaGreatDoor
open Go.RowKit
attribute [local go_sem ↓] sa pm pn
attribute [local go_sem] pO om oo mV bf aK au aN
theorem PG:BZ=gl (fun _ _=>false):=by kernel_rfl
def m1 (rs:List Rl)(ns:List Nd)(S:Nat->Bool)(k a b:Nat):Bool:=decide (a<k)&&(aB rs ns S ns.length (cL rs a) (List.replicate 8 false)).getD b false
theorem O1 (rs:List Rl)(ns:List Nd)(S:Nat->Bool):m1 rs ns S 0=fun _ _=>false:=by funext a b;simp[m1]
theorem TM (rs:List Rl)(ns:List Nd)(S:Nat->Bool):m1 rs ns S rs.length=m0 rs ns S:=rfl
theorem qbY (b:Nat):Ht (List.replicate 8 false) b=false:=by
 unfold Ht
 simp only[List.getD,List.getElem?_replicate]
 split <;> rfl
theorem TN (rs:List Rl)(ns:List Nd)(S:Nat->Bool)(k:Nat):gl (m1 rs ns S k)=gl (nV (m1 rs ns S k) k (Ht (List.replicate 8 false))):=by
 refine je (fun a b _ _=>?_)
 unfold nV
 by_cases h:a=k
 ·rw[if_pos h,qbY,h];simp[m1]
 ·rw[if_neg h]
theorem O0 (rs:List Rl)(ns:List Nd)(S:Nat->Bool)(k:Nat):gl (nV (m1 rs ns S k) k (Ht (aB rs ns S ns.length (cL rs k) (List.replicate 8 false))))=gl (m1 rs ns S (k+1)):=by
 refine je (fun a b _ _=>?_)
 unfold nV m1
 by_cases h:a=k
 ·rw[if_pos h,h,decide_eq_true (by omega),Bool.true_and];rfl
 ·rw[if_neg h]
  by_cases h2:a<k
  ·rw[decide_eq_true h2,decide_eq_true (by omega)]
  ·rw[decide_eq_false h2,decide_eq_false (by omega)]
theorem RJ {M:Nat->Nat->Bool}{k i:Nat}(h:M i k=true):gl (nV M i (fun b=>M i b||M k b))=gl (cw M k i):=by
 refine je (fun a b _ _=>?_)
 unfold nV cw
 rw[h];simp
theorem Wk {M:Nat->Nat->Bool}{k i:Nat}(h:M i k=false):gl M=gl (cw M k i):=by
 refine je (fun a b _ _=>?_)
 unfold cw
 rw[h]
 by_cases ha:a=i
 ·rw[if_pos ha,ha];simp
 ·rw[if_neg ha]
structure MV (base gb:Nat)(rv:Value)(P:List Nat)(ρ:Nat->Int)(rs:List Rl)(ns:List Nd)(S:Nat->Bool)(w:World)(M:Nat->Nat->Bool)(wx:World):Prop where
 gm:Gm wx base gb rv P ρ rs ns
 box:wx.heap[w.heap.size]?=some (.cells (em S) 205)
 res:wx.heap[w.heap.size+1]?=some (.cells BZ 207)
 row:wx.heap[w.heap.size+2]?=some (.cells (gl M) 207)
 kept:aa (fun _=>False) w wx
theorem MV.same {base gb:Nat}{rv:Value}{P:List Nat}{ρ:Nat->Int}{rs:List Rl}{ns:List Nd}{S:Nat->Bool}{w wx w':World}{M:Nat->Nat->Bool}(h:MV base gb rv P ρ rs ns S w M wx)(hk:aa (fun _=>False) wx w'):MV base gb rv P ρ rs ns S w M w':=
 ⟨h.gm.same hk,by rw[hk.block _ (ag (show ai wx _=_ from h.box)) (fun x=>x)];exact h.box,by rw[hk.block _ (ag (show ai wx _=_ from h.res)) (fun x=>x)];exact h.res,by rw[hk.block _ (ag (show ai wx _=_ from h.row)) (fun x=>x)];exact h.row,h.kept.trans hk⟩
theorem MV.turn {base gb:Nat}{rv:Value}{P:List Nat}{ρ:Nat->Int}{rs:List Rl}{ns:List Nd}{S:Nat->Bool}{w wx w':World}{M M':Nat->Nat->Bool}(h:MV base gb rv P ρ rs ns S w M wx)(hk:aa (·=w.heap.size+2) wx w')(hr:w'.heap[w.heap.size+2]?=some (.cells (gl M') 207)):MV base gb rv P ρ rs ns S w M' w':=
 ⟨h.gm.mat h.row hk,by rw[hk.block _ (ag (show ai wx _=_ from h.box)) (by omega)];exact h.box,by rw[hk.block _ (ag (show ai wx _=_ from h.res)) (by omega)];exact h.res,hr,h.kept.new hk (by omega)⟩
theorem qb0 {w:World}{k i:Nat}{M:Nat->Nat->Bool}(h:w.heap[k]?=some (.cells (gl M) 207))(hi:i<8):w.cell? ⟨k,i*8,none⟩=some (.bool (M i 0))/\w.cell? ⟨k,i*8+1,none⟩=some (.bool (M i 1))/\w.cell? ⟨k,i*8+2,none⟩=some (.bool (M i 2))/\w.cell? ⟨k,i*8+3,none⟩=some (.bool (M i 3))/\w.cell? ⟨k,i*8+4,none⟩=some (.bool (M i 4))/\w.cell? ⟨k,i*8+5,none⟩=some (.bool (M i 5))/\w.cell? ⟨k,i*8+6,none⟩=some (.bool (M i 6))/\w.cell? ⟨k,i*8+7,none⟩=some (.bool (M i 7)):=
 ⟨fZ (j:=0) h hi (by omega),fZ h hi (by omega),fZ h hi (by omega),fZ h hi (by omega),fZ h hi (by omega),fZ h hi (by omega),fZ h hi (by omega),fZ h hi (by omega)⟩
theorem Dx {base gb:Nat}{rv:Value}{P:List Nat}{ρ:Nat->Int}{rs:List Rl}{ns:List Nd}{S:Nat->Bool}(hW:lK ns rs)(AB:xX base gb rv P ρ rs ns S ns.length)(w:World)(hG:Gm w base gb rv P ρ rs ns):
  Calls Tryz.prog 99 #[.pointer (some ⟨gb,0,none⟩),.agg (em S)] w fun e w'=>e=.returned (.agg (gl (cK (m0 rs ns S) 8)))/\aa (fun _=>False) w w':=by
 have GC:=hW.len
 obtain⟨rp,rc,dU⟩:=an hG.own
 obtain⟨z,hz⟩:=hG.gram
 obtain⟨g0,g1,P6,P8⟩:=g7 hz
 have lV:=jL g0
 have qcL:gb≠w.heap.size:=fun e=>by subst e;exact Nat.lt_irrefl _ lV
 have qcM:gb≠w.heap.size+1:=fun e=>by have:gb<w.heap.size:=lV;omega
 have qcN:gb≠w.heap.size+1+1:=fun e=>by have:gb<w.heap.size:=lV;omega
 have Qc:MV base gb rv P ρ rs ns S w (m1 rs ns S 0) (((w.alloc (.cells (em S) 205)).alloc (.cells BZ 207)).alloc (.cells BZ 207)):=by
  refine⟨hG.same ((((aa.refl _ w).alloc _).alloc _).alloc _),?_,?_,?_,(((aa.refl _ w).alloc _).alloc _).alloc _⟩
  ·rw[Below.heap_alloc _ _ _ (by simp;omega),Below.heap_alloc _ _ _ (by simp)];exact heap_alloc_new _ _
  ·rw[Below.heap_alloc _ _ _ (by simp)]
   have:=heap_alloc_new (w.alloc (.cells (em S) 205)) (.cells BZ 207)
   rw[show (w.alloc (.cells (em S) 205)).heap.size=w.heap.size+1 by simp]at this
   exact this
  ·have:=heap_alloc_new ((w.alloc (.cells (em S) 205)).alloc (.cells BZ 207)) (.cells BZ 207)
   rw[show ((w.alloc (.cells (em S) 205)).alloc (.cells BZ 207)).heap.size=w.heap.size+2 by simp]at this
   rw[this,O1,PG]
 subst dU
 unfold em at Qc ⊢
 obtain⟨z',Yu⟩:=Qc.gm.gram
 obtain⟨e0,e1,ef0,ef1⟩:=g7 Yu
 clear Yu g0 g1 P6 P8
 go_enter Tryz.func99,Tryz.ntmps99
 go_wp2
 go_loopg [15] rs.length (fun n v wx=>∃k:Nat,Hid (k+n=rs.length)/\v=.int .i64 k/\MV base gb (.slice rp rs.length rc) P ρ rs ns S w (m1 rs ns S k) wx)
 case atStart=>exact⟨0,Nat.zero_add _,rfl,Qc⟩
 case round=>
  obtain⟨k,eh,rfl,hI⟩:=hrel
  obtain⟨m,hm⟩:∃m,m=gk:=⟨gk,rfl⟩
  subst hm
  by_cases bj:k<rs.length
  ·obtain⟨rb,wH,dU,r0,r1,r2⟩:=kD hI.gm.own bj
   simp only[Value.slice.injEq]at dU
   obtain⟨hp,_,fO⟩:=dU
   subst hp fO
   unfold aO at r2
   have ro:rs[k].is<ns.length:=hW.is _ (List.getElem_mem bj)
   have AE:cL rs k=rs[k].is:=bQ _ _ _ _ bj
   have lW:k<8:=by omega
   have Xw:(k:Int)<8:=by omega
   have sH:=fun(X:World) (hK:aa (fun _=>False) wr X)=>hI.same hK
   have dm:=fun(X:World) (hK:aa (fun _=>False) wr X)=>(TN rs ns S k) ▸ (sH X hK).row
   have bO:=fun(X:World) (hK:aa (fun _=>False) wr X)=>AB rs[k].is k (w.heap.size+2) (m1 rs ns S k) (List.replicate 8 false) X ro ro lW (by simp) (sH X hK).gm (dm X hK)
   have sz:=ae (fun(X X':World) (hK:aa (fun _=>False) wr X) (EG:aa (·=w.heap.size+2) X X') (hr:X'.heap[w.heap.size+2]?=some (.cells (gl (nV (m1 rs ns S k) k (Ht (aB rs ns S ns.length rs[k].is (List.replicate 8 false))))) 207))=>(sH X hK).turn (M':=m1 rs ns S (k+1)) EG (by rw[hr,<-AE,O0]))
   obtain⟨d0,d1,d2,d3,d4,d5,d6,d7⟩:=gE hI.box
   have iB:=ag (show ai wr _=_ from hI.box)
   have Ir:w.heap.size≠wr.heap.size:=by omega
   generalize aB rs ns S ns.length rs[k].is (List.replicate 8 false)=Wn at *
   obtain⟨pq,lX⟩:∃pq,pq=P.getD rs[k].is 0:=⟨_,rfl⟩
   rw[<-lX]at r2
   have J8:∀X,aa (fun _=>False) wr X->Calls Tryz.prog 146 #[.pointer (some ⟨pq,0,none⟩),.pointer (some ⟨w.heap.size+2,k*8,none⟩),.agg (em S)] X fun e w'=>e=.returned (.tuple #[])/\w'.heap[w.heap.size+2]?=some (.cells (gl (nV (m1 rs ns S k) k (Ht Wn))) 207)/\aa (·=w.heap.size+2) X w':=fun X hK=>by rw[lX];exact bO X hK
   unfold em at J8
   clear bO dm sH AE ro hI
   generalize rs[k].name=rn at *
   generalize rs[k].at_=ra at *
   clear lX
   go_wp2
   go_region_with (first | (go_at_call 146;refine(J8 _ (by first | exact((aa.refl _ _).alloc _) | exact((aa.refl _ _).alloc _).drew | exact((aa.refl _ _).alloc _).drewN _)).mono ?_;rintro e w7 ⟨rfl,AW,eE⟩))
   all_goals
    go_wp2
    go_roundg (m-1)
    case measure=>have:=eh.out;omega
    case rel=>exact⟨k+1,by have:=eh.out;unfold Hid;omega,by go_num,sz.out _ _ (((aa.refl _ _).alloc _).drew) eE AW⟩
  ·have uz:k=rs.length:=by have:=eh.out;omega
   rw[uz,TM]at hI
   clear eh uz
   obtain⟨w5,jX⟩:∃w5,w5=wr:=⟨wr,rfl⟩
   subst jX
   go_wp2
   go_loopg [27] 8 (fun n v wx=>∃t:Nat,Hid (t+n=8)/\v=.int .i64 t/\MV base gb (.slice rp rs.length rc) P ρ rs ns S w (cK (m0 rs ns S) t) wx)
   case atStart=>exact⟨0,rfl,rfl,hI⟩
   case round=>
    obtain⟨t,ZO,rfl,hT⟩:=hrel
    obtain⟨m2,AN⟩:∃m,m=gk:=⟨gk,rfl⟩
    subst AN
    obtain⟨w6,lZ⟩:∃w6,w6=wr:=⟨wr,rfl⟩
    subst lZ
    by_cases ht:t<8
    ·have sq:(t:Int)<8:=by omega
     have HKK:Hid (cI (cK (m0 rs ns S) t) t 8=cK (m0 rs ns S) (t+1)):=rfl
     generalize hMt:cK (m0 rs ns S) t=Mt at *
     clear hMt
     go_wp2
     go_loopg [30] 8 (fun n v wx=>∃i:Nat,Hid (i+n=8)/\v=.int .i64 i/\MV base gb (.slice rp rs.length rc) P ρ rs ns S w (cI Mt t i) wx)
     case atStart=>exact⟨0,rfl,rfl,hT⟩
     case round=>
      obtain⟨i,fm,rfl,hE⟩:=hrel
      obtain⟨m3,Db⟩:∃m,m=gk:=⟨gk,rfl⟩
      subst Db
      by_cases hi:i<8
      ·have eM:(i:Int)<8:=by omega
       have Y5:Hid (cw (cI Mt t i) t i=cI Mt t (i+1)):=rfl
       generalize cI Mt t i=Mi at *
       have hc:=fZ hE.row hi ht
       cases hb:Mi i t
       ·rw[hb]at hc
        have HN:Hid (gl Mi=gl (cI Mt t (i+1))):=by unfold Hid;rw[<-Y5.out];exact Wk hb
        clear hb Y5
        go_wp2
        go_roundg (m3-1)
        case measure=>have:=fm.out;omega
        case rel=>exact⟨i+1,by have:=fm.out;unfold Hid;omega,by go_num,⟨hE.gm,hE.box,hE.res,by rw[hE.row,HN.out],hE.kept⟩⟩
       ·rw[hb]at hc
        have HN:Hid (gl (nV Mi i (fun b=>Mi i b||Mi t b))=gl (cI Mt t (i+1))):=by unfold Hid;rw[<-Y5.out];exact RJ hb
        obtain⟨d0,d1,d2,d3,d4,d5,d6,d7⟩:=qb0 hE.row ht
        have Qz:gl Mi=gl (nV Mi i (Mi i)):=je (fun a b _ _=>by
         unfold nV
         by_cases ha:a=i
         ·rw[if_pos ha,ha]
         ·rw[if_neg ha])
        have vY:=fun(X:World) (hK:aa (fun _=>False) wr X)=>IY (w.heap.size+2) i Mi (Mi i) (Mi t) X hi (by rw[<-Qz];exact(hE.same hK).row)
        have sz:=ae (fun(X X':World) (hK:aa (fun _=>False) wr X) (EG:aa (·=w.heap.size+2) X X') (hr:X'.heap[w.heap.size+2]?=some (.cells (gl (nV Mi i (fun b=>Mi i b||Mi t b))) 207))=>(hE.same hK).turn (M':=cI Mt t (i+1)) EG (by rw[hr,HN.out]))
        unfold em at vY
        clear Qz hb Y5 HN hE
        go_wp2
        go_region_with (first | (go_at_call 147;refine(vY _ (by first | exact(aa.refl _ _) | exact(aa.refl _ _).drew | exact(aa.refl _ _).drewN _)).mono ?_;rintro e w7 ⟨rfl,AW,eE⟩))
        all_goals
         go_wp2
         go_roundg (m3-1)
         case measure=>have:=fm.out;omega
         case rel=>exact⟨i+1,by have:=fm.out;unfold Hid;omega,by go_num,sz.out _ _ ((aa.refl _ _).drew) eE AW⟩
      ·have hi8:i=8:=by have:=fm.out;omega
       rw[hi8,HKK.out]at hE
       clear fm hi8
       go_wp2
       go_roundg (m2-1)
       case measure=>have:=ZO.out;omega
       case rel=>exact⟨t+1,by have:=ZO.out;unfold Hid;omega,by go_num,hE⟩
    ·have ht8:t=8:=by have:=ZO.out;omega
     rw[ht8]at hT
     clear ZO ht8 hI
     obtain⟨MF,R8⟩:∃MF,MF=cK (m0 rs ns S) 8:=⟨_,rfl⟩
     rw[<-R8]at hT
     have HMF:=ae R8
     clear R8
     have Qq:ai w6 (w.heap.size+2)=some (.cells (gl MF) 207 (0,0)):=hT.row
     have ho2:ai w6 (w.heap.size+1)=some (.cells BZ 207 (0,0)):=hT.res
     have SK:0+64<=(gl MF).size:=by rw[ky];omega
     have SL:(gl MF).size=64:=ky MF
     have qz:(gl MF).extract 0 (0+64)=gl MF:=by rw[<-SL,Nat.zero_add];simp
     have ST:kB (gl MF)=true:=by
      unfold kB gl
      simp
      intro x _
      rfl
     have qbT:=B0
     have XA:=hT.kept
     clear Qc e0 e1 ef0 ef1 hG AB
     have dm:(w6.setRow (w.heap.size+1) (gl MF)).heap[w.heap.size+1]?=some (.cells (gl MF) 207 (0,0)):=setRow_heap _ _ _ _ 207 (0,0) ho2
     have SE:=run_loadVar_row (P:=Tryz.prog) (w6.setRow (w.heap.size+1) (gl MF)) (w.heap.size+1) 207 207 (gl MF) (0,0) _ dm Tryz.underlying207 rfl (by rw[SL];exact DX)
     have hkR:aa (fun _=>False) w (w6.setRow (w.heap.size+1) (gl MF)):=XA.new ⟨rfl,rfl,rfl,by simp,fun k _ hk=>setRow_other _ _ _ _ hk⟩ (by omega)
     go_wp2
     refine bodyPost_ret (v:=.agg (gl MF)) ?_ rfl ⟨by rw[HMF.out],hkR⟩
     simp[results,Tryz.results99,asAddr,SE]
structure Vo (rs:List Rl)(ns:List Nd)(w:World)(e:Ending)(w':World):Prop where
 ok:dc rs ns<0->e=.returned (.tuple #[.int .i64 0,.bool true])
 no:0<=dc rs ns->e=.returned (.tuple #[.int .i64 (dc rs ns),.bool false])
 kept:aa (fun _=>False) w w'
structure Vn (base gb:Nat)(rv:Value)(P:List Nat)(ρ:Nat->Int)(rs:List Rl)(ns:List Nd)(S:Nat->Bool)(M:Nat->Nat->Bool)(k4 k5:Nat)(w wx:World):Prop where
 gm:Gm wx base gb rv P ρ rs ns
 set:wx.heap[k4]?=some (.cells (em S) 205)
 row:wx.heap[k5]?=some (.cells (gl M) 207)
 kept:aa (fun _=>False) w wx
theorem Vn.same {base gb k4 k5:Nat}{rv:Value}{P:List Nat}{ρ:Nat->Int}{rs:List Rl}{ns:List Nd}{S:Nat->Bool}{w wx w':World}{M:Nat->Nat->Bool}(h:Vn base gb rv P ρ rs ns S M k4 k5 w wx)(hk:aa (fun _=>False) wx w'):Vn base gb rv P ρ rs ns S M k4 k5 w w':=
 ⟨h.gm.same hk,by rw[hk.block _ (ag (show ai wx _=_ from h.set)) (fun x=>x)];exact h.set,by rw[hk.block _ (ag (show ai wx _=_ from h.row)) (fun x=>x)];exact h.row,h.kept.trans hk⟩
theorem ue {rs:List Rl}{ns:List Nd}{S:Nat->Bool}(hW:lK ns rs)(hN:∀N∈ns,N.kind=3->(dg rs N.name).isSome=true)(hS:NE rs ns S){k:Nat}(hk:k<rs.length)(h1:∀u,u<k->ko rs ns S u=false)(h2:ko rs ns S k=true):dc rs ns=(rs[k].at_:Int):=by
 have:=Ey rs ns k hk (fun u hu=>by rw[kW hW hN hS u (by omega)];exact h1 u hu) (by rw[kW hW hN hS k hk];exact h2)
 unfold dc
 rw[this]
 simp only[bQ _ _ _ _ hk]
theorem CT {rs:List Rl}{ns:List Nd}{S:Nat->Bool}(hW:lK ns rs)(hN:∀N∈ns,N.kind=3->(dg rs N.name).isSome=true)(hS:NE rs ns S)(h1:∀u,u<rs.length->ko rs ns S u=false):dc rs ns<0:=by
 have:=wX rs ns (fun u hu=>by rw[kW hW hN hS u hu];exact h1 u hu)
 unfold dc
 rw[this]
 show (-1:Int)<0
 decide
theorem Gg {base gb:Nat}{rv:Value}{P:List Nat}{ρ:Nat->Int}{rs:List Rl}{ns:List Nd}(hW:lK ns rs)(hN:∀N∈ns,N.kind=3->(dg rs N.name).isSome=true)(hρ:∀i,i<ns.length->(ap ns i).kind=3->ρ i=(dI rs (ap ns i):Int))(hn:ns.length<=5000)(kP:∀i,i<ns.length->(ap ns i).subs.length<=9223372036854775807)(w:World)(hG:Gm w base gb rv P ρ rs ns):
  Calls Tryz.prog 69 #[.pointer (some ⟨gb,0,none⟩)] w fun e w'=>Vo rs ns w e w':=by
 have GC:=hW.len
 obtain⟨rp,rc,dU⟩:=an hG.own
 go_enter Tryz.func69,Tryz.ntmps69
 go_wp2_with fail
 refine(sE hW hN hρ hn kP w hG).mono ?_
 intro e w1 hEm
 obtain⟨S,rfl,WK,SU⟩:=hEm.res
 have dd:=hEm.kept
 have iA:=hG.same dd
 have kd:=iA.same ((aa.refl (fun _=>False) w1).alloc (.cells (em S) 205))
 have Kt:=Dx hW (mj (S:=S) hW hN hρ hn kP ns.length) _ kd
 have hRE:=pZ (base:=base) (gb:=gb) (rv:=rv) (P:=P) (ρ:=ρ) (S:=S) hW kP (iS (S:=S) hW hN hρ hn kP ns.length) ns.length
 obtain⟨MF,R8⟩:∃MF,MF=cK (m0 rs ns S) 8:=⟨_,rfl⟩
 rw[<-R8]at Kt
 have SL:(gl MF).size=64:=ky MF
 have ST:kB (gl MF)=true:=by
  unfold kB gl
  simp
  intro x _
  rfl
 have qbT:=B0
 have hAt:=fun(k:Nat) (hk:k<rs.length)=>ue (k:=k) hW hN WK hk
 have hNo:=CT hW hN WK
 have ZA:∀k,ko rs ns S k=(MF k k||rE rs ns S ns.length (cL rs k)):=fun k=>by unfold ko;rw[<-R8]
 clear R8 hEm
 unfold em at Kt ⊢
 go_wp2_with fail
 refine Kt.mono ?_
 rintro e w3 ⟨rfl,eU⟩
 have hkz:w1.heap.size<w3.heap.size:=by have:=eU.size;simp at this;omega
 have Qc:Vn base gb rv P ρ rs ns S MF w1.heap.size w3.heap.size w ((w3.alloc (.cells BZ 207)).setRow w3.heap.size (gl MF)):=by
  have hKr:aa (·=w3.heap.size) (w3.alloc (.cells BZ 207)) ((w3.alloc (.cells BZ 207)).setRow w3.heap.size (gl MF)):=⟨rfl,rfl,rfl,by simp,fun k _ hk=>setRow_other _ _ _ _ hk⟩
  have eK:aa (fun _=>False) w3 ((w3.alloc (.cells BZ 207)).setRow w3.heap.size (gl MF)):=((aa.refl (fun _=>False) w3).alloc _).new hKr (Nat.le_refl _)
  have gR:=eU.trans eK
  refine⟨kd.same gR,?_,setRow_heap _ _ _ _ 207 (0,0) (heap_alloc_new _ _),dd.trans (((aa.refl (fun _=>False) w1).alloc _).trans gR)⟩
  rw[gR.block _ (by simp) (fun x=>x)]
  exact heap_alloc_new _ _
 obtain⟨z',Yu⟩:=Qc.gm.gram
 obtain⟨e0,e1,ef0,ef1⟩:=g7 Yu
 subst dU
 clear Yu
 go_wp2
 clear e0 e1 ef0 ef1
 go_loopg [18] rs.length (fun n v wx=>∃k:Nat,Hid (k+n=rs.length)/\v=.int .i64 k/\Vn base gb (.slice rp rs.length rc) P ρ rs ns S MF w1.heap.size w3.heap.size w wx/\Hid (∀u,u<k->ko rs ns S u=false))
 case atStart=>exact⟨0,Nat.zero_add _,rfl,Qc,fun u hu=>absurd hu (by omega)⟩
 case round=>
  obtain⟨k,eh,rfl,hI,HA⟩:=hrel
  obtain⟨m,hm⟩:∃m,m=gk:=⟨gk,rfl⟩
  subst hm
  clear Qc
  by_cases bj:k<rs.length
  ·obtain⟨rb,wH,dU,r0,r1,r2⟩:=kD hI.gm.own bj
   simp only[Value.slice.injEq]at dU
   obtain⟨hp,_,fO⟩:=dU
   subst hp fO
   unfold aO at r2
   have ro:rs[k].is<ns.length:=hW.is _ (List.getElem_mem bj)
   have AE:cL rs k=rs[k].is:=bQ _ _ _ _ bj
   have lW:k<8:=by omega
   have Xw:(k:Int)<8:=by omega
   have xk:=ZA k
   rw[AE]at xk
   have HY:=ae (fun h:ko rs ns S k=true=>hAt k bj HA.out h)
   have HZ:=ae (fun h:ko rs ns S k=false=>(fun u (hu:u<k+1)=>by
    rcases Nat.lt_or_eq_of_le (Nat.lt_succ_iff.1 hu) with h1 | h1
    ·exact HA.out u h1
    ·subst h1;exact h:∀u,u<k+1->ko rs ns S u=false))
   have sH:=fun(X:World) (hK:aa (fun _=>False) wr X)=>hI.same hK
   have KR:=fun(X:World) (hK:aa (fun _=>False) wr X)=>hRE rs[k].is X ro ro (sH X hK).gm
   have hc:=fZ hI.row lW lW
   obtain⟨d0,d1,d2,d3,d4,d5,d6,d7⟩:=gE hI.set
   have hs4:=ag (show ai wr _=_ from hI.set)
   have hs5:=ag (show ai wr _=_ from hI.row)
   have hn4:w1.heap.size≠wr.heap.size:=by omega
   have zL:w3.heap.size≠wr.heap.size:=by omega
   have xp:=hI.kept
   generalize rE rs ns S ns.length rs[k].is=re at *
   generalize ld:MF k k=mk at *
   generalize rs[k].name=rn at *
   generalize rs[k].at_=ra at *
   generalize P.getD rs[k].is 0=pq at *
   unfold em at KR
   clear ld AE ro HA hRE hAt hI
   cases mk
   ·rw[Bool.false_or]at xk
    go_wp2_with fail
    refine(KR _ ((aa.refl _ _).alloc _)).mono ?_
    rintro e w7 ⟨rfl,eE⟩
    have lM:aa (fun _=>False) wr w7:=((aa.refl _ _).alloc _).trans eE
    have tj:w7.heap[wr.heap.size]?=some (.cells #[.string (ba rn),.int .i64 (ra:Int),.pointer (some ⟨pq,0,none⟩)] 189):=by
     rw[eE.block _ (by simp) (fun x=>x)];exact heap_alloc_new _ _
    obtain⟨x0,x1,x2,xf0,xf1,xf2⟩:=kV tj
    cases re
    ·have HN:=ae (HZ.out xk)
     have HI8:=ae (sH w7 lM)
     clear HY HZ xk sH
     go_wp2
     go_roundg (m-1)
     case measure=>have:=eh.out;omega
     case rel=>exact⟨k+1,by have:=eh.out;unfold Hid;omega,by go_num,HI8.out,HN.out⟩
    ·have HN:=ae (HY.out xk)
     clear HY HZ xk sH
     go_wp2
     go_ret2
     exact⟨fun h=>absurd h (by rw[HN.out];omega),fun _=>by rw[HN.out];rfl,xp.trans lM⟩
   ·rw[Bool.true_or]at xk
    have HN:=ae (HY.out xk)
    clear HY HZ xk sH
    go_wp2
    go_ret2
    exact⟨fun h=>absurd h (by rw[HN.out];omega),fun _=>by rw[HN.out];rfl,xp.trans ((aa.refl _ _).alloc _)⟩
  ·have uz:k=rs.length:=by have:=eh.out;omega
   have HN:Hid (dc rs ns<0):=hNo (fun u hu=>HA.out u (by omega))
   have xp:=hI.kept
   clear hI HA
   go_wp2
   go_ret2
   exact⟨fun _=>rfl,fun h=>absurd HN.out (by omega),xp⟩
end Go.Proofs.YtagklnaaoclmhaaGreatDoor
namespace Go.Proofs.YtagklnaaoclmhaaGreatDoor
open Go.RowKit
structure VY (s:ByteArray)(w:World)(C:Int × Int)(e:Ending)(w':World):Prop where
 kept:aa (fun _=>False) w w'
 bad:C.1≠0->e=.returned (.tuple #[.pointer none,.int .i64 C.1,.int .i64 C.2])
 ok:C.1=0->∃gb,e=.returned (.tuple #[.pointer (some ⟨gb,0,none⟩),.int .i64 C.1,.int .i64 C.2])/\∃base rv P ρ,w.heap.size<=base/\Gm w' base gb rv P ρ (aq s).2 (aq s).1.ns/\∀i,i<(aq s).1.ns.length->(ap (aq s).1.ns i).kind=3->ρ i=(dI (aq s).2 (ap (aq s).1.ns i):Int)
theorem Jt {mv':Mv}{w w2:World}{o:Obj}(h:Cs w.heap.size ⟨.slice none 0 0,[]⟩ mv' (w.alloc o) w2):aa (fun _=>False) w w2:=
 ⟨h.kept.os,h.kept.tape,h.kept.output,by have:=h.kept.size;simp at this;omega,fun k hk _=>by
  rw[h.kept.block k (by simp;omega) (fun x=>by
   rcases x with x | x
   ·omega
   ·simp[Value.ownBlock]at x)]
  exact Below.heap_alloc _ _ _ hk⟩
theorem Js (s:ByteArray)(w:World):CR (w.alloc (.cells #[.string s,.int .i64 0,.int .i64 0,.int .i64 0,.int .i64 0,.slice none 0 0] 138)) w.heap.size w.heap.size s ⟨.slice none 0 0,[]⟩ (fun _=>False) [] [] ⟨⟨0,-1,0,0⟩,[]⟩:=
 ⟨⟨0,rfl,heap_alloc_new _ _⟩,World.ownsRow_nil _ _ _ _,by simp[Value.ownBlock],⟨rfl,fun i h=>absurd h (by simp),fun i h=>absurd h (by simp),List.nodup_nil,fun x hx=>absurd hx (by simp)⟩,fun _ h=>h.elim,fun m hm=>absurd hm (by simp),Nat.le_refl _,by simp,by simp,⟨fun k h=>absurd h (by simp),fun i h=>absurd h (by simp)⟩⟩
theorem ys {w:World}{base gb:Nat}{rv:Value}{P:List Nat}{ρ:Nat->Int}{rs:List Rl}{ns:List Nd}(h:Gm w base gb rv P ρ rs ns)(i:Nat)(hi:i<ns.length):(ap ns i).subs.length<=9223372036854775807:=by
 obtain⟨z,vR,vP,_,_,_,_,ke,_⟩:=h.ar.part i hi
 rw[bA hi]
 exact dG ke
theorem Hl (s:ByteArray)(w:World)(hm:s.size<=maxLen):
  Calls Tryz.prog 45 #[.string s] w fun e w'=>VY s w (dj s) e w':=by
 unfold maxLen at hm
 have HC:Hid (dj s=if 400<s.size then (1,0) else if 0<=(aq s).1.sc.bad then (2,(aq s).1.sc.bad) else if 0<=uN (aq s).2 (aq s).1.ns then (3,uN (aq s).2 (aq s).1.ns)
  else if 0<=dc (aq s).2 (aq s).1.ns then (4,dc (aq s).2 (aq s).1.ns) else (0,0)):=rfl
 generalize dj s=C at *
 by_cases sF:400<s.size
 ·have h1:=HC.out
  rw[if_pos sF]at h1
  subst h1
  clear HC
  go_enter Tryz.func45,Tryz.ntmps45
  go_wp2
  go_ret3
  exact⟨aa.refl _ _,fun _=>rfl,fun h=>absurd h (by decide)⟩
 ·have h1:=HC.out
  rw[if_neg sF]at h1
  have hs:s.size<=400:=by omega
  have hW:=rH s
  have Ov:=pW hs
  have Oh:=yt s w.heap.size w.heap.size ⟨.slice none 0 0,[]⟩ _ hs (Js s w)
  have H1:=ae h1
  clear HC h1
  generalize hX:aq s=X at *
  have HX:=ae hX
  clear hX
  obtain⟨A,rs⟩:=X
  dsimp only at *
  go_enter Tryz.func45,Tryz.ntmps45
  go_wp2_with fail
  refine Oh.mono ?_
  intro e w2 ci
  by_cases gS:0<=A.sc.bad
  ·have h2:=H1.out
   rw[if_pos gS]at h2
   subst h2
   obtain⟨rfl,mv',g',hR,dA,hS⟩:=ci.no gS
   obtain⟨c0,c1,c2,c3,c4⟩:=hR.cells
   have hK:=Jt hS
   have Ra:Hid ((g'.at_:Int)=A.sc.bad):=dA
   clear H1 ci Oh dA
   go_wp2_with fail
   go_quiet (fail)
   go_wp2
   go_ret3
   exact⟨hK.drewN _,fun _=>by rw[<-Ra.out];rfl,fun h=>absurd (show (2:Int)=0 from h) (by decide)⟩
  ·have h2:=H1.out
   rw[if_neg gS]at h2
   have H2:=ae h2
   obtain⟨mv',P,ms,gb,rv,z,hzL,rfl,hg,bW,hC,hMs,hS⟩:=ci.ok (by show A.sc.bad<0;omega)
   dsimp only at *
   have hK:=Jt hS
   have hG:Gm w2 w.heap.size gb rv P (fun _=>0) rs A.ns:=⟨⟨z,hg⟩,bW,hC.ar.kept (aa.refl (fun _=>False) w2) (fun _ _ _ x=>x) (fun _ _ _=>trivial),mv'.L,by simp[World.cell?,hg,hzL],hC.bk⟩
   have mH:=zn w.heap.size gb _ rv mv'.v P ms rs A.ns w2 hG hC.own hMs hW.len (by have:=hMs.len;have:=hW.len;omega)
   obtain⟨c0,c1,c2,c3,c4⟩:=hC.ris.cells
   obtain⟨mp,mc,tq⟩:=an hC.own
   have hPn:∀k,(∃i,i<A.ns.length/\P.getD i 0=k)->w.heap.size<=k:=by
    rintro k ⟨i,hi,rfl⟩
    have Ol:i<P.length:=by rw[hG.ar.len];exact hi
    exact hG.ar.low _ (by simp[List.getD,List.getElem?_eq_getElem Ol])
   clear H1 h2 ci Oh hS hC hzL
   obtain⟨mvv,mvL⟩:=mv'
   dsimp only at *
   subst tq
   go_wp2_with fail
   refine mH.mono ?_
   intro e w3 ci
   have eU:aa (fun _=>False) w w3:=⟨ci.kept.os.trans hK.os,ci.kept.tape.trans hK.tape,ci.kept.output.trans hK.output,Nat.le_trans hK.size ci.kept.size,fun k hk hs=>by
    rw[ci.kept.block k (Nat.lt_of_lt_of_le hk hK.size) (fun x=>by have:=hPn k x;omega)];exact hK.block k hk hs⟩
   by_cases hmis:0<=uN rs A.ns
   ·have h3:=H2.out
    rw[if_pos hmis]at h3
    subst h3
    have he:=ci.no hmis
    subst he
    clear H2 ci mH
    go_wp2
    go_ret3
    exact⟨eU,fun _=>rfl,fun h=>absurd (show (3:Int)=0 from h) (by decide)⟩
   ·have h3:=H2.out
    rw[if_neg hmis]at h3
    have H3:=ae h3
    obtain⟨rfl,ρ,jm,hρ⟩:=ci.ok (by omega)
    have Kg:=Gg hW (rF (by omega)) hρ (by omega) (fun i hi=>ys jm i hi) w3 jm
    clear H2 h3 ci mH
    go_wp2_with fail
    refine Kg.mono ?_
    intro e w4 ci
    have eK:=eU.trans ci.kept
    by_cases lN:0<=dc rs A.ns
    ·have h4:=H3.out
     rw[if_pos lN]at h4
     subst h4
     have he:=ci.no lN
     subst he
     clear H3 ci Kg
     go_wp2
     go_ret3
     exact⟨eK,fun _=>rfl,fun h=>absurd (show (4:Int)=0 from h) (by decide)⟩
    ·have h4:=H3.out
     rw[if_neg lN]at h4
     subst h4
     have he:=ci.ok (by omega)
     subst he
     have ij:=jm.same ci.kept
     clear H3 ci Kg
     go_wp2
     go_ret3
     refine⟨eK,fun h=>absurd rfl h,fun _=>⟨gb,rfl,w.heap.size,rv,P,ρ,Nat.le_refl _,?_⟩⟩
     rw[HX.out];exact⟨ij,hρ⟩
def zO (w:World)(m:Option Nat)(v:Value)(IB:List Nat):Prop:=
 ∃p c,v=.slice p IB.length c/\(IB=[]\/∃g gz,p=some ⟨g,0,none⟩/\m≠some g/\w.heap[g]?=some (.cells gz 147 (0,0))/\∀i (h:i<IB.length),gz[i]?=some (aw IB[i]))
inductive fw (w:World) (m:Option Nat):Nat->Rs->Prop
 | mk {b rule from_ cnt:Nat} {to:Int} {ay:List Rs} {v:Value} {IB:List Nat}
   (blk:w.heap[b]?=some (.cells #[.int .i64 (rule:Int),.int .i64 (from_:Int),.int .i64 to,.int .i64 (cnt:Int),v] 229 (0,0)))
   (row:zO w m v IB) (len:IB.length=ay.length)
   (sub:∀i (h:i<IB.length) (h':i<ay.length),fw w m IB[i] ay[i]):fw w m b (.mk rule from_ to cnt ay)
theorem fw.kept {w w':World}{m m':Option Nat}{T:Nat->Prop}(hk:aa T w w')(h1:∀j c,w.heap[j]?=some (.cells c 229 (0,0))->¬T j)(h2:∀j c,w.heap[j]?=some (.cells c 147 (0,0))->m≠some j->¬T j/\m'≠some j){b:Nat}{r:Rs}(h:fw w m b r):fw w' m' b r:=by
 induction h with
 | @mk b rule from_ cnt to ay v IB blk row len sub ih=>
  obtain⟨p,c,hv,dm⟩:=row
  refine .mk (v:=v) (IB:=IB) ?_ ⟨p,c,hv,?_⟩ len (fun i h h'=>ih i h h')
  ·rw[hk.block b (ag (show ai w b=_ from blk)) (h1 _ _ blk)];exact blk
  ·rcases dm with e | ⟨g,gz,e1,e2,e3,e4⟩
   ·exact .inl e
   ·obtain⟨k1,k2⟩:=h2 _ _ e3 e2
    refine .inr ⟨g,gz,e1,k2,?_,e4⟩
    rw[hk.block g (ag (show ai w g=_ from e3)) k1];exact e3
theorem fw.cells {w:World}{m:Option Nat}{b:Nat}{r:Rs}(h:fw w m b r):w.cell? ⟨b,0,none⟩=some (.int .i64 (r.rule:Int))/\w.cell? ⟨b,1,none⟩=some (.int .i64 (r.from_:Int))/\w.cell? ⟨b,2,none⟩=some (.int .i64 r.to)/\w.cell? ⟨b,3,none⟩=some (.int .i64 (r.cnt:Int)):=by
 cases h with
 | mk blk _ _ _=>refine⟨?_,?_,?_,?_⟩ <;> simp[World.cell?,blk,Rs.rule,Rs.from_,Rs.to,Rs.cnt]
theorem fw.lt {w:World}{m:Option Nat}{b:Nat}{r:Rs}(h:fw w m b r):b<w.heap.size:=av h.cells.1
def Wr (b0:Nat)(m:Option Nat)(w:World)(k:Nat):Prop:=b0<=k/\∀c t f,w.heap[k]?=some (.cells c t f)->(t=159\/t=311\/t=218\/t=280\/t=275\/t=270\/t=271)\/t=147/\m=some k
structure Fr (b0:Nat)(m m':Option Nat)(w w':World):Prop where
 kept:aa (Wr b0 m w) w w'
 own:∀k,m'=some k->m=some k\/w.heap.size<=k
theorem Fr.refl (b0:Nat)(m:Option Nat)(w:World):Fr b0 m m w w:=⟨aa.refl _ _,fun _ h=>.inl h⟩
theorem Fr.trans {b0:Nat}{m m1 m2:Option Nat}{w w1 w2:World}(h:Fr b0 m m1 w w1)(k:Fr b0 m1 m2 w1 w2):Fr b0 m m2 w w2:=by
 refine⟨h.kept.then k.kept (fun i hi hx=>?_),fun j hj=>?_⟩
 ·by_cases hw:Wr b0 m w i
  ·exact hw
  ·refine⟨hx.1,fun c t f hc=>?_⟩
   have:=hx.2 c t f (by rw[h.kept.block i hi hw];exact hc)
   rcases this with h1 | ⟨h1,h2⟩
   ·exact .inl h1
   ·rcases h.own i h2 with h3 | h3
    ·exact .inr ⟨h1,h3⟩
    ·omega
 ·rcases k.own j hj with h1 | h1
  ·exact h.own j h1
  ·exact .inr (Nat.le_trans h.kept.size h1)
theorem Fr.of {b0:Nat}{m:Option Nat}{w w':World}{T:Nat->Prop}(h:aa T w w')(hT:∀k,k<w.heap.size->T k->Wr b0 m w k):Fr b0 m m w w':=⟨h.mono hT,fun _ h=>.inl h⟩
theorem Fr.new {b0:Nat}{m:Option Nat}{w w':World}(h:aa (fun _=>False) w w'):Fr b0 m m w w':=Fr.of h (fun _ _ x=>x.elim)
theorem Fr.mem {b0:Nat}{m:Option Nat}{w w':World}(h:aa (Mw b0 w) w w'):Fr b0 m m w w':=Fr.of h (fun k _ hk=>⟨hk.1,fun c t f hc=>.inl (by
 rcases hk.2 c t f hc with h | h | h | h | h
 ·exact .inr (.inr (.inl h))
 ·exact .inr (.inr (.inr (.inl h)))
 ·exact .inr (.inr (.inr (.inr (.inl h))))
 ·exact .inr (.inr (.inr (.inr (.inr (.inl h)))))
 ·exact .inr (.inr (.inr (.inr (.inr (.inr h))))))⟩)
theorem Wr.ty {b0:Nat}{m:Option Nat}{w:World}{k:Nat}{c:Array Value}{t:TypeId}{f:Nat × Nat}(h:Wr b0 m w k)(hc:w.heap[k]?=some (.cells c t f)):(t=159\/t=311\/t=218\/t=280\/t=275\/t=270\/t=271)\/t=147/\m=some k:=h.2 c t f hc
theorem fw.fr {b0:Nat}{m m':Option Nat}{w w':World}(hf:Fr b0 m m' w w'){b:Nat}{r:Rs}(h:fw w m b r):fw w' m' b r:=
 h.kept hf.kept (fun j c hj hw=>by
  rcases hw.ty hj with h1 | ⟨h1,_⟩
  ·rcases h1 with h1 | h1 | h1 | h1 | h1 | h1 | h1 <;> exact absurd h1 (by decide)
  ·exact absurd h1 (by decide)) (fun j c hj hm=>⟨fun hw=>by
  rcases hw.ty hj with h1 | ⟨_,h2⟩
  ·rcases h1 with h1 | h1 | h1 | h1 | h1 | h1 | h1 <;> exact absurd h1 (by decide)
  ·exact hm h2,fun e=>by
  rcases hf.own j e with h1 | h1
  ·exact hm h1
  ·have:=ag (show ai w j=_ from hj);omega⟩)
theorem Gm.fr {b0:Nat}{m m':Option Nat}{w w':World}(hf:Fr b0 m m' w w'){base gb:Nat}{rv:Value}{P:List Nat}{ρ:Nat->Int}{rs:List Rl}{ns:List Nd}(h:Gm w base gb rv P ρ rs ns):Gm w' base gb rv P ρ rs ns:=
 h.kept hf.kept (fun j c t hw hj=>by
  rcases hw.ty hj with h1 | ⟨h1,_⟩
  ·rcases h1 with h1 | h1 | h1 | h1 | h1 | h1 | h1 <;> subst h1 <;> decide
  ·subst h1;decide)
structure Wi where
 wk:Nat
 gd:Nat
 gb:Nat
 mb:Nat
 kb:Nat
 b0:Nat
 inp:ByteArray
 bg:Nat
 rv:Value
 P:List Nat
 ρ:Nat->Int
 L:List Nat
 K:Wc
structure Ic (I:Wi):Prop where
 len:I.K.len=I.inp.size
 l60:I.inp.size<=60
 bt:I.K.b=am I.inp
 most:I.K.most<=20000
 num:I.K.inp<=20
 wf:lK I.K.ns I.K.rs
 ru:∀i,i<I.K.ns.length->(ap I.K.ns i).kind=3->I.ρ i=(dI I.K.rs (ap I.K.ns i):Int)/\dI I.K.rs (ap I.K.ns i)<I.K.rs.length
 ch:∀r,r<I.K.rs.length->(ap I.K.ns (cL I.K.rs r)).kind=4
 term:∀i,i<I.K.ns.length->(ap I.K.ns i).term<40
 br:∀i,i<I.K.ns.length->I.P.getD i 0∈I.L->I.L[I.K.br i]?=some (I.P.getD i 0)
 nsl:I.K.ns.length<=5000
 low:I.b0<=I.wk/\I.b0<=I.kb
def TI:Option Int->List Value
 | none=>[.bool false,.int .i64 0]
 | some t=>[.bool true,.int .i64 t]
def yX (l:List (Option Int)):Array Value:=(l.flatMap TI).toArray
structure cQ (I:Wi)(mv:Value)(s:Wt)(w:World):Prop where
 blk:w.heap[I.wk]?=some (.cells #[aw I.gd,.int .i64 (I.K.inp:Int),.string I.inp,.int .i64 (s.cnt:Int),.int .i64 (s.dn:Int),mv,.int .i64 s.far.1,.int .u64 (s.far.2:Int),.slice (some ⟨I.kb,0,none⟩) s.kn.length s.kn.length] 159 (0,0))
 gnd:w.heap[I.gd]?=some (.cells #[aw I.gb,.int .i64 (I.K.most:Int),aw I.mb] 152 (0,0))
 gm:Gm w I.bg I.gb I.rv I.P I.ρ I.K.rs I.K.ns
 brk:w.cell? ⟨I.gb,1,none⟩=some (.int .i64 (I.L.length:Int))/\Bk w I.P I.L I.K.ns
 mem:∃eb ob EL,iF w I.b0 I.mb eb ob EL I.K.mc (fw w mv.ownBlock) s.mem
 mt:∃MB,w.ownsRow I.b0 147 1 mv MB.length (MB.map aw)/\F2 (fw w mv.ownBlock) MB s.mt
 kn:w.heap[I.kb]?=some (.cells (yX s.kn) 311 (0,0))
 sane:io I.K s
 knl:s.kn.length=I.L.length*(I.K.len+1)
 far1:-1<=s.far.1/\s.far.1<=(I.K.len:Int)
 far2:s.far.2<2^40
theorem iF.rel {w:World}{b0 mb eb ob:Nat}{EL:List (Ky × Nat)}{C:Mc}{R R':Nat->Rs->Prop}{M:Ms}(h:iF w b0 mb eb ob EL C R M)(hR:∀b r,R b r->R' b r):iF w b0 mb eb ob EL C R' M:=
 ⟨h.ok,h.blk,h.map,h.keys,h.nd,h.in_,fun i h1 h2=>by obtain⟨rb,h3,h4⟩:=h.ent i h1 h2;exact⟨rb,h3,hR _ _ h4⟩,h.low,h.no0,h.dir,h.old,h.hits⟩
theorem Bk.cellsKept {w w':World}{P L:List Nat}{ns:List Nd}(h:Bk w P L ns)(hc:∀x∈P,w'.heap[x]?=w.heap[x]?):Bk w' P L ns:=by
 refine⟨fun k hk=>⟨(h.num k hk).1,?_⟩,h.sub⟩
 rw[<-(h.num k hk).2]
 simp only[World.cell?,hc _ (h.num k hk).1]
theorem cQ.part_same {I:Wi}{mv:Value}{s:Wt}{w w':World}(h:cQ I mv s w){m':Option Nat}(hf:Fr I.b0 mv.ownBlock m' w w'):(∀x∈I.P,w'.heap[x]?=w.heap[x]?)/\w'.heap[I.gb]?=w.heap[I.gb]?/\w'.heap[I.gd]?=w.heap[I.gd]?:=by
 have kh:∀(j:Nat) (c:Array Value) (t:TypeId),w.heap[j]?=some (Obj.cells c t (0,0))->(t=203\/t=150\/t=152)->w'.heap[j]?=w.heap[j]?:=by
  intro j c t hj ht
  refine hf.kept.block j (ag (show ai w j=_ from hj)) (fun hw=>?_)
  rcases hw.ty hj with h1 | ⟨h1,_⟩
  ·rcases ht with ht | ht | ht <;> subst ht <;> rcases h1 with h1 | h1 | h1 | h1 | h1 | h1 | h1 <;> exact absurd h1 (by decide)
  ·rcases ht with ht | ht | ht <;> subst ht <;> exact absurd h1 (by decide)
 refine⟨fun x hx=>?_,?_,kh _ _ _ h.gnd (.inr (.inr rfl))⟩
 ·obtain⟨i,hi,rfl⟩:=List.getElem_of_mem hx
  obtain⟨z,vR,vP,h1,_⟩:=h.gm.ar.part i (by rw[<-h.gm.ar.len];exact hi)
  have he:I.P.getD i 0=I.P[i]:=by simp[List.getD,List.getElem?_eq_getElem hi]
  rw[he]at h1
  exact kh _ _ _ h1 (.inl rfl)
 ·obtain⟨z,hz⟩:=h.gm.gram
  exact kh _ _ _ hz (.inr (.inl rfl))
def Zi (w:World)(S:Nat->Prop):Prop:=∀j,S j->∃c t,w.heap[j]?=some (.cells c t (0,0))/\t≠218/\t≠280/\t≠275/\t≠270/\t≠271
theorem iF.kept {S:Nat->Prop}{w w':World}{b0 mb eb ob:Nat}{EL:List (Ky × Nat)}{C:Mc}{R:Nat->Rs->Prop}{M:Ms}(h:iF w b0 mb eb ob EL C R M)(hk:aa S w w')(hS:Zi w S):iF w' b0 mb eb ob EL C R M:=by
 have kh:∀(j:Nat) (c:Array Value) (t:TypeId),w.heap[j]?=some (Obj.cells c t (0,0))->(t=218\/t=280\/t=275\/t=270\/t=271)->¬S j:=by
  intro j c t hj ht hs
  obtain⟨c',t',h1,h2,h3,h4,h5,h6⟩:=hS j hs
  rw[hj]at h1
  simp at h1
  rcases ht with e | e | e | e | e
  ·exact h2 (by rw[<-h1.2,e])
  ·exact h3 (by rw[<-h1.2,e])
  ·exact h4 (by rw[<-h1.2,e])
  ·exact h5 (by rw[<-h1.2,e])
  ·exact h6 (by rw[<-h1.2,e])
 refine⟨h.ok,?_,h.map.same (hk.block eb h.map.lt (fun x=>?_)),h.keys,h.nd,h.in_,fun i hi eM=>?_,h.low,h.no0,fun hp=>(h.dir hp).kept hk (fun j c t f hc ht x=>?_),fun hp=>?_,h.hits⟩
 ·rw[hk.block mb (ag (show ai w mb=_ from h.blk)) (kh _ _ _ h.blk (.inl rfl))];exact h.blk
 ·obtain⟨es,c,hm,_⟩:=h.map
  obtain⟨c',t',h1,_⟩:=hS eb x
  rw[hm]at h1;simp at h1
 ·obtain⟨rb,h1,h2⟩:=h.ent i hi eM
  refine⟨rb,h1.same (hk.block _ h1.lt ?_),h2⟩
  obtain⟨v3,v4,h3⟩:=h1
  exact kh _ _ _ h3 (.inr (.inl rfl))
 ·obtain⟨c',t',h1,h2,h3,h4,h5,h6⟩:=hS j x
  rw[hc]at h1
  simp at h1
  rcases ht with e | e
  ·exact h5 (by rw[<-h1.2.1,e])
  ·exact h6 (by rw[<-h1.2.1,e])
 ·obtain⟨c0,h0⟩:=(h.old hp).ty
  refine(h.old hp).kept hk (kh _ _ _ h0 (.inr (.inr (.inl rfl)))) (fun e he=>?_)
  obtain⟨rb,v3,v4,h3⟩:=h.en_at he
  exact kh _ _ _ h3 (.inr (.inl rfl))
theorem cQ.turn {I:Wi}{mv mv':Value}{s s':Wt}{w w':World}{S:Nat->Prop}(h:cQ I mv s w)(hk:aa S w w')(hf:Fr I.b0 mv.ownBlock mv'.ownBlock w w')(hS:Zi w S)
  (hblk:w'.heap[I.wk]?=some (.cells #[aw I.gd,.int .i64 (I.K.inp:Int),.string I.inp,.int .i64 (s'.cnt:Int),.int .i64 (s'.dn:Int),mv',.int .i64 s'.far.1,.int .u64 (s'.far.2:Int),.slice (some ⟨I.kb,0,none⟩) s'.kn.length s'.kn.length] 159 (0,0)))
  (eP:s'.mem=s.mem) (Cm:∃MB,w'.ownsRow I.b0 147 1 mv' MB.length (MB.map aw)/\F2 (fw w' mv'.ownBlock) MB s'.mt) (eh:w'.heap[I.kb]?=some (.cells (yX s'.kn) 311 (0,0))) (hs:io I.K s') (XC:s'.kn.length=s.kn.length) (pA:-1<=s'.far.1/\s'.far.1<=(I.K.len:Int)) (Gy:s'.far.2<2^40):cQ I mv' s' w':=by
 obtain⟨p1,p2,p3⟩:=h.part_same hf
 obtain⟨eb,ob,EL,hm⟩:=h.mem
 refine⟨hblk,by rw[p3];exact h.gnd,h.gm.fr hf,⟨?_,h.brk.2.cellsKept p1⟩,⟨eb,ob,EL,?_⟩,Cm,eh,hs,by rw[XC];exact h.knl,pA,Gy⟩
 ·have:=h.brk.1
  simp only[World.cell?,p2]at this ⊢
  exact this
 ·rw[eP]
  exact(hm.kept hk hS).rel (fun b r hr=>hr.fr hf)
theorem cQ.wkK {I:Wi}{mv:Value}{s:Wt}{w:World}(h:cQ I mv s w):Zi w (·=I.wk):=by
 intro j e
 have e':j=I.wk:=e
 subst e'
 exact⟨_,_,h.blk,by decide,by decide,by decide,by decide,by decide⟩
theorem cQ.wkF {I:Wi}{mv:Value}{s:Wt}{w w':World}(h:cQ I mv s w)(hI:Ic I)(hk:aa (·=I.wk) w w'):Fr I.b0 mv.ownBlock mv.ownBlock w w':=Fr.of hk (fun k _ e=>by
 have e':k=I.wk:=e
 subst e'
 refine⟨hI.low.1,fun c t f hc=>?_⟩
 rw[h.blk]at hc;simp at hc
 exact .inl (.inl hc.2.1.symm))
theorem cQ.nums {I:Wi}{mv:Value}{s s':Wt}{w w':World}(h:cQ I mv s w)(hI:Ic I)(hk:aa (·=I.wk) w w')
  (hblk:w'.heap[I.wk]?=some (.cells #[aw I.gd,.int .i64 (I.K.inp:Int),.string I.inp,.int .i64 (s'.cnt:Int),.int .i64 (s'.dn:Int),mv,.int .i64 s'.far.1,.int .u64 (s'.far.2:Int),.slice (some ⟨I.kb,0,none⟩) s'.kn.length s'.kn.length] 159 (0,0)))
  (eP:s'.mem=s.mem) (Cm:s'.mt=s.mt) (eh:s'.kn=s.kn) (hs:io I.K s') (pA:-1<=s'.far.1/\s'.far.1<=(I.K.len:Int)) (Gy:s'.far.2<2^40):cQ I mv s' w':=by
 have hf:=h.wkF hI hk
 obtain⟨MB,h1,h2⟩:=h.mt
 refine h.turn hk hf h.wkK hblk eP ⟨MB,aC h1 hk (fun i hi e=>?_),?_⟩ ?_ hs (by rw[eh]) pA Gy
 ·have e':i=I.wk:=e
  obtain⟨c,hc⟩:=ak h1 hi
  rw[e',show ai w I.wk=_ from h.blk]at hc
  simp at hc
 ·rw[Cm];exact h2.mono (fun a b _ hr=>hr.fr hf)
 ·rw[eh,hk.block I.kb (ag (show ai w I.kb=_ from h.kn)) (fun e=>by
   have e':I.kb=I.wk:=e
   have:=h.kn
   rw[e',h.blk]at this;simp at this)]
  exact h.kn
theorem cQ.cells {I:Wi}{mv:Value}{s:Wt}{w:World}(h:cQ I mv s w):w.cell? ⟨I.wk,0,none⟩=some (aw I.gd)/\w.cell? ⟨I.wk,1,none⟩=some (.int .i64 (I.K.inp:Int))/\w.cell? ⟨I.wk,2,none⟩=some (.string I.inp)/\w.cell? ⟨I.wk,3,none⟩=some (.int .i64 (s.cnt:Int))/\w.cell? ⟨I.wk,4,none⟩=some (.int .i64 (s.dn:Int))/\w.cell? ⟨I.wk,5,none⟩=some mv/\w.cell? ⟨I.gd,0,none⟩=some (aw I.gb)/\w.cell? ⟨I.gd,1,none⟩=some (.int .i64 (I.K.most:Int))/\w.cell? ⟨I.gd,2,none⟩=some (aw I.mb):=by
 refine⟨?_,?_,?_,?_,?_,?_,?_,?_,?_⟩ <;> simp[World.cell?,h.blk,h.gnd]
theorem cQ.frz {I:Wi}{mv:Value}{s:Wt}{w:World}(h:cQ I mv s w)(o:Nat):w.frozen? ⟨I.wk,o,none⟩=false:=by simp[World.frozen?,h.blk]
theorem cQ.drewN {I:Wi}{mv:Value}{s:Wt}{w:World}(h:cQ I mv s w)(hI:Ic I)(n:Nat):cQ I mv s (w.drewN n):=
 h.nums hI ((aa.refl (·=I.wk) w).drewN n) h.blk rfl rfl rfl h.sane h.far1 h.far2
end Go.Proofs.YtagklnaaoclmhaaGreatDoor
