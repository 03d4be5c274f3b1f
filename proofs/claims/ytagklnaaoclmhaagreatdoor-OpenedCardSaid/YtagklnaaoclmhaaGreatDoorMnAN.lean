import Derived.Test.YtagklnaaoclmhaaGreatDoorMnAM
import Derived.Test.YtagklnaaoclmhaaGreatDoorMnAB
set_option linter.unusedSimpArgs false
set_option linter.unusedVariables false
set_option maxRecDepth 100000
set_option maxHeartbeats 16000000
namespace Go.Proofs.YtagklnaaoclmhaaGreatDoor
open Go.RowKit
theorem yk {S:Nat->Bool}{k:Nat}(h:k<8):(em S)[k]?=some (.bool (S k)):=by
 rcases(show k=0\/k=1\/k=2\/k=3\/k=4\/k=5\/k=6\/k=7 by omega) with e | e | e | e | e | e | e | e <;> subst e <;> rfl
theorem NS {S:Nat->Bool}{k:Nat}(h:k<8)(v:Bool):(em S).setIfInBounds k (.bool v)=em (fun j=>if j=k then v else S j):=by
 rcases(show k=0\/k=1\/k=2\/k=3\/k=4\/k=5\/k=6\/k=7 by omega) with e | e | e | e | e | e | e | e <;> subst e <;> rfl
theorem qP {S S':Nat->Bool}(h:∀k,k<8->S k=S' k):em S=em S':=by
 unfold em
 rw[h 0 (by omega),h 1 (by omega),h 2 (by omega),h 3 (by omega),h 4 (by omega),h 5 (by omega),h 6 (by omega),h 7 (by omega)]
theorem Wa {w:World}{k t j:Nat}{S:Nat->Bool}(h:w.heap[k]?=some (.cells (em S) t))(hj:j<8):w.cell? ⟨k,j,none⟩=some (.bool (S j)):=by
 simp only[World.cell?,h];exact yk hj
theorem iQ {w:World}{k t j:Nat}{S:Nat->Bool}(h:w.heap[k]?=some (.cells (em S) t)):w.frozen? ⟨k,j,none⟩=false:=by
 simp[World.frozen?,h]
def P4 (S' S:Nat->Bool):Bool:=S' 0 == S 0&&(S' 1 == S 1&&(S' 2 == S 2&&(S' 3 == S 3&&(S' 4 == S 4&&(S' 5 == S 5&&(S' 6 == S 6&&(S' 7 == S 7&&true)))))))
theorem T0:Tryz.prog.plainKey 4=true:=by kernel_rfl
theorem mq (S' S:Nat->Bool)(W:World)(j:Nat)(is:List Nat)(r:Bool)(hj:j<8)(h:(Op.eqItems 9999 4 1 (em S') (em S) is).run Tryz.prog W=.ok r W):(Op.eqItems 9999 4 1 (em S') (em S) (j :: is)).run Tryz.prog W=.ok (S' j == S j&&r) W:=by
 have hp:∀(T:Nat->Bool),(part 4 (em T) (j*1)).run Tryz.prog W=.ok (.bool (T j)) W:=fun T=>run_part_plain W T0 (by rw[Nat.mul_one];exact yk hj)
 have he:∀a b,(Op.equalIn 9999 4 (.bool a) (.bool b)).run Tryz.prog W=.ok (a == b) W:=fun a b=>run_equalIn_bool' (P:=Tryz.prog) W 9998 4 a b Tryz.underlying4
 simp only[Op.eqItems,Sem.run_bind,hp S',hp S,Result.andThen_ok,he]
 cases hb:(S' j == S j)
 ·simp
 ·simp only[Bool.not_true,Bool.false_eq_true,if_false,Bool.true_and];exact h
theorem eq8 (S' S:Nat->Bool)(W:World):(Op.equalIn 10000 205 (.agg (em S')) (.agg (em S))).run Tryz.prog W=.ok (P4 S' S) W:=by
 obtain⟨i0,hi,gH,iD,iz⟩:=info_parts E8
 have Sh:Tryz.prog.cellsOf 4=1:=by simp[Program.cellsOf,hi,iD]
 rw[show (10000:Nat)=9999+1 from rfl,run_equalIn_array (e:=4) (n:=8) W 9999 _ _ Tryz.underlying205 hi,Sh]
 show (Op.eqItems 9999 4 1 (em S') (em S) [0,1,2,3,4,5,6,7]).run Tryz.prog W=_
 have h0:(Op.eqItems 9999 4 1 (em S') (em S) []).run Tryz.prog W=.ok true W:=by simp[Op.eqItems]
 exact mq S' S W 0 _ _ (by omega) (mq S' S W 1 _ _ (by omega) (mq S' S W 2 _ _ (by omega) (mq S' S W 3 _ _ (by omega) (mq S' S W 4 _ _ (by omega) (mq S' S W 5 _ _ (by omega) (mq S' S W 6 _ _ (by omega) (mq S' S W 7 _ _ (by omega) h0)))))))
theorem JA {S' S:Nat->Bool}(h:P4 S' S=true):∀k,k<8->S' k=S k:=by
 unfold P4 at h
 simp only[Bool.and_eq_true,beq_iff_eq]at h
 obtain⟨h0,h1,h2,h3,h4,h5,h6,h7,_⟩:=h
 intro k hk
 rcases(show k=0\/k=1\/k=2\/k=3\/k=4\/k=5\/k=6\/k=7 by omega) with e | e | e | e | e | e | e | e <;> subst e <;> assumption
theorem Gh {S' S:Nat->Bool}(h:P4 S' S=false):∃k,k<8/\S' k≠S k:=by
 apply Classical.byContradiction
 intro hn
 have hk:∀k,k<8->S' k=S k:=fun k hk=>Classical.byContradiction (fun x=>hn ⟨k,hk,x⟩)
 have:P4 S' S=true:=by
  unfold P4
  rw[hk 0 (by omega),hk 1 (by omega),hk 2 (by omega),hk 3 (by omega),hk 4 (by omega),hk 5 (by omega),hk 6 (by omega),hk 7 (by omega)]
  simp
 rw[this]at h;cases h
theorem Yy (w:World)(k:Nat)(v0 v1 v2 v3 v4 v5 v6 v7:Value):aa (·=k) w ((((((((w.setCell ⟨k,0,none⟩ v0).setCell ⟨k,1,none⟩ v1).setCell ⟨k,2,none⟩ v2).setCell ⟨k,3,none⟩ v3).setCell ⟨k,4,none⟩ v4).setCell ⟨k,5,none⟩ v5).setCell ⟨k,6,none⟩ v6).setCell ⟨k,7,none⟩ v7):=
 ((((((((aa.refl (·=k) w).setCell (p:=⟨k,0,none⟩) (fun _=>rfl) _).setCell (p:=⟨k,1,none⟩) (fun _=>rfl) _).setCell (p:=⟨k,2,none⟩) (fun _=>rfl) _).setCell (p:=⟨k,3,none⟩) (fun _=>rfl) _).setCell (p:=⟨k,4,none⟩) (fun _=>rfl) _).setCell (p:=⟨k,5,none⟩) (fun _=>rfl) _).setCell (p:=⟨k,6,none⟩) (fun _=>rfl) _).setCell (p:=⟨k,7,none⟩) (fun _=>rfl) _
def Fm (rs:List Rl)(ns:List Nd)(S:Nat->Bool)(i:Nat):Bool:=decide (i<rs.length)&&cE rs ns S ns.length (cL rs i)
structure FX (rs:List Rl)(ns:List Nd)(S:Nat->Bool):Prop where
 up:∀i,S i=true->Fm rs ns S i=true
 low:∀C:Nat->Bool,(∀i,i<rs.length->C i=cE rs ns C ns.length (cL rs i))->∀i,i<rs.length->S i=true->C i=true
theorem FX.none (rs:List Rl)(ns:List Nd):FX rs ns (fun _=>false):=⟨fun i h=>Bool.noConfusion h,fun C _ i _ h=>Bool.noConfusion h⟩
theorem FX.out {rs:List Rl}{ns:List Nd}{S:Nat->Bool}(h:FX rs ns S){i:Nat}(hi:rs.length<=i):S i=false:=by
 cases hs:S i with
 | false=>rfl
 | true=>
  have:=h.up i hs
  unfold Fm at this
  rw[decide_eq_false (by omega)]at this
  cases this
theorem Nu {rs:List Rl}{ns:List Nd}(hW:lK ns rs){S S':Nat->Bool}(h:∀i,S i=true->S' i=true){i:Nat}(hi:Fm rs ns S i=true):Fm rs ns S' i=true:=by
 unfold Fm at hi ⊢
 rw[Bool.and_eq_true]at hi ⊢
 exact⟨hi.1,pc hW.wf (fun j _ _ x=>h _ x) _ _ (dy hW (by simpa using hi.1)) hi.2⟩
theorem FX.next {rs:List Rl}{ns:List Nd}(hW:lK ns rs)(hN:∀N∈ns,N.kind=3->(dg rs N.name).isSome=true){S:Nat->Bool}(h:FX rs ns S):FX rs ns (Fm rs ns S):=by
 refine⟨fun i hi=>Nu hW h.up hi,fun C hC i hi hs=>?_⟩
 unfold Fm at hs
 rw[Bool.and_eq_true]at hs
 rw[hC i hi]
 exact pc hW.wf (fun j hj h3 x=>h.low C hC _ (gJ hN hj h3) x) _ _ (dy hW hi) hs.2
theorem FX.lst {rs:List Rl}{ns:List Nd}{S:Nat->Bool}(h:FX rs ns S)(he:∀i,i<rs.length->Fm rs ns S i=S i):NE rs ns S:=by
 refine⟨fun i hi=>?_,h.low⟩
 have:=he i hi
 unfold Fm at this
 rw[decide_eq_true hi,Bool.true_and]at this
 exact this.symm
def Ai (S:Nat->Bool):Nat:=(if S 0 then 1 else 0)+(if S 1 then 1 else 0)+(if S 2 then 1 else 0)+(if S 3 then 1 else 0)+(if S 4 then 1 else 0)+(if S 5 then 1 else 0)+(if S 6 then 1 else 0)+(if S 7 then 1 else 0)
theorem yn (S:Nat->Bool):Ai S<=8:=by
 unfold Ai
 (repeat' split) <;> omega
theorem Ep {S S':Nat->Bool}(h:∀i,S i=true->S' i=true)(hk:∃k,k<8/\S' k≠S k):Ai S<Ai S':=by
 have key:∀i,(if S i then 1 else 0)<=(if S' i then 1 else (0:Nat)):=by
  intro i
  by_cases hs:S i=true
  ·rw[if_pos hs,if_pos (h i hs)];exact Nat.le_refl _
  ·rw[if_neg hs];exact Nat.zero_le _
 obtain⟨k,lW,eW⟩:=hk
 have bj:(if S k then 1 else 0)<(if S' k then 1 else (0:Nat)):=by
  cases hs:S k <;> cases Nj:S' k
  ·exact absurd (Nj.trans hs.symm) eW
  ·simp
  ·have:=h k hs;rw[Nj]at this;cases this
  ·exact absurd (Nj.trans hs.symm) eW
 have k0:=key 0;have k1:=key 1;have k2:=key 2;have k3:=key 3
 have k4:=key 4;have k5:=key 5;have k6:=key 6;have k7:=key 7
 unfold Ai
 rcases(show k=0\/k=1\/k=2\/k=3\/k=4\/k=5\/k=6\/k=7 by omega) with e | e | e | e | e | e | e | e <;> subst e <;> omega
structure Vm (rs:List Rl)(ns:List Nd)(w:World)(e:Ending)(w':World):Prop where
 res:∃S,e=.returned (.agg (em S))/\NE rs ns S/\∀i,rs.length<=i->S i=false
 kept:aa (fun _=>False) w w'
structure ErI (base gb:Nat)(rv:Value)(P:List Nat)(ρ:Nat->Int)(rs:List Rl)(ns:List Nd)(w:World)(n:Nat)(S:Nat->Bool)(wx:World):Prop where
 num:Ai S+n=8
 grw:FX rs ns S
 gm:Gm wx base gb rv P ρ rs ns
 res:wx.heap[w.heap.size]?=some (.cells (em (fun _=>false)) 205)
 now:wx.heap[w.heap.size+1]?=some (.cells (em S) 205)
 kept:aa (fun _=>False) w wx
structure PJ (base gb:Nat)(rv:Value)(P:List Nat)(ρ:Nat->Int)(rs:List Rl)(ns:List Nd)(w:World)(S:Nat->Bool)(k k4:Nat)(wx:World):Prop where
 gm:Gm wx base gb rv P ρ rs ns
 res:wx.heap[w.heap.size]?=some (.cells (em (fun _=>false)) 205)
 now:wx.heap[w.heap.size+1]?=some (.cells (em (fun j=>if j<k then Fm rs ns S j else S j)) 205)
 old:wx.heap[k4]?=some (.cells (em S) 205)
 kept:aa (fun _=>False) w wx
 lt:w.heap.size+1<k4
theorem PJ.same {base gb k k4:Nat}{rv:Value}{P:List Nat}{ρ:Nat->Int}{rs:List Rl}{ns:List Nd}{w wx w':World}{S:Nat->Bool}(h:PJ base gb rv P ρ rs ns w S k k4 wx)(hk:aa (fun _=>False) wx w'):PJ base gb rv P ρ rs ns w S k k4 w':=
 ⟨h.gm.same hk,by rw[hk.block _ (ag (show ai wx _=_ from h.res)) (fun x=>x)];exact h.res,by rw[hk.block _ (ag (show ai wx _=_ from h.now)) (fun x=>x)];exact h.now,by rw[hk.block _ (ag (show ai wx _=_ from h.old)) (fun x=>x)];exact h.old,h.kept.trans hk,h.lt⟩
theorem aa.new {w w1 w2:World}{k:Nat}(h:aa (fun _=>False) w w1)(hk:aa (·=k) w1 w2)(hn:w.heap.size<=k):aa (fun _=>False) w w2:=
 ⟨hk.os.trans h.os,hk.tape.trans h.tape,hk.output.trans h.output,Nat.le_trans h.size hk.size,fun i hi hs=>by
  rw[hk.block i (Nat.lt_of_lt_of_le hi h.size) (by omega)];exact h.block i hi hs⟩
theorem PJ.step {base gb k k4:Nat}{rv:Value}{P:List Nat}{ρ:Nat->Int}{rs:List Rl}{ns:List Nd}{w wx:World}{S:Nat->Bool}(h:PJ base gb rv P ρ rs ns w S k k4 wx)(hk:k<8):PJ base gb rv P ρ rs ns w S (k+1) k4 (wx.setCell ⟨w.heap.size+1,k,none⟩ (.bool (Fm rs ns S k))):=by
 have hK:aa (·=w.heap.size+1) wx (wx.setCell ⟨w.heap.size+1,k,none⟩ (.bool (Fm rs ns S k))):=(aa.refl (·=w.heap.size+1) wx).setCell (p:=⟨w.heap.size+1,k,none⟩) (fun _=>rfl) _
 have bj:=h.lt
 refine⟨h.gm.kept hK (fun j c t e ho=>?_),?_,?_,?_,h.kept.new hK (by omega),h.lt⟩
 ·have e':j=w.heap.size+1:=e
  rw[e',show ai wx _=_ from h.now]at ho
  simp at ho
  rw[<-ho.2];decide
 ·rw[hK.block _ (ag (show ai wx _=_ from h.res)) (by omega)];exact h.res
 ·rw[aj h.now,NS hk]
  congr 2
  refine qP (fun j hj=>?_)
  by_cases hjk:j=k
  ·rw[if_pos hjk,if_pos (by omega),hjk]
  ·rw[if_neg hjk]
   by_cases h2:j<k
   ·rw[if_pos h2,if_pos (by omega)]
   ·rw[if_neg h2,if_neg (by omega)]
 ·rw[hK.block _ (ag (show ai wx _=_ from h.old)) (by omega)];exact h.old
theorem sE {base gb:Nat}{rv:Value}{P:List Nat}{ρ:Nat->Int}{rs:List Rl}{ns:List Nd}(hW:lK ns rs)(hN:∀N∈ns,N.kind=3->(dg rs N.name).isSome=true)(hρ:∀i,i<ns.length->(ap ns i).kind=3->ρ i=(dI rs (ap ns i):Int))(hn:ns.length<=5000)(kP:∀i,i<ns.length->(ap ns i).subs.length<=9223372036854775807)(w:World)(hG:Gm w base gb rv P ρ rs ns):
  Calls Tryz.prog 98 #[.pointer (some ⟨gb,0,none⟩)] w fun e w'=>Vm rs ns w e w':=by
 have GC:=hW.len
 have S4:=an hG.own
 obtain⟨rp,rc,dU⟩:=S4
 go_enter Tryz.func98,Tryz.ntmps98
 go_wp2
 go_loopg [] 8 (fun n wx=>∃S,ErI base gb rv P ρ rs ns w n S wx)
 case atStart=>
  refine⟨fun _=>false,rfl,FX.none rs ns,hG.same (((aa.refl _ w).alloc _).alloc _),?_,?_,((aa.refl _ w).alloc _).alloc _⟩
  ·rw[Below.heap_alloc _ _ _ (by simp)];exact heap_alloc_new _ _
  ·have:=heap_alloc_new (w.alloc (.cells (em (fun _=>false)) 205)) (.cells (em (fun _=>false)) 205)
   rw[show (w.alloc (.cells (em (fun _=>false)) 205)).heap.size=w.heap.size+1 by simp]at this
   exact this
 case round=>
  obtain⟨S,hI⟩:=hrel
  obtain⟨m,hm⟩:∃m,m=gk:=⟨gk,rfl⟩
  subst hm
  obtain⟨w5,jX⟩:∃w5,w5=wr:=⟨wr,rfl⟩
  subst jX
  obtain⟨c0,c1,c2,c3,c4,c5,c6,c7⟩:=gE hI.now
  obtain⟨z,hz⟩:=hI.gm.gram
  obtain⟨g0,g1,P6,P8⟩:=g7 hz
  have lV:=jL g0
  have gh:=ag (show ai w5 _=_ from hI.now)
  have rd:PJ base gb rv P ρ rs ns w S 0 w5.heap.size (w5.alloc (.cells (em S) 205)):=by
   have hK:aa (fun _=>False) w5 (w5.alloc (.cells (em S) 205)):=(aa.refl _ _).alloc _
   refine⟨hI.gm.same hK,?_,?_,heap_alloc_new _ _,hI.kept.trans hK,gh⟩
   ·rw[hK.block _ (ag (show ai w5 _=_ from hI.res)) (fun x=>x)];exact hI.res
   ·rw[hK.block _ gh (fun x=>x),hI.now];rfl
  subst dU
  have qcO:gb≠w5.heap.size:=fun e=>by subst e;exact Nat.lt_irrefl _ lV
  unfold em at rd
  have UE:=fun(i:Nat) (W:World) (hi:i<ns.length) (h:Gm W base gb (.slice rp rs.length rc) P ρ rs ns)=>iS (S:=S) hW hN hρ hn kP ns.length i W hi hi h
  have Oi:=hI.grw
  have wm:=hI.num
  have SU:∀j,rs.length<=j->S j=false:=fun j hj=>Oi.out hj
  have hIK:=hI.kept
  clear hI hz
  go_wp2
  clear c0 c1 c2 c3 c4 c5 c6 c7 g0 g1 P6 P8 lV
  go_loopg [13] rs.length (fun n i wx=>∃k:Nat,Hid (k+n=rs.length)/\i=.int .i64 k/\PJ base gb (.slice rp rs.length rc) P ρ rs ns w S k w5.heap.size wx)
  case atStart=>exact⟨0,Nat.zero_add _,rfl,rd⟩
  case round=>
   obtain⟨k,eh,rfl,hE⟩:=hrel
   obtain⟨m2,AN⟩:∃m2,m2=gk:=⟨gk,rfl⟩
   subst AN
   by_cases bj:k<rs.length
   ·obtain⟨rb,wH,dU,r0,r1,r2⟩:=kD hE.gm.own bj
    simp only[Value.slice.injEq]at dU
    obtain⟨hp,_,fO⟩:=dU
    subst hp fO
    unfold aO at r2
    have ro:rs[k].is<ns.length:=hW.is _ (List.getElem_mem bj)
    have AE:cL rs k=rs[k].is:=bQ _ _ _ _ bj
    have lW:k<8:=by omega
    have Xw:(k:Int)<8:=by omega
    have US:Fm rs ns S k=cE rs ns S ns.length rs[k].is:=by unfold Fm;rw[decide_eq_true bj,Bool.true_and,AE]
    have hE6:=fun o=>hE.same ((aa.refl (fun _=>False) wr).alloc o)
    have bO:=UE rs[k].is (wr.alloc (.cells #[.string (ba rs[k].name),.int .i64 (rs[k].at_:Int),.pointer (some ⟨P.getD rs[k].is 0,0,none⟩)] 189)) ro (hE6 _).gm
    rw[<-US]at bO
    have Zp:=hE6 (.cells #[.string (ba rs[k].name),.int .i64 (rs[k].at_:Int),.pointer (some ⟨P.getD rs[k].is 0,0,none⟩)] 189)
    obtain⟨d0,d1,d2,d3,d4,d5,d6,d7⟩:=gE hE.old
    have qcR:=ag (show ai wr _=_ from hE.old)
    have qcS:w5.heap.size≠wr.heap.size:=by omega
    generalize rs[k].name=rn at *
    generalize rs[k].at_=ra at *
    obtain⟨pq,lX⟩:∃pq,pq=P.getD rs[k].is 0:=⟨_,rfl⟩
    rw[<-lX]at r2 bO Zp
    have sz:=ae (fun(W:World) (hK:aa (fun _=>False) (wr.alloc (.cells #[.string (ba rn),.int .i64 (ra:Int),.pointer (some ⟨pq,0,none⟩)] 189)) W)=>(Zp.same hK).step lW)
    have HNW:=ae (fun(W:World) (hK:aa (fun _=>False) (wr.alloc (.cells #[.string (ba rn),.int .i64 (ra:Int),.pointer (some ⟨pq,0,none⟩)] 189)) W)=>(Zp.same hK).now)
    clear lX hE6 Zp US AE ro UE hE
    generalize Fm rs ns S k=fv at *
    unfold em at bO
    go_wp2_with fail
    refine bO.mono ?_
    rintro e w7 ⟨rfl,eE⟩
    have hn7:=HNW.out w7 eE
    have hc7:=Wa hn7 lW
    have hf7:=iQ (j:=k) hn7
    clear hn7
    go_wp2
    go_roundg (m2-1)
    case measure=>have:=eh.out;omega
    case rel=>exact⟨k+1,by have:=eh.out;unfold Hid;omega,by go_num,sz.out w7 eE⟩
   ·have uz:k=rs.length:=by have:=eh.out;omega
    have XW:wr.heap[w.heap.size+1]?=some (.cells (em (Fm rs ns S)) 205):=by
     rw[hE.now]
     congr 2
     refine qP (fun j hj=>?_)
     by_cases hjr:j<k
     ·rw[if_pos hjr]
     ·rw[if_neg hjr,SU j (by omega)]
      unfold Fm
      rw[decide_eq_false (by omega)];rfl
    have XU:=Oi.next hW hN
    have hup:=Oi.up
    have SS:=hE.old
    have mH:=hE.res
    have oI:=hE.gm
    have WJ:=hE.kept
    clear hE UE
    have qa4:=fun he=>Oi.lst he
    generalize Fm rs ns S=S' at *
    obtain⟨d0,d1,d2,d3,d4,d5,d6,d7⟩:=gE SS
    obtain⟨e0,e1,e2,e3,e4,e5,e6,e7⟩:=gE XW
    have Sp:∀W:World,(Op.equalIn 10000 205 (.agg (em S')) (.agg (em S))).run Tryz.prog W=.ok (P4 S' S) W:=eq8 S' S
    have HT:=ae (fun h=>JA (S':=S') (S:=S) h)
    have HF:=ae (fun h=>Gh (S':=S') (S:=S) h)
    unfold em at Sp
    obtain⟨f0,f1,f2,f3,f4,f5,f6,f7⟩:=gE mH
    have ff0:=iQ (j:=0) mH
    have ff1:=iQ (j:=1) mH
    have ff2:=iQ (j:=2) mH
    have ff3:=iQ (j:=3) mH
    have ff4:=iQ (j:=4) mH
    have ff5:=iQ (j:=5) mH
    have ff6:=iQ (j:=6) mH
    have ff7:=iQ (j:=7) mH
    clear rd
    generalize P4 S' S=eb at *
    cases eb
    ·have HQ:=ae (HF.out rfl)
     clear HT HF
     go_wp2
     go_roundg (8-Ai S')
     case measure=>
      have:=Ep (S:=S) (S':=S') (fun i h=>hup i h) HQ.out
      have:=yn S'
      omega
     case rel=>
      have:=yn S'
      exact⟨S',by omega,XU,oI,mH,XW,WJ⟩
    ·have HQ:=ae (HT.out rfl)
     clear HT HF
     go_wp2
     refine bodyPost_ret (v:=.agg #[.bool (S' 0),.bool (S' 1),.bool (S' 2),.bool (S' 3),.bool (S' 4),.bool (S' 5),.bool (S' 6),.bool (S' 7)]) (by simp[results,Tryz.results98,go_sem,f0,f1,f2,f3,f4,f5,f6,f7]) rfl ⟨⟨S,?_,qa4 (fun i hi=>HQ.out i (by omega)),SU⟩,?_⟩
     ·show Ending.returned (.agg (em S'))=_
      rw[qP HQ.out]
     ·exact WJ.new (Yy _ _ _ _ _ _ _ _ _ _) (Nat.le_refl _)
def gl (M:Nat->Nat->Bool):Array Value:=((List.range 64).map (fun q=>Value.bool (M (q / 8) (q%8)))).toArray
def nV (M:Nat->Nat->Bool)(i:Nat)(R:Nat->Bool)(a b:Nat):Bool:=if a=i then R b else M a b
def QP (R:Nat->Bool)(k:Nat)(v:Bool)(b:Nat):Bool:=if b=k then v else R b
theorem ky (M:Nat->Nat->Bool):(gl M).size=64:=by simp[gl]
theorem y8 {M:Nat->Nat->Bool}{i j:Nat}(hi:i<8)(hj:j<8):(gl M)[i*8+j]?=some (.bool (M i j)):=by
 unfold gl
 rw[List.getElem?_toArray,List.getElem?_map,List.getElem?_range (by omega)]
 have h1:(i*8+j) / 8=i:=by omega
 have h2:(i*8+j)%8=j:=by omega
 simp[h1,h2]
theorem je {M M':Nat->Nat->Bool}(h:∀a b,a<8->b<8->M a b=M' a b):gl M=gl M':=by
 unfold gl
 congr 1
 apply List.map_congr_left
 intro q hq
 have:=List.mem_range.1 hq
 rw[h _ _ (by omega) (by omega)]
theorem O2 {M:Nat->Nat->Bool}{i j:Nat}(hi:i<8)(hj:j<8)(v:Bool):(gl M).setIfInBounds (i*8+j) (.bool v)=gl (nV M i (QP (M i) j v)):=by
 apply Array.ext_getElem?
 intro q
 rw[Array.getElem?_setIfInBounds]
 by_cases hq:q<64
 ·obtain⟨a,b,ha,hb,rfl⟩:∃a b,a<8/\b<8/\q=a*8+b:=⟨q / 8,q%8,by omega,by omega,by omega⟩
  rw[y8 ha hb,y8 ha hb,ky]
  by_cases he:i*8+j=a*8+b
  ·have h1:a=i:=by omega
   have h2:b=j:=by omega
   subst h1 h2
   rw[if_pos rfl,if_pos (by omega)]
   simp[nV,QP]
  ·rw[if_neg he]
   unfold nV QP
   by_cases J5:a=i
   ·subst J5;rw[if_pos rfl,if_neg (by omega)]
   ·rw[if_neg J5]
 ·rw[if_neg (by omega),Array.getElem?_eq_none (by rw[ky];omega),Array.getElem?_eq_none (by rw[ky];omega)]
theorem FP (M:Nat->Nat->Bool)(i:Nat)(R R':Nat->Bool):nV (nV M i R) i R'=nV M i R':=by
 funext a b
 unfold nV
 split
 ·rfl
 ·rfl
theorem DY (M:Nat->Nat->Bool)(i:Nat)(R:Nat->Bool):nV M i R i=R:=by
 funext b;simp[nV]
theorem fZ {w:World}{k i j:Nat}{M:Nat->Nat->Bool}(h:w.heap[k]?=some (.cells (gl M) 207))(hi:i<8)(hj:j<8):w.cell? ⟨k,i*8+j,none⟩=some (.bool (M i j)):=by
 simp only[World.cell?,h];exact y8 hi hj
theorem xE {w:World}{k o:Nat}{M:Nat->Nat->Bool}(h:w.heap[k]?=some (.cells (gl M) 207)):w.frozen? ⟨k,o,none⟩=false:=by
 simp[World.frozen?,h]
theorem Ll {w:World}{k i j:Nat}{M:Nat->Nat->Bool}(h:w.heap[k]?=some (.cells (gl M) 207))(hi:i<8)(hj:j<8)(v:Bool):(w.setCell ⟨k,i*8+j,none⟩ (.bool v)).heap[k]?=some (.cells (gl (nV M i (QP (M i) j v))) 207):=by
 rw[aj h,O2 hi hj]
theorem Tp (T:Nat->Bool)(k:Nat)(hk:k<8)(W:World):(Instr.index 205 (.agg (em T)) (.int .i64 (k:Int))).run Tryz.prog W=.ok (.bool (T k)) W:=by
 obtain⟨i0,hi,gH,iD,iz⟩:=info_parts E8
 have hs:(sizeOf 4).run Tryz.prog W=.ok 1 W:=by simp[sizeOf,typeInfo,hi,iD]
 simp[Instr.index,run_underlying Tryz.underlying205,asIntOf,go_sem,hs]
 rw[if_pos hk,yk hk]
 rfl
def Mo (R T:Nat->Bool)(k:Nat)(b:Nat):Bool:=if b<k then R b||T b else R b
theorem Mp (R T:Nat->Bool)(k:Nat):QP (Mo R T k) k (R k||T k)=Mo R T (k+1):=by
 funext b
 unfold QP Mo
 by_cases h:b=k
 ·subst h;rw[if_pos rfl,if_pos (by omega)]
 ·rw[if_neg h]
  by_cases h2:b<k
  ·rw[if_pos h2,if_pos (by omega)]
  ·rw[if_neg h2,if_neg (by omega)]
theorem IY (lb i:Nat)(M:Nat->Nat->Bool)(R T:Nat->Bool)(w:World)(hi:i<8)(hL:w.heap[lb]?=some (.cells (gl (nV M i R)) 207)):
  Calls Tryz.prog 147 #[.pointer (some ⟨lb,i*8,none⟩),.agg (em T)] w fun e w'=>e=.returned (.tuple #[])/\w'.heap[lb]?=some (.cells (gl (nV M i (fun b=>R b||T b))) 207)/\aa (·=lb) w w':=by
 have AL:=ag (show ai w lb=_ from hL)
 unfold em
 go_enter Tryz.func147,Tryz.ntmps147
 go_wp2
 go_loopg [7] 8 (fun n v wx=>∃k:Nat,Hid (k+n=8)/\v=.int .i64 k/\Hid (wx.heap[lb]?=some (.cells (gl (nV M i (Mo R T k))) 207))/\aa (·=lb) w wx)
 case atStart=>
  refine⟨0,rfl,rfl,?_,(aa.refl _ w).alloc _⟩
  unfold Hid
  rw[Below.heap_alloc _ _ _ AL,hL,show Mo R T 0=R from by funext b;simp[Mo]]
 case round=>
  obtain⟨k,eh,rfl,HL,hK⟩:=hrel
  obtain⟨m,hm⟩:∃m,m=gk:=⟨gk,rfl⟩
  subst hm
  by_cases hk:k<8
  ·have hc:=fZ HL.out hi hk
   have hf:=xE (o:=i*8+k) HL.out
   have HS:=ae (fun v=>Ll HL.out hi hk v)
   rw[DY]at hc
   rw[show Mo R T k k=R k from by simp[Mo]]at hc
   have HU:=ae (Mp R T k)
   have fU:(k:Int)<8:=by omega
   have Cj:(0:Int)<=(k:Int):=by omega
   have Kp:=Tp T k hk
   unfold em at Kp
   have HC:=ae (show ∀v,v=(R k||T k)->(wr.setCell ⟨lb,i*8+k,none⟩ (.bool v)).heap[lb]?=some (.cells (gl (nV M i (Mo R T (k+1)))) 207) from fun v hv=>by
    rw[HS.out v,FP,DY,hv,HU.out])
   clear HS HU HL
   generalize R k=rk at *
   generalize T k=QV at *
   cases rk
   ·go_wp2
    go_region
    all_goals
     go_wp2
     go_roundg (m-1)
     case measure=>have:=eh.out;omega
     case rel=>exact⟨k+1,by have:=eh.out;unfold Hid;omega,by go_num,HC.out QV (by simp),(hK.setCell (p:=⟨lb,i*8+k,none⟩) (fun _=>rfl) _).drew⟩
   ·go_wp2
    go_region
    all_goals
     go_wp2
     go_roundg (m-1)
     case measure=>have:=eh.out;omega
     case rel=>exact⟨k+1,by have:=eh.out;unfold Hid;omega,by go_num,HC.out true (by simp),(hK.setCell (p:=⟨lb,i*8+k,none⟩) (fun _=>rfl) _).drew⟩
  ·have lW:k=8:=by have:=eh.out;omega
   subst lW
   go_wp2
   go_end0
   refine⟨rfl,?_,hK⟩
   rw[HL.out]
   have KB:gl (nV M i (Mo R T 8))=gl (nV M i (fun b=>R b||T b)):=je (fun a b _ hb=>by
    unfold nV Mo
    rw[if_pos hb])
   rw[KB]
def Ht (W:List Bool)(b:Nat):Bool:=W.getD b false
theorem Pl {W:List Bool}{r:Nat}(h:r<W.length):QP (Ht W) r true=Ht (W.set r true):=by
 funext b
 unfold QP Ht
 by_cases hb:b=r
 ·subst hb;rw[if_pos rfl,cN h]
 ·rw[if_neg hb,dO hb]
theorem ua {l:List Nat}{q:Nat}(h:q<l.length):l.drop q=l.getD q 0 :: l.drop (q+1):=by
 rw[List.drop_eq_getElem_cons h];simp[List.getD,List.getElem?_eq_getElem h]
def xX (base gb:Nat)(rv:Value)(P:List Nat)(ρ:Nat->Int)(rs:List Rl)(ns:List Nd)(S:Nat->Bool)(f:Nat):Prop:=∀(p i lb:Nat) (M:Nat->Nat->Bool) (W:List Bool) (w:World),p<f->p<ns.length->i<8->W.length=8->Gm w base gb rv P ρ rs ns->w.heap[lb]?=some (.cells (gl (nV M i (Ht W))) 207)->
 Calls Tryz.prog 146 #[.pointer (some ⟨P.getD p 0,0,none⟩),.pointer (some ⟨lb,i*8,none⟩),.agg (em S)] w fun e w'=>e=.returned (.tuple #[])/\w'.heap[lb]?=some (.cells (gl (nV M i (Ht (aB rs ns S f p W)))) 207)/\aa (·=lb) w w'
theorem Gm.mat {w w':World}{base gb lb:Nat}{rv:Value}{P:List Nat}{ρ:Nat->Int}{rs:List Rl}{ns:List Nd}{c:Array Value}(h:Gm w base gb rv P ρ rs ns)(hL:w.heap[lb]?=some (.cells c 207))(hk:aa (·=lb) w w'):Gm w' base gb rv P ρ rs ns:=
 h.kept hk (fun j c' t e ho=>by
  have e':j=lb:=e
  rw[e',show ai w lb=_ from hL]at ho
  simp at ho
  rw[<-ho.2];decide)
structure PH (base gb:Nat)(rv:Value)(P:List Nat)(ρ:Nat->Int)(rs:List Rl)(ns:List Nd)(S:Nat->Bool)(i lb:Nat)(M:Nat->Nat->Bool)(w0:World)(W:List Bool)(wx:World):Prop where
 len:W.length=8
 gm:Gm wx base gb rv P ρ rs ns
 row:wx.heap[lb]?=some (.cells (Go.Proofs.YtagklnaaoclmhaaGreatDoor.gl (nV M i (Ht W))) 207)
 box:wx.heap[w0.heap.size]?=some (.cells (em S) 205)
 kept:aa (·=lb) w0 wx
theorem PH.turn {base gb i lb:Nat}{rv:Value}{P:List Nat}{ρ:Nat->Int}{rs:List Rl}{ns:List Nd}{S:Nat->Bool}{M:Nat->Nat->Bool}{w0 wx w':World}{W W':List Bool}(h:PH base gb rv P ρ rs ns S i lb M w0 W wx)(hl:W'.length=8)(hr:w'.heap[lb]?=some (.cells (Go.Proofs.YtagklnaaoclmhaaGreatDoor.gl (nV M i (Ht W'))) 207))(hk:aa (·=lb) wx w')(AI:lb≠w0.heap.size):PH base gb rv P ρ rs ns S i lb M w0 W' w':=
 ⟨hl,h.gm.mat h.row hk,hr,by rw[hk.block _ (ag (show ai wx _=_ from h.box)) (fun e=>AI e.symm)];exact h.box,h.kept.trans hk⟩
theorem tO {base gb:Nat}{rv:Value}{P:List Nat}{ρ:Nat->Int}{rs:List Rl}{ns:List Nd}{S:Nat->Bool}{f:Nat}(hW:lK ns rs)(hN:∀N∈ns,N.kind=3->(dg rs N.name).isSome=true)(hρ:∀i,i<ns.length->(ap ns i).kind=3->ρ i=(dI rs (ap ns i):Int))(hn:ns.length<=5000)(kP:∀i,i<ns.length->(ap ns i).subs.length<=9223372036854775807)(IH:xX base gb rv P ρ rs ns S f):xX base gb rv P ρ rs ns S (f+1):=by
 intro p i lb M W w hf hp hi Az hG hL
 obtain⟨z,vR,vP,ia,_,_,_,ke,_⟩:=hG.ar.part p hp
 have iJ:=be hW.wf hp
 have Co:=hρ p hp
 have rz:=fun h=>gJ hN hp h
 have KX:=kP p hp
 rw[<-bA hp]at ia ke
 have UE:=fun(j:Nat) (X:World) (hj:j<ns.length) (h:Gm X base gb rv P ρ rs ns)=>iS (S:=S) hW hN hρ hn kP ns.length j X hj hj h
 obtain⟨iW,RT⟩:∃iW,aB rs ns S (f+1) p W=iW:=⟨_,rfl⟩
 have sG:=RT
 rw[aB]at sG
 rw[RT]
 obtain⟨p0,p1,p4,p6⟩:=oP ia
 have AL:=ag (show ai w lb=_ from hL)
 have sn:=ag (show ai w _=_ from ia)
 generalize jo:ap ns p=N at *
 generalize P.getD p 0=pi at *
 clear RT jo hρ
 have XT:pi≠w.heap.size:=by omega
 have AR:lb≠w.heap.size:=by omega
 have qbe:pi≠lb:=fun e=>by
  subst e
  rw[ia]at hL
  simp at hL
 obtain⟨pv,cv,xw⟩:=an ke
 have xo:=iJ.kind
 have Om:(cu N.kind == 0)=decide (N.kind=3):=by
  have:∀k,k<=10->(cu k == 0)=decide (k=3):=by decide
  exact this _ xo
 have SC:(cu N.kind == 5)=decide (N.kind=5):=by
  have:∀k,k<=10->(cu k == 5)=decide (k=5):=by decide
  exact this _ xo
 have WH:∀(j pj:Nat) (X:World),j<ns.length->P.getD j 0=pj->Gm X base gb rv P ρ rs ns->Calls Tryz.prog 145 #[.pointer (some ⟨pj,0,none⟩),.agg (em S)] X fun e w'=>e=.returned (.bool (cE rs ns S ns.length j))/\aa (fun _=>False) X w':=fun j pj X hj hpj h=>by rw[<-hpj];exact UE j X hj h
 have HPS:=ae (fun(X:World) (hK:aa (·=lb) w X)=>aC ke hK (fun j hj e=>by
  obtain⟨c,hc⟩:=ak ke hj
  have e':j=lb:=e
  rw[e',show ai w lb=_ from hL]at hc
  simp at hc))
 have VA:=ae (fun(k:Nat) (hk:k<N.subs.length)=>iJ.low _ (py hk))
 have IHH:=ae IH
 have HPC:=ae (fun(X:World) (hK:aa (·=lb) w X)=>(hK.cell (p:=⟨pi,0,none⟩) sn qbe).trans p0)
 have Uo:=ae (fun h:N.kind=5=>(by rw[SC];simpa using h:(cu N.kind == 5)=true))
 have HN5:=ae (fun h:¬N.kind=5=>(by rw[SC];simpa using h:(cu N.kind == 5)=false))
 have HBX:=ae (fun(W':List Bool) (wx:World) (h:PH base gb rv P ρ rs ns S i lb M w W' wx)=>HPC.out wx h.kept)
 have MZ:PH base gb rv P ρ rs ns S i lb M w W (w.alloc (.cells (em S) 205)):=⟨Az,hG.same ((aa.refl _ w).alloc _),by rw[Below.heap_alloc _ _ _ AL];exact hL,heap_alloc_new _ _,(aa.refl _ w).alloc _⟩
 have HIE:=ae WH
 clear WH UE IH SC
 subst xw
 by_cases h3:N.kind=3
 ·have q0:(cu N.kind == 0)=true:=by rw[Om];simpa using h3
  rw[if_pos h3]at sG
  have h8:dI rs N<8:=by have:=rz h3;have:=hW.len;omega
  rw[Co h3]at p1
  have Ik:=Ll hL hi h8 true
  rw[FP,DY,Pl (by omega)]at Ik
  have hc:=fZ hL hi h8
  have Na:=xE (o:=i*8+dI rs N) hL
  have ux:aa (·=lb) w (w.setCell ⟨lb,i*8+dI rs N,none⟩ (.bool true)):=(aa.refl (·=lb) w).setCell (p:=⟨lb,i*8+dI rs N,none⟩) (fun _=>rfl) _
  have EX:(w.setCell ⟨lb,i*8+dI rs N,none⟩ (.bool true)).heap.size=w.heap.size:=by simp[World.setCell]
  have hA1:PH base gb rv P ρ rs ns S i lb M w (W.set (dI rs N) true) ((w.setCell ⟨lb,i*8+dI rs N,none⟩ (.bool true)).alloc (.cells (em S) 205)):=⟨by simp[Az],(hG.mat hL ux).same ((aa.refl _ _).alloc _),by rw[Below.heap_alloc _ _ _ (by omega)];exact Ik,by rw[<-EX];exact heap_alloc_new _ _,ux.alloc _⟩
  have Q9:=ae hA1
  have HF0:Hid (aL (aB rs ns S f) (cE rs ns S ns.length) N.kind (N.subs.drop 0) (W.set (dI rs N) true)=iW):=sG
  clear hA1 Ik sG MZ rz Co h3 Om ux EX
  generalize dI rs N=r at *
  have h8':(r:Int)<8:=by omega
  unfold em at Q9 ⊢
  generalize hkcN:cu N.kind=kc at *
  clear hkcN
  go_enter Tryz.func146,Tryz.ntmps146
  go_wp2
  go_region
  all_goals
   go_wp2
   go_loopg [25] N.subs.length (fun n v wx=>∃(k:Nat) (W':List Bool),Hid (k+n=N.subs.length)/\v=.int .i64 k/\PH base gb rv P ρ rs ns S i lb M w W' wx/\Hid (aL (aB rs ns S f) (cE rs ns S ns.length) N.kind (N.subs.drop k) W'=iW))
   case atStart=>exact⟨0,_,Nat.zero_add _,rfl,(Q9.out.turn Q9.out.len Q9.out.row ((aa.refl (·=lb) _).drew) AR),HF0.out⟩
   case round=>
    obtain⟨k,W',eh,rfl,hA,HF⟩:=hrel
    obtain⟨m,hm⟩:∃m,m=gk:=⟨gk,rfl⟩
    subst hm
    have sh:=HBX.out _ _ hA
    by_cases bj:k<N.subs.length
    ·obtain⟨sb,kT,dU,r0⟩:=mT (HPS.out wr hA.kept) bj
     simp only[Value.slice.injEq]at dU
     obtain⟨zM,_,fO⟩:=dU
     subst zM fO
     have C8:=VA.out k bj
     have h1:=HF.out
     rw[ua bj,aL]at h1
     have H1:=ae h1
     clear h1 HF
     generalize N.subs.getD k 0=j at *
     have gu:=IHH.out j i lb M W' wr (by omega) (by omega) hi hA.len hA.gm hA.row
     have AK:(aB rs ns S f j W').length=8:=by rw[tN,hA.len]
     generalize aB rs ns S f j W'=W7 at *
     generalize hpj:P.getD j 0=pj at *
     obtain⟨b0,b1,b2,b3,b4,b5,b6,b7⟩:=gE hA.box
     unfold em at gu
     go_wp2_with fail
     refine gu.mono ?_
     rintro e w7 ⟨rfl,AW,eE⟩
     have qt:=hA.turn AK AW eE AR
     have qbp:=HPC.out w7 qt.kept
     clear gu
     by_cases h5:N.kind=5
     ·have q5:=Uo.out h5
      have It:=HIE.out j pj w7 (by omega) hpj qt.gm
      have hA8:=fun(X:World) (hK:aa (fun _=>False) w7 X)=>qt.turn AK (by rw[hK.block _ (ag (show ai w7 _=_ from AW)) (fun x=>x)];exact AW) (hK.mono (fun _ _ x=>x.elim)) AR
      obtain⟨d0,d1,d2,d3,d4,d5,d6,d7⟩:=gE qt.box
      have H2:=ae (fun(h:cE rs ns S ns.length j=false)=>by
       have:=H1.out
       rw[if_pos ⟨h5,h⟩]at this
       exact this:cE rs ns S ns.length j=false->W7=iW)
      have H3:=ae (fun(h:cE rs ns S ns.length j=true)=>by
       have:=H1.out
       rw[if_neg (by rw[h];simp)]at this
       exact this:cE rs ns S ns.length j=true->aL (aB rs ns S f) (cE rs ns S ns.length) N.kind (N.subs.drop (k+1)) W7=iW)
      clear H1 h5
      generalize UN:cE rs ns S ns.length j=ce at *
      unfold em at It
      go_wp2_with fail
      refine It.mono ?_
      rintro e w8 ⟨rfl,lM⟩
      have Cc:=hA8 w8 lM
      cases ce
      ·have H4:=ae (H2.out rfl)
       clear H2 H3
       go_wp2
       refine bodyPost_ret (v:=.tuple #[]) (results_none rfl _ _ _) rfl ?_
       exact⟨rfl,by rw[<-H4.out];exact Cc.row,Cc.kept⟩
      ·have H4:=ae (H3.out rfl)
       clear H2 H3
       go_wp2
       go_roundg (m-1)
       case measure=>have:=eh.out;omega
       case rel=>exact⟨k+1,W7,by have:=eh.out;unfold Hid;omega,by go_num,Cc,H4.out⟩
     ·have q5:=HN5.out h5
      have H4:Hid (aL (aB rs ns S f) (cE rs ns S ns.length) N.kind (N.subs.drop (k+1)) W7=iW):=by
       have:=H1.out
       rw[if_neg (fun x=>h5 x.1)]at this
       exact this
      clear H1 h5
      go_wp2
      go_roundg (m-1)
      case measure=>have:=eh.out;omega
      case rel=>exact⟨k+1,W7,by have:=eh.out;unfold Hid;omega,by go_num,qt,H4.out⟩
    ·have H4:Hid (W'=iW):=by
      have:=HF.out
      rw[List.drop_of_length_le (by omega)]at this
      exact this
     clear HF
     go_wp2
     go_end0
     exact⟨rfl,by rw[<-H4.out];exact hA.row,hA.kept⟩
 ·have q0:(cu N.kind == 0)=false:=by rw[Om];simpa using h3
  rw[if_neg h3]at sG
  have Q9:=ae MZ
  have HF0:Hid (aL (aB rs ns S f) (cE rs ns S ns.length) N.kind (N.subs.drop 0) W=iW):=sG
  clear sG MZ rz Co h3 Om
  unfold em at Q9 ⊢
  generalize hkcN:cu N.kind=kc at *
  clear hkcN
  go_enter Tryz.func146,Tryz.ntmps146
  go_wp2
  go_loopg [25] N.subs.length (fun n v wx=>∃(k:Nat) (W':List Bool),Hid (k+n=N.subs.length)/\v=.int .i64 k/\PH base gb rv P ρ rs ns S i lb M w W' wx/\Hid (aL (aB rs ns S f) (cE rs ns S ns.length) N.kind (N.subs.drop k) W'=iW))
  case atStart=>exact⟨0,_,Nat.zero_add _,rfl,Q9.out,HF0.out⟩
  case round=>
   obtain⟨k,W',eh,rfl,hA,HF⟩:=hrel
   obtain⟨m,hm⟩:∃m,m=gk:=⟨gk,rfl⟩
   subst hm
   have sh:=HBX.out _ _ hA
   by_cases bj:k<N.subs.length
   ·obtain⟨sb,kT,dU,r0⟩:=mT (HPS.out wr hA.kept) bj
    simp only[Value.slice.injEq]at dU
    obtain⟨zM,_,fO⟩:=dU
    subst zM fO
    have C8:=VA.out k bj
    have h1:=HF.out
    rw[ua bj,aL]at h1
    have H1:=ae h1
    clear h1 HF
    generalize N.subs.getD k 0=j at *
    have gu:=IHH.out j i lb M W' wr (by omega) (by omega) hi hA.len hA.gm hA.row
    have AK:(aB rs ns S f j W').length=8:=by rw[tN,hA.len]
    generalize aB rs ns S f j W'=W7 at *
    generalize hpj:P.getD j 0=pj at *
    obtain⟨b0,b1,b2,b3,b4,b5,b6,b7⟩:=gE hA.box
    unfold em at gu
    go_wp2_with fail
    refine gu.mono ?_
    rintro e w7 ⟨rfl,AW,eE⟩
    have qt:=hA.turn AK AW eE AR
    have qbp:=HPC.out w7 qt.kept
    clear gu
    by_cases h5:N.kind=5
    ·have q5:=Uo.out h5
     have It:=HIE.out j pj w7 (by omega) hpj qt.gm
     have hA8:=fun(X:World) (hK:aa (fun _=>False) w7 X)=>qt.turn AK (by rw[hK.block _ (ag (show ai w7 _=_ from AW)) (fun x=>x)];exact AW) (hK.mono (fun _ _ x=>x.elim)) AR
     obtain⟨d0,d1,d2,d3,d4,d5,d6,d7⟩:=gE qt.box
     have H2:=ae (fun(h:cE rs ns S ns.length j=false)=>by
      have:=H1.out
      rw[if_pos ⟨h5,h⟩]at this
      exact this:cE rs ns S ns.length j=false->W7=iW)
     have H3:=ae (fun(h:cE rs ns S ns.length j=true)=>by
      have:=H1.out
      rw[if_neg (by rw[h];simp)]at this
      exact this:cE rs ns S ns.length j=true->aL (aB rs ns S f) (cE rs ns S ns.length) N.kind (N.subs.drop (k+1)) W7=iW)
     clear H1 h5
     generalize UN:cE rs ns S ns.length j=ce at *
     unfold em at It
     go_wp2_with fail
     refine It.mono ?_
     rintro e w8 ⟨rfl,lM⟩
     have Cc:=hA8 w8 lM
     cases ce
     ·have H4:=ae (H2.out rfl)
      clear H2 H3
      go_wp2
      refine bodyPost_ret (v:=.tuple #[]) (results_none rfl _ _ _) rfl ?_
      exact⟨rfl,by rw[<-H4.out];exact Cc.row,Cc.kept⟩
     ·have H4:=ae (H3.out rfl)
      clear H2 H3
      go_wp2
      go_roundg (m-1)
      case measure=>have:=eh.out;omega
      case rel=>exact⟨k+1,W7,by have:=eh.out;unfold Hid;omega,by go_num,Cc,H4.out⟩
    ·have q5:=HN5.out h5
     have H4:Hid (aL (aB rs ns S f) (cE rs ns S ns.length) N.kind (N.subs.drop (k+1)) W7=iW):=by
      have:=H1.out
      rw[if_neg (fun x=>h5 x.1)]at this
      exact this
     clear H1 h5
     go_wp2
     go_roundg (m-1)
     case measure=>have:=eh.out;omega
     case rel=>exact⟨k+1,W7,by have:=eh.out;unfold Hid;omega,by go_num,qt,H4.out⟩
   ·have H4:Hid (W'=iW):=by
     have:=HF.out
     rw[List.drop_of_length_le (by omega)]at this
     exact this
    clear HF
    go_wp2
    go_end0
    exact⟨rfl,by rw[<-H4.out];exact hA.row,hA.kept⟩
theorem mj {base gb:Nat}{rv:Value}{P:List Nat}{ρ:Nat->Int}{rs:List Rl}{ns:List Nd}{S:Nat->Bool}(hW:lK ns rs)(hN:∀N∈ns,N.kind=3->(dg rs N.name).isSome=true)(hρ:∀i,i<ns.length->(ap ns i).kind=3->ρ i=(dI rs (ap ns i):Int))(hn:ns.length<=5000)(kP:∀i,i<ns.length->(ap ns i).subs.length<=9223372036854775807):∀f,xX base gb rv P ρ rs ns S f
 | 0=>fun p i lb M W w hf=>absurd hf (by omega)
 | f+1=>tO hW hN hρ hn kP (mj hW hN hρ hn kP f)
def ya (base gb:Nat)(rv:Value)(P:List Nat)(ρ:Nat->Int)(rs:List Rl)(ns:List Nd)(S:Nat->Bool)(f:Nat):Prop:=∀(i:Nat) (w:World),i<f->i<ns.length->Gm w base gb rv P ρ rs ns->
 Calls Tryz.prog 100 #[.pointer (some ⟨P.getD i 0,0,none⟩),.agg (em S)] w fun e w'=>e=.returned (.bool (rE rs ns S f i))/\aa (fun _=>False) w w'
theorem qbW {base gb:Nat}{rv:Value}{P:List Nat}{ρ:Nat->Int}{rs:List Rl}{ns:List Nd}{S:Nat->Bool}{f:Nat}(IE:md base gb rv P ρ rs ns S ns.length)(IH:ya base gb rv P ρ rs ns S f)(i ka kb:Nat)(rep:Bool)(w:World)(hf:i<f)(hi:i<ns.length)(hG:Gm w base gb rv P ρ rs ns)(ha:w.heap[ka]?=some (.cells #[.bool rep] 4))(hk:w.heap[kb]?=some (.cells (em S) 205)):
  Calls Tryz.prog 149 #[.pointer (some ⟨P.getD i 0,0,none⟩),.pointer (some ⟨ka,0,none⟩),.pointer (some ⟨kb,0,none⟩)] w fun e w'=>e=.returned (.bool (rep&&cE rs ns S ns.length i||rE rs ns S f i))/\aa (fun _=>False) w w':=by
 have It:=IE i w hi hi hG
 have Ql:=fun(X:World) (hK:aa (fun _=>False) w X)=>IH i X hf hi (hG.same hK)
 obtain⟨c0,c1,c2,c3,c4,c5,c6,c7⟩:=gE hk
 have hca:w.cell? ⟨ka,0,none⟩=some (.bool rep):=by simp[World.cell?,ha]
 have dx:=ag (show ai w kb=_ from hk)
 have HC:=ae (fun(X:World) (hK:aa (fun _=>False) w X)=>gE (by rw[hK.block _ dx (fun x=>x)];exact hk:X.heap[kb]?=some (.cells (em S) 205)))
 unfold em at It Ql
 generalize P.getD i 0=pi at *
 generalize cE rs ns S ns.length i=ce at *
 generalize rE rs ns S f i=re at *
 clear IH IE hG ha
 cases rep
 ·have Sw:=Ql w (aa.refl _ _)
  go_enter Tryz.func149,Tryz.ntmps149
  go_wp2_with fail
  refine Sw.mono ?_
  rintro e w1 ⟨rfl,hK⟩
  go_wp2
  go_ret
  exact⟨by simp,hK⟩
 ·go_enter Tryz.func149,Tryz.ntmps149
  go_wp2_with fail
  refine It.mono ?_
  rintro e w1 ⟨rfl,hK⟩
  cases ce
  ·obtain⟨d0,d1,d2,d3,d4,d5,d6,d7⟩:=HC.out w1 hK
   have Sw:=Ql w1 hK
   go_wp2_with fail
   refine Sw.mono ?_
   rintro e w2 ⟨rfl,dl⟩
   go_wp2
   go_ret
   exact⟨by simp,hK.trans dl⟩
  ·go_wp2
   go_ret
   exact⟨by simp,hK⟩
theorem zm {base gb:Nat}{rv:Value}{P:List Nat}{ρ:Nat->Int}{rs:List Rl}{ns:List Nd}{S:Nat->Bool}{f:Nat}(hW:lK ns rs)(kP:∀i,i<ns.length->(ap ns i).subs.length<=9223372036854775807)(IE:md base gb rv P ρ rs ns S ns.length)(IH:ya base gb rv P ρ rs ns S f):ya base gb rv P ρ rs ns S (f+1):=by
 intro i w hf hi hG
 have hmf:∀(fn:Fn) (first cap:Array Value) (w:World),(Instr.makeFunc fn first cap).run Tryz.prog w=.ok (.func fn first cap) w:=fun _ _ _ _=>rfl
 obtain⟨z,vR,vP,ia,_,_,_,ke,_⟩:=hG.ar.part i hi
 have iJ:=be hW.wf hi
 have KX:=kP i hi
 rw[<-bA hi]at ia ke
 obtain⟨p0,p1,p4,p6⟩:=oP ia
 rw[rE]
 generalize jo:ap ns i=N at *
 generalize P.getD i 0=pi at *
 have sn:=ag (show ai w pi=_ from ia)
 have XT:pi≠w.heap.size:=by omega
 have AR:pi≠w.heap.size+1:=by omega
 have xo:=iJ.kind
 have GB:(cu N.kind == 7)=decide (N.kind=7):=by
  have:∀k,k<=10->(cu k == 7)=decide (k=7):=by decide
  exact this _ xo
 have Kr:(cu N.kind == 8)=decide (N.kind=8):=by
  have:∀k,k<=10->(cu k == 8)=decide (k=8):=by decide
  exact this _ xo
 have xl:∀rep:Bool,Calls Tryz.prog 148 #[vP,.func (.func 149) #[] #[.pointer (some ⟨w.heap.size+1,0,none⟩),.pointer (some ⟨w.heap.size,0,none⟩)]] ((w.alloc (.cells (em S) 205)).alloc (.cells #[.bool rep] 4)) fun e w'=>e=.returned (.bool (N.subs.any (fun j=>rep&&cE rs ns S ns.length j||rE rs ns S f j)))/\aa (fun _=>False) ((w.alloc (.cells (em S) 205)).alloc (.cells #[.bool rep] 4)) w':=by
  intro rep
  have qZ:aa (fun _=>False) w ((w.alloc (.cells (em S) 205)).alloc (.cells #[.bool rep] 4)):=((aa.refl _ w).alloc _).alloc _
  refine CK base vP P N.subs (fun j=>rep&&cE rs ns S ns.length j||rE rs ns S f j) (w.heap.size+1) w.heap.size _ (aC ke qZ (fun _ _ h=>h)) KX (fun q hq wx vU=>?_)
  have bj:=iJ.low _ (py hq)
  refine qbW IE IH _ _ _ rep wx (by omega) (by omega) (hG.same (qZ.trans vU)) ?_ ?_
  ·rw[vU.block _ (by simp) (fun h=>h)]
   have:=heap_alloc_new (w.alloc (.cells (em S) 205)) (.cells #[.bool rep] 4)
   rw[show (w.alloc (.cells (em S) 205)).heap.size=w.heap.size+1 by simp]at this
   exact this
  ·rw[vU.block _ (by simp;omega) (fun h=>h),Below.heap_alloc _ _ _ (by simp)]
   exact heap_alloc_new _ _
 have qZ:∀rep:Bool,aa (fun _=>False) w ((w.alloc (.cells (em S) 205)).alloc (.cells #[.bool rep] 4)):=fun rep=>((aa.refl _ w).alloc _).alloc _
 obtain⟨pv,cv,xw⟩:=an ke
 subst xw
 unfold em at *
 clear ke hG IH IE ia jo
 by_cases h7:N.kind=7
 ·have q7:(cu N.kind == 7)=true:=by rw[GB];simpa using h7
  rw[show decide (N.kind=7\/N.kind=8)=true by simp[h7]]
  have Kd:=xl true
  have dd:=qZ true
  generalize N.subs.any (fun j=>true&&cE rs ns S ns.length j||rE rs ns S f j)=gv at *
  generalize cu N.kind=kc at *
  clear xl qZ GB Kr h7
  go_enter Tryz.func100,Tryz.ntmps100
  go_wp2_with fail
  refine Kd.mono ?_
  rintro e w7 ⟨rfl,eE⟩
  go_wp2
  go_ret
  exact⟨rfl,dd.trans eE⟩
 ·by_cases h8:N.kind=8
  ·have q7:(cu N.kind == 7)=false:=by rw[GB];simpa using h7
   have q8:(cu N.kind == 8)=true:=by rw[Kr];simpa using h8
   rw[show decide (N.kind=7\/N.kind=8)=true by simp[h8]]
   have Kd:=xl true
   have dd:=qZ true
   generalize N.subs.any (fun j=>true&&cE rs ns S ns.length j||rE rs ns S f j)=gv at *
   generalize cu N.kind=kc at *
   clear xl qZ GB Kr h7 h8
   go_enter Tryz.func100,Tryz.ntmps100
   go_wp2_with fail
   refine Kd.mono ?_
   rintro e w7 ⟨rfl,eE⟩
   go_wp2
   go_ret
   exact⟨rfl,dd.trans eE⟩
  ·have q7:(cu N.kind == 7)=false:=by rw[GB];simpa using h7
   have q8:(cu N.kind == 8)=false:=by rw[Kr];simpa using h8
   rw[show decide (N.kind=7\/N.kind=8)=false by simp[h7,h8]]
   have Kd:=xl false
   have dd:=qZ false
   generalize N.subs.any (fun j=>false&&cE rs ns S ns.length j||rE rs ns S f j)=gv at *
   generalize cu N.kind=kc at *
   clear xl qZ GB Kr h7 h8
   go_enter Tryz.func100,Tryz.ntmps100
   go_wp2_with fail
   refine Kd.mono ?_
   rintro e w7 ⟨rfl,eE⟩
   go_wp2
   go_ret
   exact⟨rfl,dd.trans eE⟩
theorem pZ {base gb:Nat}{rv:Value}{P:List Nat}{ρ:Nat->Int}{rs:List Rl}{ns:List Nd}{S:Nat->Bool}(hW:lK ns rs)(kP:∀i,i<ns.length->(ap ns i).subs.length<=9223372036854775807)(IE:md base gb rv P ρ rs ns S ns.length):∀f,ya base gb rv P ρ rs ns S f
 | 0=>fun i w hf=>absurd hf (by omega)
 | f+1=>zm hW kP IE (pZ hW kP IE f)
end Go.Proofs.YtagklnaaoclmhaaGreatDoor
