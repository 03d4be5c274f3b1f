import Derived.Test.YtagklnaaoclmhaaGreatDoorMnAA
set_option linter.unusedSimpArgs false
set_option linter.unusedVariables false
set_option maxRecDepth 100000
set_option maxHeartbeats 16000000
namespace Go.Proofs.YtagklnaaoclmhaaGreatDoor
open Go.RowKit
theorem gi (c:Int)(w:World):
  Calls Tryz.prog 131 #[.int .u8 c] w fun e w'=>e=.returned (.bool (bL c))/\w'=w:=by
 unfold bL
 by_cases h1:97<=c
 ·by_cases h2:c<=122
  ·go_enter Tryz.func131,Tryz.ntmps131
   go_wp2
   go_ret
   exact⟨by simp[h1,h2],rfl⟩
  ·go_enter Tryz.func131,Tryz.ntmps131
   go_wp2
   go_ret
   exact⟨by simp[h1,h2],rfl⟩
 ·go_enter Tryz.func131,Tryz.ntmps131
  go_wp2
  go_ret
  exact⟨by simp;omega,rfl⟩
def aI (w:World)(b:Nat)(s:ByteArray)(nv rv:Value)(g:Sc):Prop:=
 w.heap[b]?=some (.cells #[nv,rv,.int .i64 g.t,.int .i64 g.bad,.string s,.int .i64 g.at_,.int .i64 g.op] 90)
theorem aI.cells {w:World}{b:Nat}{s:ByteArray}{nv rv:Value}{g:Sc}(h:aI w b s nv rv g):
  w.cell? ⟨b,0,none⟩=some nv/\w.cell? ⟨b,1,none⟩=some rv/\w.cell? ⟨b,2,none⟩=some (.int .i64 g.t)/\w.cell? ⟨b,3,none⟩=some (.int .i64 g.bad)/\
  w.cell? ⟨b,4,none⟩=some (.string s)/\w.cell? ⟨b,5,none⟩=some (.int .i64 g.at_)/\w.cell? ⟨b,6,none⟩=some (.int .i64 g.op):=by
 unfold aI at h
 refine⟨?_,?_,?_,?_,?_,?_,?_⟩ <;> simp[World.cell?,h]
theorem aI.frozen {w:World}{b:Nat}{s:ByteArray}{nv rv:Value}{g:Sc}(h:aI w b s nv rv g)(o:Nat):w.frozen? ⟨b,o,none⟩=false:=by
 unfold aI at h
 simp[World.frozen?,h]
theorem aI.lt {w:World}{b:Nat}{s:ByteArray}{nv rv:Value}{g:Sc}(h:aI w b s nv rv g):b<w.heap.size:=by
 unfold aI at h
 rcases Nat.lt_or_ge b w.heap.size with h1 | h1
 ·exact h1
 ·rw[Array.getElem?_eq_none h1]at h;cases h
theorem aI.drewN {w:World}{b:Nat}{s:ByteArray}{nv rv:Value}{g:Sc}(h:aI w b s nv rv g)(n:Nat):aI (w.drewN n) b s nv rv g:=h
theorem aI.kept {w w':World}{b:Nat}{s:ByteArray}{nv rv:Value}{g:Sc}{S:Nat->Prop}(h:aI w b s nv rv g)(k:aa S w w')(hb:¬S b):aI w' b s nv rv g:=by
 have:=h.lt
 unfold aI at *
 rw[k.block b this hb];exact h
theorem aI.alloc {w:World}{b:Nat}{s:ByteArray}{nv rv:Value}{g:Sc}(h:aI w b s nv rv g)(o:Obj):aI (w.alloc o) b s nv rv g:=by
 have:=h.lt
 unfold aI at *
 rw[Below.heap_alloc _ _ _ this];exact h
theorem aI.setOther {w:World}{b:Nat}{s:ByteArray}{nv rv:Value}{g:Sc}(h:aI w b s nv rv g){p:Addr}(hp:b≠p.block)(u:Value):aI (w.setCell p u) b s nv rv g:=by
 unfold aI at *
 rw[Below.heap_setCell _ _ _ _ hp];exact h
theorem aI.setT {w:World}{b:Nat}{s:ByteArray}{nv rv:Value}{g:Sc}(h:aI w b s nv rv g)(x:Nat):aI (w.setCell ⟨b,2,none⟩ (.int .i64 x)) b s nv rv { g with t:=x }:=by
 unfold aI at *;rw[aj h];simp
theorem aI.setBad {w:World}{b:Nat}{s:ByteArray}{nv rv:Value}{g:Sc}(h:aI w b s nv rv g)(x:Int):aI (w.setCell ⟨b,3,none⟩ (.int .i64 x)) b s nv rv { g with bad:=x }:=by
 unfold aI at *;rw[aj h];simp
theorem aI.setAt {w:World}{b:Nat}{s:ByteArray}{nv rv:Value}{g:Sc}(h:aI w b s nv rv g)(x:Nat):aI (w.setCell ⟨b,5,none⟩ (.int .i64 x)) b s nv rv { g with at_:=x }:=by
 unfold aI at *;rw[aj h];simp
theorem aI.setOp {w:World}{b:Nat}{s:ByteArray}{nv rv:Value}{g:Sc}(h:aI w b s nv rv g)(x:Nat):aI (w.setCell ⟨b,6,none⟩ (.int .i64 x)) b s nv rv { g with op:=x }:=by
 unfold aI at *;rw[aj h];simp
theorem aI.setNodes {w:World}{b:Nat}{s:ByteArray}{nv rv:Value}{g:Sc}(h:aI w b s nv rv g)(x:Value):aI (w.setCell ⟨b,0,none⟩ x) b s x rv g:=by
 unfold aI at *;rw[aj h];simp
theorem aI.setRules {w:World}{b:Nat}{s:ByteArray}{nv rv:Value}{g:Sc}(h:aI w b s nv rv g)(x:Value):aI (w.setCell ⟨b,1,none⟩ x) b s nv x g:=by
 unfold aI at *;rw[aj h];simp
theorem pR (b:Nat)(s:ByteArray)(nv rv:Value)(g:Sc)(w:World)(hG:aI w b s nv rv g)(hs:s.size<=400):
  Calls Tryz.prog 161 #[.pointer (some ⟨b,0,none⟩)] w fun e w'=>e=.returned (.bool (cV s g))/\∃n,w'=w.drewN n:=by
 obtain⟨c0,c1,c2,c3,c4,c5,c6⟩:=hG.cells
 unfold cV at *
 obtain⟨t,bad,at_,op⟩:=g
 simp only at *
 by_cases h1:bad<0
 ·have hd:decide (bad<0)=true:=by simpa using h1
  clear hG
  go_enter Tryz.func161,Tryz.ntmps161
  go_wp2
  go_quiet (fail)
  go_wp2
  go_ret
  exact⟨by simp[h1],_,rfl⟩
 ·have hd:decide (bad<0)=false:=by simpa using h1
  clear hG
  go_enter Tryz.func161,Tryz.ntmps161
  go_wp2
  go_quiet (fail)
  go_wp2
  go_ret
  exact⟨by simp;omega,_,rfl⟩
theorem dz (b:Nat)(s:ByteArray)(nv rv:Value)(g:Sc)(w:World)(hG:aI w b s nv rv g)(hs:s.size<=400):
  Calls Tryz.prog 130 #[.pointer (some ⟨b,0,none⟩)] w fun e w'=>e=.returned (.int .u8 (pk s g:Int))/\∃n,w'=w.drewN n:=by
 obtain⟨c0,c1,c2,c3,c4,c5,c6⟩:=hG.cells
 obtain⟨t,bad,at_,op⟩:=g
 simp only at *
 clear hG
 by_cases h1:bad<0
 ·have Sj:decide (0<=bad)=false:=by simp;omega
  by_cases h2:at_<s.size
  ·go_enter Tryz.func130,Tryz.ntmps130
   go_wp2
   go_quiet (fail)
   go_wp2
   go_quiet (fail)
   go_wp2
   go_ret
   exact⟨DJ (by simp[pk,h1,h2,cZ]),_,World.drewN_drewN ..⟩
  ·go_enter Tryz.func130,Tryz.ntmps130
   go_wp2
   go_quiet (fail)
   go_wp2
   go_ret
   exact⟨DJ (by simp[pk,h1,h2]),_,rfl⟩
 ·have Sj:decide (0<=bad)=true:=by simp;omega
  go_enter Tryz.func130,Tryz.ntmps130
  go_wp2
  go_quiet (fail)
  go_wp2
  go_ret
  exact⟨DJ (by rw[pk,if_neg (by simp;omega)];rfl),_,rfl⟩
end Go.Proofs.YtagklnaaoclmhaaGreatDoor
namespace Go.Proofs.YtagklnaaoclmhaaGreatDoor
open Go.RowKit
theorem da (b:Nat)(s:ByteArray)(nv rv:Value)(g:Sc)(w:World)(hG:aI w b s nv rv g):
  Calls Tryz.prog 82 #[.pointer (some ⟨b,0,none⟩)] w fun e w'=>e=.returned (.tuple #[])/\aI w' b s nv rv (wr g)/\aa (·=b) w w':=by
 obtain⟨c0,c1,c2,c3,c4,c5,c6⟩:=hG.cells
 have hf:=hG.frozen 3
 by_cases h1:g.bad<0
 ·go_enter Tryz.func82,Tryz.ntmps82
  go_wp2
  go_end0
  exact⟨rfl,by rw[wr,if_pos h1];exact hG.setBad _,(aa.refl (·=b) _).setCell (fun _=>rfl) _⟩
 ·go_enter Tryz.func82,Tryz.ntmps82
  go_wp2
  go_end0
  exact⟨rfl,by rw[wr,if_neg (by omega)];exact hG,aa.refl _ _⟩
def VT (b:Nat)(w:World)(r:Bool):Prop:=∀n,Calls Tryz.prog 161 #[.pointer (some ⟨b,0,none⟩)] (w.drewN n) fun e w'=>e=.returned (.bool r)/\∃m,w'=(w.drewN n).drewN m
theorem Fg {b:Nat}{s:ByteArray}{nv rv:Value}{g:Sc}{w:World}(hG:aI w b s nv rv g)(hs:s.size<=400){r:Bool}(h:cV s g=r):VT b w r:=by
 subst h
 exact fun n=>pR b s nv rv _ _ (hG.drewN n) hs
theorem dC (b:Nat)(s:ByteArray)(nv rv:Value)(g:Sc)(w:World)(hG:aI w b s nv rv g)(hs:s.size<=400):
  Calls Tryz.prog 129 #[.pointer (some ⟨b,0,none⟩)] w fun e w'=>e=.returned (.tuple #[])/\aI w' b s nv rv (bl s g)/\aa (·=b) w w':=by
 go_enter Tryz.func129,Tryz.ntmps129
 go_wp2
 go_loopg [] (s.size-g.at_) (fun n wr=>∃k:Nat,n=s.size-k/\aI wr b s nv rv { g with at_:=k }/\aa (·=b) w wr/\(g.bad<0->dh s (s.size-k) k=dh s (s.size-g.at_) g.at_)/\(0<=g.bad->k=g.at_))
 case atStart=>exact⟨_,rfl,hG,aa.refl _ _,fun _=>rfl,fun _=>rfl⟩
 case round=>
  obtain⟨k,hn,hR,hK,hF,hB⟩:=hrel
  have HF:Hid (g.bad<0->dh s (s.size-k) k=dh s (s.size-g.at_) g.at_):=hF
  have HB:Hid (0<=g.bad->k=g.at_):=hB
  have HN:Hid (gk=s.size-k):=hn
  clear hF hB hn
  obtain⟨c0,c1,c2,c3,c4,c5,c6⟩:=hR.cells
  have hf:=hR.frozen 5
  simp only at *
  by_cases hm:g.bad<0/\k<s.size
  ·have HM:=Fg hR hs (r:=true) (by simp[cV,hm])
   by_cases hc:am s k=32
   ·obtain⟨AN,Db⟩:=hm
    rw[cZ Db]at hc
    have si:((s[k].toNat:Int) == 32)=true:=by simp;omega
    go_wp2_with fail
    go_quiet ((go_at_call 161;exact Calls.quiet_of (HM _)))
    go_wp2
    go_roundg (s.size-(k+1))
    case measure=>rw[HN.out];omega
    case rel=>exact⟨k+1,rfl,(hR.drewN _).setAt _,(hK.drewN _).setCell (fun _=>rfl) _,fun h=>by rw[<-HF.out h,show s.size-k=(s.size-(k+1))+1 by omega,dh,if_pos ⟨Db,by rw[cZ Db];exact hc⟩],fun h=>absurd AN (by omega)⟩
   ·obtain⟨AN,Db⟩:=hm
    rw[cZ Db]at hc
    have si:((s[k].toNat:Int) == 32)=false:=by simp;omega
    go_wp2_with fail
    go_quiet ((go_at_call 161;exact Calls.quiet_of (HM _)))
    go_wp2
    go_end0
    exact⟨rfl,by rw[wT HF.out HB.out (fun _ h=>hc (by rw[<-cZ Db];exact h.2))];exact hR.drewN _,hK.drewN _⟩
  ·have HM:=Fg hR hs (r:=false) (by simp[cV];omega)
   go_wp2_with fail
   go_quiet ((go_at_call 161;exact Calls.quiet_of (HM _)))
   go_wp2
   go_end0
   exact⟨rfl,by rw[wT HF.out HB.out (fun h1 h=>hm ⟨h1,h.1⟩)];exact hR.drewN _,hK.drewN _⟩
theorem jz (b:Nat)(s:ByteArray)(nv rv:Value)(g:Sc)(c:Nat)(w:World)(hG:aI w b s nv rv g)(hs:s.size<=400):
  Calls Tryz.prog 132 #[.pointer (some ⟨b,0,none⟩),.int .u8 (c:Int)] w fun e w'=>e=.returned (.bool (il s g c))/\aI w' b s nv rv (sg s g c)/\aa (·=b) w w':=by
 go_enter Tryz.func132,Tryz.ntmps132
 go_wp2_with fail
 refine(dC b s nv rv g _ hG hs).mono ?_
 rintro e w1 ⟨rfl,hR,hK⟩
 have Hr:Hid (∀r,(cV s (bl s g)&&am s (bl s g).at_ == c)=r->il s g c=r/\sg s g c=if r then bM (bl s g) else bl s g):=by
  intro r h;subst h;exact⟨rfl,rfl⟩
 generalize bl s g=g1 at *
 obtain⟨c0,c1,c2,c3,c4,c5,c6⟩:=hR.cells
 have hf:=hR.frozen 5
 by_cases hm:g1.bad<0/\g1.at_<s.size
 ·obtain⟨AN,Db⟩:=hm
  have HM:=Fg hR hs (r:=true) (by simp[cV,AN,Db])
  by_cases hc:am s g1.at_=c
  ·have HH:=ae (Hr.out true (by simp[cV,AN,Db,hc]))
   rw[cZ Db]at hc
   have si:((s[g1.at_].toNat:Int) == (c:Int))=true:=by simp;omega
   clear hc Hr
   go_wp2_with fail
   go_quiet ((go_at_call 161;exact Calls.quiet_of (HM _)))
   go_wp2
   go_ret
   exact⟨by rw[HH.out.1];rfl,by rw[HH.out.2];exact(hR.drewN _).setAt _,(hK.drewN _).setCell (fun _=>rfl) _⟩
  ·have HH:=ae (Hr.out false (by simp[hc]))
   rw[cZ Db]at hc
   have si:((s[g1.at_].toNat:Int) == (c:Int))=false:=by simp;omega
   clear hc Hr
   go_wp2_with fail
   go_quiet ((go_at_call 161;exact Calls.quiet_of (HM _)))
   go_wp2
   go_ret
   exact⟨by rw[HH.out.1];rfl,by rw[HH.out.2];exact hR.drewN _,hK.drewN _⟩
 ·have HM:=Fg hR hs (r:=false) (by simp[cV];omega)
  have HH:=ae (Hr.out false (by simp[cV];omega))
  clear Hr
  go_wp2_with fail
  go_quiet ((go_at_call 161;exact Calls.quiet_of (HM _)))
  go_wp2
  go_ret
  exact⟨by rw[HH.out.1];rfl,by rw[HH.out.2];exact hR.drewN _,hK.drewN _⟩
theorem mP (b:Nat)(s:ByteArray)(nv rv:Value)(g:Sc)(c:Nat)(w:World)(hG:aI w b s nv rv g)(hs:s.size<=400):
  Calls Tryz.prog 84 #[.pointer (some ⟨b,0,none⟩),.int .u8 (c:Int)] w fun e w'=>e=.returned (.tuple #[])/\aI w' b s nv rv (mu s g c)/\aa (·=b) w w':=by
 go_enter Tryz.func84,Tryz.ntmps84
 go_wp2_with fail
 refine(jz b s nv rv g c _ hG hs).mono ?_
 rintro e w1 ⟨rfl,hR,hK⟩
 cases hb:il s g c
 ·have HM:Hid (mu s g c=wr (sg s g c)):=by unfold Hid mu;rw[hb];rfl
  generalize sg s g c=g1 at *
  go_wp2_with fail
  refine(da b s nv rv g1 _ hR).mono ?_
  rintro e w2 ⟨rfl,dP,dl⟩
  go_wp2
  go_end0
  exact⟨rfl,by rw[HM.out];exact dP,hK.trans dl⟩
 ·have HM:Hid (mu s g c=sg s g c):=by unfold Hid mu;rw[hb];rfl
  go_wp2
  go_end0
  exact⟨rfl,by rw[HM.out];exact hR,hK⟩
theorem ly (b:Nat)(s:ByteArray)(nv rv:Value)(g:Sc)(w:World)(hG:aI w b s nv rv g)(ht:g.t<=10000)(dA:g.at_<=10000):
  Calls Tryz.prog 187 #[.pointer (some ⟨b,0,none⟩)] w fun e w'=>e=.returned (.int .i64 (g.t:Int))/\aI w' b s nv rv (tm g)/\aa (·=b) w w':=by
 obtain⟨c0,c1,c2,c3,c4,c5,c6⟩:=hG.cells
 have Gy:=hG.frozen 2
 have xm:=hG.frozen 5
 by_cases h4:g.t=40
 ·have qs:((g.t:Int) == 40)=true:=by simp;omega
  have HT:Hid (tm g=bM { wr g with t:=g.t+1 }):=by unfold Hid tm;rw[if_pos h4]
  have HW:Hid ((wr g).t=g.t/\(wr g).at_=g.at_):=by unfold Hid wr;split <;> exact⟨rfl,rfl⟩
  clear h4
  go_enter Tryz.func187,Tryz.ntmps187
  go_wp2_with fail
  refine(da b s nv rv g _ hG).mono ?_
  rintro e w2 ⟨rfl,dP,dl⟩
  generalize wr g=g2 at *
  obtain⟨t2,qcl,gY,op2⟩:=g2
  obtain⟨e1,e2⟩:=HW.out
  simp only at e1 e2
  subst e1 e2
  obtain⟨d0,d1,d2,d3,d4,d5,d6⟩:=dP.cells
  have Gy:=dP.frozen 2
  have xm:=dP.frozen 5
  go_wp2
  go_ret
  exact⟨by simp,by rw[HT.out];exact(dP.setT (g.t+1)).setAt (g.at_+1),(dl.setCell (fun _=>rfl) _).setCell (fun _=>rfl) _⟩
 ·have qs:((g.t:Int) == 40)=false:=by simp;omega
  have HT:Hid (tm g=bM { g with t:=g.t+1 }):=by unfold Hid tm;rw[if_neg h4]
  clear h4
  go_enter Tryz.func187,Tryz.ntmps187
  go_wp2
  go_ret
  exact⟨by simp,by rw[HT.out];exact(hG.setT (g.t+1)).setAt (g.at_+1),((aa.refl (·=b) _).setCell (fun _=>rfl) _).setCell (fun _=>rfl) _⟩
end Go.Proofs.YtagklnaaoclmhaaGreatDoor
namespace Go.Proofs.YtagklnaaoclmhaaGreatDoor
open Go.RowKit
theorem n8 (W:World)(k:Nat)(n:Nat)(hn:n<256)(h:ai W k=some (.cells #[.int .u8 (n:Int)] 5)):
  (convert 110 9 (.slice (some ⟨k,0,none⟩) 1 1)).run Tryz.prog W=.ok (.string (ba [n.toUInt8])) W:=by
 rw[run_convert_bytes_string W 110 9 5 _ 1 1 Tryz.underlying110 Tryz.underlying5 Tryz.underlying9]
 have hl:(loadCells ⟨k,0,none⟩ 1).run Tryz.prog W=.ok ([(n:Int)].map (Value.int .u8)).toArray W:=by
  refine run_loadCells_list (P:=Tryz.prog) W ⟨k,0,none⟩ [.int .u8 (n:Int)] (fun j v hv=>?_)
  rw[Addr.add_mid,Nat.zero_add,cell_of_row W k j _ 5 (0,0) h]
  simpa using hv
 rw[run_bytesToString W ⟨k,0,none⟩ 1 1 [(n:Int)] hl]
 simp[ba]
 rfl
theorem vo (b:Nat)(s:ByteArray)(nv rv:Value)(g:Sc)(w:World)(hG:aI w b s nv rv g)(hs:s.size<=400)(dA:g.at_<=10000):
  Calls Tryz.prog 83 #[.pointer (some ⟨b,0,none⟩)] w fun e w'=>e=.returned (.string (ba (bz s g).1))/\aI w' b s nv rv (bz s g).2/\aa (·=b) w w':=by
 have HW:Hid (bz s g=wd s 10 [] (bl s g)):=rfl
 generalize bz s g=r at *
 go_enter Tryz.func83,Tryz.ntmps83
 go_wp2_with fail
 refine(dC b s nv rv g _ hG hs).mono ?_
 rintro e w1 ⟨rfl,hR,hK⟩
 have Gu:(bl s g).at_<=10400:=by have:=zZ s g;omega
 generalize bl s g=g1 at *
 go_wp2
 go_loopg [3] 8 (fun n v wr=>∃acc g2,v=.string (ba acc)/\acc.length+n=8/\g2.at_<=10400+acc.length/\aI wr b s nv rv g2/\aa (·=b) w wr/\Hid (wd s (n+2) acc g2=r))
 case atStart=>exact⟨[],g1,rfl,rfl,by simpa using Gu,hR,hK,HW.out.symm⟩
 case round=>
  obtain⟨acc,g2,rfl,hn,qaz,dP,dl,HR⟩:=hrel
  have oW:=YG s g2
  have gh:(ba acc).size=acc.length:=by simp[ba,ByteArray.size]
  have F0:=HR.out
  rw[wd]at F0
  go_wp2_with fail
  refine(dz b s nv rv g2 _ dP hs).mono ?_
  rintro e w3 ⟨rfl,n3,rfl⟩
  go_wp2_with fail
  refine(gi _ _).mono ?_
  rintro e w4 ⟨rfl,rfl⟩
  cases hb:bL (pk s g2:Int)
  ·rw[hb]at F0
   simp only[Bool.false_eq_true,if_false]at F0
   have HF:=ae F0
   clear F0 HR
   by_cases ha:acc=[]
   ·subst ha
    have hE:(ba []).toList.isEmpty=true:=by simp[ba]
    go_wp2_with fail
    refine(da b s nv rv g2 _ (dP.drewN _)).mono ?_
    rintro e w5 ⟨rfl,fJ,gR⟩
    go_wp2
    go_ret
    exact⟨by rw[<-HF.out];rfl,by rw[<-HF.out];exact fJ,(dl.drewN _).trans gR⟩
   ·have hE:(ba acc).toList.isEmpty=false:=by rw[dS];simp[ha]
    go_wp2
    go_ret
    exact⟨by rw[<-HF.out];rfl,by rw[<-HF.out];simp only[ha,if_false];exact dP.drewN _,dl.drewN _⟩
  ·rw[hb]at F0
   simp only[if_true]at F0
   by_cases h8:acc.length=8
   ·rw[if_pos h8]at F0
    have HF:=ae F0
    clear F0 HR
    have h8':(((ba acc).size:Int) == 8)=true:=by simp;omega
    go_wp2_with fail
    refine(da b s nv rv g2 _ (dP.drewN _)).mono ?_
    rintro e w5 ⟨rfl,fJ,gR⟩
    go_wp2
    go_ret
    exact⟨by rw[<-HF.out];rfl,by rw[<-HF.out];exact fJ,(dl.drewN _).trans gR⟩
   ·rw[if_neg h8]at F0
    have HF:=ae F0
    clear F0 HR
    have h8':(((ba acc).size:Int) == 8)=false:=by simp;omega
    obtain⟨c0,c1,c2,c3,c4,c5,c6⟩:=dP.cells
    have hf:=dP.frozen 5
    have hcv:=n8 ((wr.drewN n3).alloc (.cells #[.int .u8 (pk s g2:Int)] 5)) wr.heap.size (pk s g2) oW (au (wr.drewN n3) _)
    have ri:∀o,((wr.drewN n3).alloc (.cells #[.int .u8 (pk s g2:Int)] 5)).cell? ⟨b,o,none⟩=wr.cell? ⟨b,o,none⟩:=fun o=>World.cell?_alloc_lt _ _ _ dP.lt
    have mz:∀o,((wr.drewN n3).alloc (.cells #[.int .u8 (pk s g2:Int)] 5)).frozen? ⟨b,o,none⟩=wr.frozen? ⟨b,o,none⟩:=fun o=>World.frozen?_alloc_past _ _ _ dP.lt
    have sV:(ba [UInt8.ofNat (pk s g2)]).size=1:=rfl
    have eI:acc.length<=8:=by omega
    have HN:Hid (acc.length+gk=8/\acc.length≠8):=⟨hn,h8⟩
    clear hn h8
    go_wp2
    go_roundg (gk-1)
    case measure=>have:=HN.out;omega
    case rel=>
     have:=HN.out
     refine⟨acc++[(pk s g2).toUInt8],bM g2,by rw[wS],by simp;omega,by simp[bM];omega,((dP.drewN n3).alloc _).setAt _,((dl.drewN n3).alloc _).setCell (fun _=>rfl) _,?_⟩
     rw[show gk-1+2=gk+1 by omega];exact HF.out
end Go.Proofs.YtagklnaaoclmhaaGreatDoor
namespace Go.Proofs.YtagklnaaoclmhaaGreatDoor
open Go.RowKit
theorem Dt (s:ByteArray)(c:Nat)(w:World)(hs:s.size<=1000):
  Calls Tryz.prog 198 #[.string s,.int .u8 (c:Int)] w fun e w'=>e=.returned (.bool (sX s.data.toList c))/\w'=w:=by
 go_enter Tryz.func198,Tryz.ntmps198
 go_wp2
 go_loop [5] (fun i=>∃k:Nat,k<=s.size/\i=.int .i64 k/\Hid ((s.data.toList.take k).any (fun b=>b.toNat == c)=false)) (fun i=>s.size-(intOf i).toNat)
 case atStart=>exact⟨0,Nat.zero_le _,rfl,by simp[Hid]⟩
 case round=>
  obtain⟨k,hk,rfl,HA⟩:=hrel
  by_cases bj:k<s.size
  ·have Ow:k<s.data.toList.length:=by simpa using bj
   have Do:=vN Ow (fun b=>b.toNat == c)
   rw[HA.out]at Do
   have nQ:s.data.toList[k]=s[k]:=by simp;rfl
   rw[nQ]at Do
   by_cases hc:s[k].toNat=c
   ·have si:((s[k].toNat:Int) == (c:Int))=true:=by simp;omega
    have HR:Hid (sX s.data.toList c=true):=by
     unfold Hid sX
     rw[List.any_eq_true]
     exact⟨s[k],by rw[<-nQ];exact List.getElem_mem _,by simp[hc]⟩
    clear hc Do HA
    go_wp2
    go_ret
    exact⟨by rw[HR.out];rfl,rfl⟩
   ·have si:((s[k].toNat:Int) == (c:Int))=false:=by simp;omega
    have HR:Hid ((s.data.toList.take (k+1)).any (fun b=>b.toNat == c)=false):=by
     unfold Hid;rw[Do];simp[hc]
    clear hc Do HA
    go_wp2
    go_round
    case rel=>exact⟨k+1,by omega,by go_num,HR⟩
    case measure=>simp[intOf];omega
  ·have HR:Hid (sX s.data.toList c=false):=by
    unfold Hid sX
    rw[<-HA.out,List.take_of_length_le (by simp;omega)]
   clear HA
   go_wp2
   go_ret
   exact⟨by rw[HR.out];rfl,rfl⟩
theorem rB (b:Nat)(s bs:ByteArray)(nv rv:Value)(g:Sc)(least:Nat)(w:World)(hG:aI w b s nv rv g)(hs:s.size<=400)(Ob:bs.size<=1000)(hl:least<256)(dA:g.at_<=10000):
  Calls Tryz.prog 188 #[.pointer (some ⟨b,0,none⟩),.string bs,.int .i64 (least:Int)] w fun e w'=>e=.returned (.int .i64 ((ay s g bs.data.toList least).1:Int))/\aI w' b s nv rv (ay s g bs.data.toList least).2/\aa (·=b) w w':=by
 have HI:Hid (ay s g bs.data.toList least=ay s g bs.data.toList least):=rfl
 generalize h0:ay s g bs.data.toList least=r at *
 clear HI
 unfold ay at h0
 have H0:=ae h0
 clear h0
 go_enter Tryz.func188,Tryz.ntmps188
 go_wp2_with fail
 refine(pR b s nv rv g _ hG hs).mono ?_
 rintro e w1 ⟨rfl,n1,rfl⟩
 by_cases hm:g.bad<0/\g.at_<s.size
 ·obtain⟨Kv,AN⟩:=hm
  have jt:cV s g=true:=by simp[cV,Kv,AN]
  rw[jt]
  have h1:=H0.out
  rw[jt]at h1
  simp only[Bool.true_eq_false,if_false]at h1
  obtain⟨c0,c1,c2,c3,c4,c5,c6⟩:=hG.cells
  have hf:=hG.frozen 5
  have iB:=iY s g.at_
  have nQ:=cZ AN
  by_cases h92:am s g.at_=92
  ·rw[if_neg (by simpa using h92)]at h1
   have qak:((s[g.at_].toNat:Int) != 92)=false:=by rw[<-nQ];simp;omega
   clear nQ iB h92 H0
   by_cases h93:93<least
   ·rw[if_pos h93]at h1
    subst h1
    go_wp2_with fail
    go_quiet (fail)
    go_wp2_with fail
    refine(da b s nv rv g _ (hG.drewN _)).mono ?_
    rintro e w2 ⟨rfl,dP,dl⟩
    go_wp2
    go_ret
    exact⟨rfl,dP,((aa.refl _ _).drewN _).trans dl⟩
   ·rw[if_neg h93]at h1
    have H1:=ae h1
    clear h1
    go_wp2_with fail
    go_quiet (fail)
    go_wp2_with fail
    have iA:aI ((w.drewN (n1+nq)).setCell ⟨b,5,none⟩ (.int .i64 ((g.at_:Int)+1))) b s nv rv (bM g):=(hG.drewN _).setAt _
    have dd:aa (·=b) w ((w.drewN (n1+nq)).setCell ⟨b,5,none⟩ (.int .i64 ((g.at_:Int)+1))):=((aa.refl (·=b) w).drewN _).setCell (fun _=>rfl) _
    generalize gQ:((w.drewN (n1+nq)).setCell ⟨b,5,none⟩ (.int .i64 ((g.at_:Int)+1)))=w2 at *
    clear gQ c0 c1 c2 c3 c4 c5 c6 hf jt
    have Gu:(bM g).at_<=10001:=by simp[bM];omega
    generalize bM g=g1 at *
    obtain⟨c0,c1,c2,c3,c4,c5,c6⟩:=iA.cells
    have hf:=iA.frozen 5
    have h2:=H1.out
    unfold ey at h2
    clear H1
    refine(pR b s nv rv g1 _ iA hs).mono ?_
    rintro e w3 ⟨rfl,n3,rfl⟩
    by_cases hm:g1.bad<0/\g1.at_<s.size
    ·obtain⟨Db,hm4⟩:=hm
     have jt:cV s g1=true:=by simp[cV,Db,hm4]
     rw[jt]at h2 ⊢
     simp only[Bool.true_eq_false,if_false]at h2
     have H2:=ae h2
     clear h2
     have iB:=iY s g1.at_
     have Rt:=ae (cZ hm4)
     go_wp2_with fail
     go_quiet (fail)
     rw[<-Rt.out]
     by_cases h110:am s g1.at_=110
     ·have Wz:((am s g1.at_:Int) == 110)=true:=by simp;omega
      have H3:=ae H2.out
      clear H2
      have Q8:=ae h110
      clear h110
      go_wp2_with fail
      refine(Dt ⟨#[110,39,92,93,45]⟩ (am s g1.at_) _ (by decide)).mono ?_
      rintro e w4 ⟨rfl,rfl⟩
      cases fm:sX Wm (am s g1.at_)
      ·have oJ:sX (ByteArray.mk #[110,39,92,93,45]).data.toList (am s g1.at_)=false:=fm
       rw[oJ]
       have h4:=H3.out
       rw[fm]at h4
       simp only[if_true]at h4
       subst h4
       clear H3 fm oJ
       go_wp2_with fail
       refine(da b s nv rv g1 _ (iA.drewN _)).mono ?_
       rintro e w5 ⟨rfl,fJ,gR⟩
       go_wp2
       go_ret
       exact⟨rfl,fJ,(dd.drewN _).trans gR⟩
      ·have oJ:sX (ByteArray.mk #[110,39,92,93,45]).data.toList (am s g1.at_)=true:=fm
       rw[oJ]
       have h4:=H3.out
       rw[fm]at h4
       simp only[Bool.true_eq_false,if_false,Q8.out,if_true]at h4
       by_cases nj:10<least
       ·rw[if_pos nj]at h4
        subst h4
        clear H3 fm oJ
        go_wp2_with fail
        refine(da b s nv rv g1 _ (iA.drewN _)).mono ?_
        rintro e w5 ⟨rfl,fJ,gR⟩
        go_wp2
        go_ret
        exact⟨rfl,fJ,(dd.drewN _).trans gR⟩
       ·rw[if_neg nj]at h4
        subst h4
        clear H3 fm oJ
        go_wp2
        go_ret
        exact⟨rfl,(iA.drewN _).setAt _,(dd.drewN _).setCell (fun _=>rfl) _⟩
     ·have Wz:((am s g1.at_:Int) == 110)=false:=by simp;omega
      have H3:=ae H2.out
      clear H2
      have Q8:=ae h110
      clear h110
      go_wp2_with fail
      refine(Dt ⟨#[110,39,92,93,45]⟩ (am s g1.at_) _ (by decide)).mono ?_
      rintro e w4 ⟨rfl,rfl⟩
      cases fm:sX Wm (am s g1.at_)
      ·have oJ:sX (ByteArray.mk #[110,39,92,93,45]).data.toList (am s g1.at_)=false:=fm
       rw[oJ]
       have h4:=H3.out
       rw[fm]at h4
       simp only[if_true]at h4
       subst h4
       clear H3 fm oJ
       go_wp2_with fail
       refine(da b s nv rv g1 _ (iA.drewN _)).mono ?_
       rintro e w5 ⟨rfl,fJ,gR⟩
       go_wp2
       go_ret
       exact⟨rfl,fJ,(dd.drewN _).trans gR⟩
      ·have oJ:sX (ByteArray.mk #[110,39,92,93,45]).data.toList (am s g1.at_)=true:=fm
       rw[oJ]
       have h4:=H3.out
       rw[fm]at h4
       simp only[Bool.true_eq_false,if_false,Q8.out]at h4
       by_cases nj:am s g1.at_<least
       ·rw[if_pos nj]at h4
        subst h4
        clear H3 fm oJ
        go_wp2_with fail
        refine(da b s nv rv g1 _ (iA.drewN _)).mono ?_
        rintro e w5 ⟨rfl,fJ,gR⟩
        go_wp2
        go_ret
        exact⟨rfl,fJ,(dd.drewN _).trans gR⟩
       ·rw[if_neg nj]at h4
        subst h4
        clear H3 fm oJ
        go_wp2
        go_ret
        exact⟨rfl,(iA.drewN _).setAt _,(dd.drewN _).setCell (fun _=>rfl) _⟩
    ·have jt:cV s g1=false:=by simp[cV];omega
     rw[jt]at h2 ⊢
     simp only[if_true]at h2
     subst h2
     go_wp2_with fail
     refine(da b s nv rv g1 _ (iA.drewN _)).mono ?_
     rintro e w2 ⟨rfl,dP,dl⟩
     go_wp2
     go_ret
     exact⟨rfl,dP,(dd.drewN _).trans dl⟩
  ·rw[if_pos h92]at h1
   have qak:((s[g.at_].toNat:Int) != 92)=true:=by rw[<-nQ];simp;omega
   have Rt:=ae nQ
   have H1:=ae h1
   clear nQ h1 H0
   go_wp2_with fail
   go_quiet (fail)
   go_wp2_with fail
   rw[<-Rt.out]
   refine(Dt bs _ _ Ob).mono ?_
   rintro e w2 ⟨rfl,rfl⟩
   cases fm:sX bs.data.toList (am s g.at_)
   ·have h2:=H1.out
    rw[fm]at h2
    simp only[Bool.false_eq_true,if_false]at h2
    by_cases nj:am s g.at_<least
    ·rw[if_pos nj]at h2
     subst h2
     clear H1 fm h92
     go_wp2_with fail
     refine(da b s nv rv g _ (hG.drewN _)).mono ?_
     rintro e w2 ⟨rfl,dP,dl⟩
     go_wp2
     go_ret
     exact⟨rfl,dP,((aa.refl _ _).drewN _).trans dl⟩
    ·rw[if_neg nj]at h2
     subst h2
     clear H1 fm h92
     go_wp2
     go_ret
     exact⟨rfl,(hG.drewN _).setAt _,((aa.refl (·=b) _).drewN _).setCell (fun _=>rfl) _⟩
   ·have h2:=H1.out
    rw[fm]at h2
    simp only[if_true]at h2
    subst h2
    clear H1 fm h92
    go_wp2_with fail
    refine(da b s nv rv g _ (hG.drewN _)).mono ?_
    rintro e w2 ⟨rfl,dP,dl⟩
    go_wp2
    go_ret
    exact⟨rfl,dP,((aa.refl _ _).drewN _).trans dl⟩
 ·have jt:cV s g=false:=by simp[cV];omega
  rw[jt]
  have h1:=H0.out
  rw[jt]at h1
  simp only[if_true]at h1
  subst h1
  clear H0
  go_wp2_with fail
  refine(da b s nv rv g _ (hG.drewN _)).mono ?_
  rintro e w2 ⟨rfl,dP,dl⟩
  go_wp2
  go_ret
  exact⟨rfl,dP,((aa.refl _ _).drewN _).trans dl⟩
end Go.Proofs.YtagklnaaoclmhaaGreatDoor
namespace Go.Proofs.YtagklnaaoclmhaaGreatDoor
end Go.Proofs.YtagklnaaoclmhaaGreatDoor
namespace Go.Proofs.YtagklnaaoclmhaaGreatDoor
open Go.RowKit
theorem uE (b:Nat)(s bs:ByteArray)(nv rv:Value)(g:Sc)(w:World)(hG:aI w b s nv rv g)(hs:s.size<=400)(Ob:bs.size<=1000)(dA:g.at_<=10000):
  Calls Tryz.prog 188 #[.pointer (some ⟨b,0,none⟩),.string bs,.int .i64 0] w fun e w'=>e=.returned (.int .i64 ((ay s g bs.data.toList 0).1:Int))/\aI w' b s nv rv (ay s g bs.data.toList 0).2/\aa (·=b) w w':=
 rB b s bs nv rv g 0 w hG hs Ob (by omega) dA
theorem Pp (b kb:Nat)(s:ByteArray)(nv rv:Value)(g:Sc)(c:Array Value)(w:World)(hG:aI w b s nv rv g)(hO:ai w kb=some (.cells c 179 (0,0)))(hc:c.size=262)(hs:s.size<=400)(hI:Iv s g):
  Calls Tryz.prog 189 #[.pointer (some ⟨b,0,none⟩),.pointer (some ⟨kb,0,none⟩)] w fun e w'=>e=.returned (.tuple #[])/\aI w' b s nv rv (set s g).2/\ai w' kb=some (.cells (dW c (set s g).1) 179 (0,0))/\aa (fun k=>k=b\/k=kb) w w':=by
 have qx:b≠kb:=by
  rintro rfl
  have h1:ai w b=_:=hG
  rw[hO]at h1
  simp at h1
 have HS:Hid (([]:List (Nat × Nat))++(ef s (s.size+1+1) true g).1=(set s g).1/\bM (ef s (s.size+1+1) true g).2=(set s g).2):=⟨rfl,rfl⟩
 generalize set s g=R at *
 obtain⟨R1,R2⟩:=R
 go_enter Tryz.func189,Tryz.ntmps189
 go_wp2
 go_loopg [4] (s.size+1) (fun n v wx=>∃sd g2 acc,v=.bool sd/\rk s g2<=n/\Iv s g2/\aI wx b s nv rv g2/\ai wx kb=some (.cells (dW c acc) 179 (0,0))/\aa (fun k=>k=b\/k=kb) w wx/\
  Hid (acc++(ef s (n+1) sd g2).1=R1/\bM (ef s (n+1) sd g2).2=R2))
 case atStart=>exact⟨true,g,[],rfl,fW _ _,hI,hG,hO,aa.refl _ _,HS⟩
 case round=>
  obtain⟨sd,g2,acc,rfl,nS,WF,kd,mx,dl,HR⟩:=hrel
  obtain⟨c0,c1,c2,c3,c4,c5,c6⟩:=kd.cells
  have hf:=kd.frozen 5
  have qaz:=WF.2
  by_cases hb:g2.bad<0
  ·by_cases hcond:sd=true\/pk s g2≠93
   ·have h1:=HR.out
    rw[ef,if_pos ⟨hb,hcond⟩]at h1
    have H1:=ae h1
    clear h1 HR
    obtain⟨m,hm⟩:∃m,m=gk:=⟨gk,rfl⟩
    subst hm
    have HM:Hid (rk s (fE s g2).2<rk s g2/\rk s g2<=m):=⟨kC WF hb (fun h=>((jy WF).2.2.2.2.2.2 h).2),nS⟩
    have Ze:=(jy WF).1
    clear nS
    have PQ:Hid (fE s g2=if pk s (ay s g2 ck 0).2=45 then (((ay s g2 ck 0).1,(ay s (bM (ay s g2 ck 0).2) ck (ay s g2 ck 0).1).1),(ay s (bM (ay s g2 ck 0).2) ck (ay s g2 ck 0).1).2)
     else (((ay s g2 ck 0).1,(ay s g2 ck 0).1),(ay s g2 ck 0).2)):=rfl
    obtain⟨i1,i2,i3,i4,i5,i6⟩:=dQ WF ck 0
    have oK:=uE b s ⟨#[10,93,45]⟩ nv rv g2
    change ∀w,aI w b s nv rv g2->s.size<=400->_<=1000->g2.at_<=10000->Calls Tryz.prog 188 #[.pointer (some ⟨b,0,none⟩),.string ⟨#[10,93,45]⟩,.int .i64 0] w fun e w'=>e=.returned (.int .i64 ((ay s g2 ck 0).1:Int))/\aI w' b s nv rv (ay s g2 ck 0).2/\aa (·=b) w w' at oK
    have Nv:=ae oK
    clear oK
    generalize ay s g2 ck 0=I at *
    obtain⟨a,g4⟩:=I
    simp only at *
    cases sd
    ·have SW:((pk s g2:Int) != 93)=true:=by
      have:pk s g2≠93:=by
       rcases hcond with h | h
       ·cases h
       ·exact h
      simp;omega
     clear hcond
     go_wp2_with fail
     refine(dz b s nv rv g2 _ kd hs).mono ?_
     rintro e w3 ⟨rfl,n3,rfl⟩
     go_wp2_with fail
     refine(Nv.out _ (kd.drewN _) hs (by decide) (by omega)).mono ?_
     rintro e w4 ⟨rfl,ij,eK⟩
     have yy:aa (fun k=>k=b\/k=kb) w w4:=(dl.drewN _).trans (eK.mono (fun _ _ h=>Or.inl h))
     have Gp:ai w4 kb=some (.cells (dW c acc) 179 (0,0)):=bI (show ai (wr.drewN n3) kb=_ from mx) eK (fun h=>qx h.symm)
     go_wp2_with fail
     refine(dz b s nv rv g4 _ ij hs).mono ?_
     rintro e w5 ⟨rfl,n5,rfl⟩
     by_cases h45:pk s g4=45
     ·have RP:((pk s g4:Int) == 45)=true:=by simp;omega
      have C4:=PQ.out
      rw[if_pos h45]at C4
      obtain⟨p1,p2,p3⟩:=cT (s:=s) (g:=g4) (by omega)
      clear h45 PQ
      obtain⟨j1,j2,j3,j4,j5,j6⟩:=dQ (i1.adv p2) ck a
      have oK:=rB b s ⟨#[10,93,45]⟩ nv rv (bM g4) a
      change ∀w,aI w b s nv rv (bM g4)->s.size<=400->_<=1000->a<256->(bM g4).at_<=10000->Calls Tryz.prog 188 #[.pointer (some ⟨b,0,none⟩),.string ⟨#[10,93,45]⟩,.int .i64 (a:Int)] w fun e w'=>e=.returned (.int .i64 ((ay s (bM g4) ck a).1:Int))/\aI w' b s nv rv (ay s (bM g4) ck a).2/\aa (·=b) w w' at oK
      have HJ:=ae oK
      clear oK
      generalize ay s (bM g4) ck a=J at *
      obtain⟨bb,g6⟩:=J
      simp only at *
      obtain⟨d0,d1,d2,d3,d4,d5,d6⟩:=ij.cells
      have UQ:=ij.frozen 5
      have ov:=ae C4
      clear C4
      have qaA:=i1.2
      go_wp2_with fail
      refine(HJ.out _ ((ij.drewN _).setAt _) hs (by decide) i3 (by rw[bZ];omega)).mono ?_
      rintro e w7 ⟨rfl,RX,eE⟩
      have Rf:aa (fun k=>k=b\/k=kb) w w7:=((yy.drewN _).setCell (fun _=>Or.inl rfl) _).trans (eE.mono (fun _ _ h=>Or.inl h))
      have Rj:ai w7 kb=some (.cells (dW c acc) 179 (0,0)):=bI (by rw[eR _ _ _ (Ne.symm qx),aK];exact Gp) eE (fun h=>qx h.symm)
      clear d0 d1 d2 d3 d4 d5 d6 UQ
      go_wp2_with fail
      go_loopg [7] (bb+1-a) (fun n v wy=>∃k:Nat,v=.int .i64 ((a+k:Nat):Int)/\n+k=bb+1-a/\aI wy b s nv rv g6/\ai wy kb=some (.cells (fC (dW c acc) a k) 179 (0,0))/\aa (fun k=>k=b\/k=kb) w wy)
      case atStart=>exact⟨0,rfl,rfl,RX,Rj,Rf⟩
      case round=>
       obtain⟨k,rfl,Dd,JT,un,zH⟩:=hrel
       by_cases nj:a+k<=bb
       ·have gh:(fC (dW c acc) a k).size=262:=by rw[fD,lh,hc]
        obtain⟨u,hu⟩:∃u,wr.cell? ⟨kb,2+(a+k),none⟩=some u:=by
         rw[al un];exact⟨_,Array.getElem?_eq_getElem (by omega)⟩
        have Na:wr.frozen? ⟨kb,2+(a+k),none⟩=false:=bh un
        have IL:=ae Dd
        clear Dd gh
        go_wp2
        go_roundg (gk-1)
        case measure=>have:=IL.out;omega
        case rel=>exact⟨k+1,by go_num,by have:=IL.out;omega,JT.setOther qx _,gw un _,zH.setCell (fun _=>Or.inr rfl) _⟩
       ·have ld:fC (dW c acc) a k=dW c (acc++[(a,bb)]):=by
         rw[li];congr 1;omega
        rw[ld]at un
        clear ld
        go_wp2
        go_roundg (m-1)
        case measure=>have:=HM.out;omega
        case rel=>
         have:=HM.out
         refine⟨false,g6,acc++[(a,bb)],rfl,(by have h9:=this.1;rw[ov.out]at h9;have:=this.2;simp only at h9;omega),(by have:=Ze;rw[ov.out]at this;exact this),JT,un,zH,?_⟩
         have h2:=H1.out
         rw[show m-1+1=m by omega]
         unfold Hid
         rw[ov.out]at h2
         rw[List.append_assoc]
         exact h2
     ·have RP:((pk s g4:Int) == 45)=false:=by simp;omega
      have C4:=PQ.out
      rw[if_neg h45]at C4
      clear h45 PQ
      have ov:=ae C4
      clear C4
      have Rf:aa (fun k=>k=b\/k=kb) w (w4.drewN n5):=yy.drewN _
      have Rj:ai (w4.drewN n5) kb=some (.cells (dW c acc) 179 (0,0)):=Gp
      go_wp2_with fail
      go_loopg [7] (a+1-a) (fun n v wy=>∃k:Nat,v=.int .i64 ((a+k:Nat):Int)/\n+k=a+1-a/\aI wy b s nv rv g4/\ai wy kb=some (.cells (fC (dW c acc) a k) 179 (0,0))/\aa (fun k=>k=b\/k=kb) w wy)
      case atStart=>exact⟨0,rfl,rfl,(ij.drewN n5),Rj,Rf⟩
      case round=>
       obtain⟨k,rfl,Dd,JT,un,zH⟩:=hrel
       by_cases nj:a+k<=a
       ·have gh:(fC (dW c acc) a k).size=262:=by rw[fD,lh,hc]
        obtain⟨u,hu⟩:∃u,wr.cell? ⟨kb,2+(a+k),none⟩=some u:=by
         rw[al un];exact⟨_,Array.getElem?_eq_getElem (by omega)⟩
        have Na:wr.frozen? ⟨kb,2+(a+k),none⟩=false:=bh un
        have IL:=ae Dd
        clear Dd gh
        go_wp2
        go_roundg (gk-1)
        case measure=>have:=IL.out;omega
        case rel=>exact⟨k+1,by go_num,by have:=IL.out;omega,JT.setOther qx _,gw un _,zH.setCell (fun _=>Or.inr rfl) _⟩
       ·have ld:fC (dW c acc) a k=dW c (acc++[(a,a)]):=by
         rw[li];congr 1;omega
        rw[ld]at un
        clear ld
        go_wp2
        go_roundg (m-1)
        case measure=>have:=HM.out;omega
        case rel=>
         have:=HM.out
         refine⟨false,g4,acc++[(a,a)],rfl,(by have h9:=this.1;rw[ov.out]at h9;have:=this.2;simp only at h9;omega),(by have:=Ze;rw[ov.out]at this;exact this),JT,un,zH,?_⟩
         have h2:=H1.out
         rw[show m-1+1=m by omega]
         unfold Hid
         rw[ov.out]at h2
         rw[List.append_assoc]
         exact h2
    ·clear hcond
     go_wp2_with fail
     refine(Nv.out _ (kd) hs (by decide) (by omega)).mono ?_
     rintro e w4 ⟨rfl,ij,eK⟩
     have yy:aa (fun k=>k=b\/k=kb) w w4:=(dl).trans (eK.mono (fun _ _ h=>Or.inl h))
     have Gp:ai w4 kb=some (.cells (dW c acc) 179 (0,0)):=bI (mx) eK (fun h=>qx h.symm)
     go_wp2_with fail
     refine(dz b s nv rv g4 _ ij hs).mono ?_
     rintro e w5 ⟨rfl,n5,rfl⟩
     by_cases h45:pk s g4=45
     ·have RP:((pk s g4:Int) == 45)=true:=by simp;omega
      have C4:=PQ.out
      rw[if_pos h45]at C4
      obtain⟨p1,p2,p3⟩:=cT (s:=s) (g:=g4) (by omega)
      clear h45 PQ
      obtain⟨j1,j2,j3,j4,j5,j6⟩:=dQ (i1.adv p2) ck a
      have oK:=rB b s ⟨#[10,93,45]⟩ nv rv (bM g4) a
      change ∀w,aI w b s nv rv (bM g4)->s.size<=400->_<=1000->a<256->(bM g4).at_<=10000->Calls Tryz.prog 188 #[.pointer (some ⟨b,0,none⟩),.string ⟨#[10,93,45]⟩,.int .i64 (a:Int)] w fun e w'=>e=.returned (.int .i64 ((ay s (bM g4) ck a).1:Int))/\aI w' b s nv rv (ay s (bM g4) ck a).2/\aa (·=b) w w' at oK
      have HJ:=ae oK
      clear oK
      generalize ay s (bM g4) ck a=J at *
      obtain⟨bb,g6⟩:=J
      simp only at *
      obtain⟨d0,d1,d2,d3,d4,d5,d6⟩:=ij.cells
      have UQ:=ij.frozen 5
      have ov:=ae C4
      clear C4
      have qaA:=i1.2
      go_wp2_with fail
      refine(HJ.out _ ((ij.drewN _).setAt _) hs (by decide) i3 (by rw[bZ];omega)).mono ?_
      rintro e w7 ⟨rfl,RX,eE⟩
      have Rf:aa (fun k=>k=b\/k=kb) w w7:=((yy.drewN _).setCell (fun _=>Or.inl rfl) _).trans (eE.mono (fun _ _ h=>Or.inl h))
      have Rj:ai w7 kb=some (.cells (dW c acc) 179 (0,0)):=bI (by rw[eR _ _ _ (Ne.symm qx),aK];exact Gp) eE (fun h=>qx h.symm)
      clear d0 d1 d2 d3 d4 d5 d6 UQ
      go_wp2_with fail
      go_loopg [7] (bb+1-a) (fun n v wy=>∃k:Nat,v=.int .i64 ((a+k:Nat):Int)/\n+k=bb+1-a/\aI wy b s nv rv g6/\ai wy kb=some (.cells (fC (dW c acc) a k) 179 (0,0))/\aa (fun k=>k=b\/k=kb) w wy)
      case atStart=>exact⟨0,rfl,rfl,RX,Rj,Rf⟩
      case round=>
       obtain⟨k,rfl,Dd,JT,un,zH⟩:=hrel
       by_cases nj:a+k<=bb
       ·have gh:(fC (dW c acc) a k).size=262:=by rw[fD,lh,hc]
        obtain⟨u,hu⟩:∃u,wr.cell? ⟨kb,2+(a+k),none⟩=some u:=by
         rw[al un];exact⟨_,Array.getElem?_eq_getElem (by omega)⟩
        have Na:wr.frozen? ⟨kb,2+(a+k),none⟩=false:=bh un
        have IL:=ae Dd
        clear Dd gh
        go_wp2
        go_roundg (gk-1)
        case measure=>have:=IL.out;omega
        case rel=>exact⟨k+1,by go_num,by have:=IL.out;omega,JT.setOther qx _,gw un _,zH.setCell (fun _=>Or.inr rfl) _⟩
       ·have ld:fC (dW c acc) a k=dW c (acc++[(a,bb)]):=by
         rw[li];congr 1;omega
        rw[ld]at un
        clear ld
        go_wp2
        go_roundg (m-1)
        case measure=>have:=HM.out;omega
        case rel=>
         have:=HM.out
         refine⟨false,g6,acc++[(a,bb)],rfl,(by have h9:=this.1;rw[ov.out]at h9;have:=this.2;simp only at h9;omega),(by have:=Ze;rw[ov.out]at this;exact this),JT,un,zH,?_⟩
         have h2:=H1.out
         rw[show m-1+1=m by omega]
         unfold Hid
         rw[ov.out]at h2
         rw[List.append_assoc]
         exact h2
     ·have RP:((pk s g4:Int) == 45)=false:=by simp;omega
      have C4:=PQ.out
      rw[if_neg h45]at C4
      clear h45 PQ
      have ov:=ae C4
      clear C4
      have Rf:aa (fun k=>k=b\/k=kb) w (w4.drewN n5):=yy.drewN _
      have Rj:ai (w4.drewN n5) kb=some (.cells (dW c acc) 179 (0,0)):=Gp
      go_wp2_with fail
      go_loopg [7] (a+1-a) (fun n v wy=>∃k:Nat,v=.int .i64 ((a+k:Nat):Int)/\n+k=a+1-a/\aI wy b s nv rv g4/\ai wy kb=some (.cells (fC (dW c acc) a k) 179 (0,0))/\aa (fun k=>k=b\/k=kb) w wy)
      case atStart=>exact⟨0,rfl,rfl,(ij.drewN n5),Rj,Rf⟩
      case round=>
       obtain⟨k,rfl,Dd,JT,un,zH⟩:=hrel
       by_cases nj:a+k<=a
       ·have gh:(fC (dW c acc) a k).size=262:=by rw[fD,lh,hc]
        obtain⟨u,hu⟩:∃u,wr.cell? ⟨kb,2+(a+k),none⟩=some u:=by
         rw[al un];exact⟨_,Array.getElem?_eq_getElem (by omega)⟩
        have Na:wr.frozen? ⟨kb,2+(a+k),none⟩=false:=bh un
        have IL:=ae Dd
        clear Dd gh
        go_wp2
        go_roundg (gk-1)
        case measure=>have:=IL.out;omega
        case rel=>exact⟨k+1,by go_num,by have:=IL.out;omega,JT.setOther qx _,gw un _,zH.setCell (fun _=>Or.inr rfl) _⟩
       ·have ld:fC (dW c acc) a k=dW c (acc++[(a,a)]):=by
         rw[li];congr 1;omega
        rw[ld]at un
        clear ld
        go_wp2
        go_roundg (m-1)
        case measure=>have:=HM.out;omega
        case rel=>
         have:=HM.out
         refine⟨false,g4,acc++[(a,a)],rfl,(by have h9:=this.1;rw[ov.out]at h9;have:=this.2;simp only at h9;omega),(by have:=Ze;rw[ov.out]at this;exact this),JT,un,zH,?_⟩
         have h2:=H1.out
         rw[show m-1+1=m by omega]
         unfold Hid
         rw[ov.out]at h2
         rw[List.append_assoc]
         exact h2
   ·obtain⟨kO,gB⟩:=not_or.1 hcond
    have qaN:sd=false:=by simpa using kO
    have oW:pk s g2=93:=by simpa using gB
    subst qaN
    have h1:=HR.out
    rw[ef,if_neg (by rintro⟨_,h⟩;exact hcond h)]at h1
    simp only[List.append_nil]at h1
    obtain⟨e1,e2⟩:=h1
    subst e1
    subst e2
    clear HR hcond kO gB
    go_wp2_with fail
    refine(dz b s nv rv g2 _ kd hs).mono ?_
    rintro e w3 ⟨rfl,n3,rfl⟩
    have SW:((pk s g2:Int) != 93)=false:=by simp;omega
    clear oW
    go_wp2
    go_end0
    exact⟨rfl,(kd.drewN _).setAt _,by rw[eR _ _ _ (Ne.symm qx),aK];exact mx,(dl.drewN _).setCell (fun _=>Or.inl rfl) _⟩
  ·have h1:=HR.out
   rw[ef,if_neg (by rintro⟨h,_⟩;exact hb h)]at h1
   simp only[List.append_nil]at h1
   obtain⟨e1,e2⟩:=h1
   subst e1
   subst e2
   clear HR
   go_wp2
   go_end0
   exact⟨rfl,kd.setAt _,by rw[eR _ _ _ (Ne.symm qx)];exact mx,dl.setCell (fun _=>Or.inl rfl) _⟩
def BZ:Array Value:=(List.replicate 64 (Value.bool false)).toArray
theorem Tw:(Tryz.prog.info? 207).map (fun i=>(i.zero,i.size,i.bytes))=some (some (.agg BZ),64,64):=by kernel_rfl
theorem DX:(Tryz.prog.info? 207).map (·.size)=some 64:=by kernel_rfl
theorem B0:BZ.size=64:=by kernel_rfl
theorem yR:∃i,Tryz.prog.info? 207=some i/\i.zero=some (.agg BZ)/\i.size=64/\i.bytes=64:=by
 have h:=Tw
 cases hi:Tryz.prog.info? 207 with
 | none=>rw[hi]at h;cases h
 | some i=>
  rw[hi]at h
  simp only[Option.map_some,Option.some.injEq,Prod.mk.injEq]at h
  exact⟨i,rfl,h.1,h.2.1,h.2.2⟩
section
variable (ρ:Operand->Value) (d:Option Nat) (x y z:Operand) (ty:TypeId) (pos:String) (af:Array Edge) (gd:Option (Nat × Bool)) (W:World)
def mK (P:Program)(o:Option Obj)(k i:Nat)(W:World):Result Next:=
 match o with
 | some (.cells c _ _)=>if i+64<=c.size then .ok (.value (.agg (c.extract i (i+64)))) W else (do pure (.value (<-Instr.loadAt 207 (.pointer (some ⟨k,i,none⟩)))):Sem Next).run P W
 | _=>(do pure (.value (<-Instr.loadAt 207 (.pointer (some ⟨k,i,none⟩)))):Sem Next).run P W
def uJ (P:Program)(v:Value)(W:World):Result Next:=
 match v with
 | .pointer (some ⟨k,i,none⟩)=>mK P (ai W k) k i W
 | v=>(do pure (.value (<-Instr.loadAt 207 v)):Sem Next).run P W
theorem om (c:Array Value)(e:TypeId)(fr:Nat × Nat)(k i:Nat)(h:i+64<=c.size):mK Tryz.prog (some (.cells c e fr)) k i W=.ok (.value (.agg (c.extract i (i+64)))) W:=by
 simp only[mK,h,if_true]
theorem pO (k i:Nat):uJ Tryz.prog (.pointer (some ⟨k,i,none⟩)) W=mK Tryz.prog (ai W k) k i W:=rfl
theorem sa:(execOp ρ { dst:=d,op:=.load 207 x,type:=ty,pos:=pos,after:=af,guard:=gd }).run Tryz.prog W=uJ Tryz.prog (ρ x) W:=by
 have e:(execOp ρ { dst:=d,op:=.load 207 x,type:=ty,pos:=pos,after:=af,guard:=gd }).run Tryz.prog W=(do pure (.value (<-Instr.loadAt 207 (ρ x))):Sem Next).run Tryz.prog W:=rfl
 rw[e]
 unfold uJ
 split
 ·next k i hv=>
  rw[hv]
  unfold mK
  split
  ·next c t fr hc=>
   by_cases gh:i+64<=c.size
   ·rw[if_pos gh]
    have hr:=World.rangeAt_of_block (show W.heap[k]?=_ from hc) i 64
    have eI:(c.extract i (i+64)).toList.length=64:=by simp;omega
    have:=run_loadAt_mid (P:=Tryz.prog) W k i 207 _ _ hr Tryz.underlying207 rfl (by rw[eI];exact DX)
    simp only[Sem.run_bind,this,Result.andThen_ok,Sem.run_pure]
   ·rw[if_neg gh]
  ·rfl
 ·rfl
theorem pm:(execOp ρ { dst:=d,op:=.alloc 207,type:=ty,pos:=pos,after:=af,guard:=gd }).run Tryz.prog W=.ok (.value (.pointer (some ⟨W.heap.size,0,none⟩))) (W.alloc (.cells BZ 207)):=by
 obtain⟨i,h1,h2,h3,h4⟩:=yR
 simp[execOp,Instr.alloc,zeroValue,typeInfo,h1,h2,newVar,newRow,newObj,Value.cells,Sem.run_bind]
 rfl
def nD (P:Program)(o:Option Obj)(k:Nat)(c':Array Value)(W:World):Result Next:=
 match o with
 | some (.cells c 207 (0,0))=>if c.size=64/\c'.size=64/\kB c'=true then .ok .skip (W.setRow k c') else (do Instr.storeAt 207 (.pointer (some ⟨k,0,none⟩)) (.agg c');pure .skip:Sem Next).run P W
 | _=>(do Instr.storeAt 207 (.pointer (some ⟨k,0,none⟩)) (.agg c');pure .skip:Sem Next).run P W
def rP (P:Program)(p v:Value)(W:World):Result Next:=
 match p,v with
 | .pointer (some ⟨k,0,none⟩),.agg c'=>nD P (ai W k) k c' W
 | p,v=>(do Instr.storeAt 207 p v;pure .skip:Sem Next).run P W
theorem mV (c c':Array Value)(k:Nat)(h:c.size=64)(h':c'.size=64)(h1:kB c'=true):nD Tryz.prog (some (.cells c 207 (0,0))) k c' W=.ok .skip (W.setRow k c'):=by
 exact if_pos ⟨h,h',h1⟩
theorem oo (k:Nat)(c':Array Value):rP Tryz.prog (.pointer (some ⟨k,0,none⟩)) (.agg c') W=nD Tryz.prog (ai W k) k c' W:=rfl
theorem pn:(execOp ρ { dst:=d,op:=.store 207 x y,type:=ty,pos:=pos,after:=af,guard:=gd }).run Tryz.prog W=rP Tryz.prog (ρ x) (ρ y) W:=by
 have e:(execOp ρ { dst:=d,op:=.store 207 x y,type:=ty,pos:=pos,after:=af,guard:=gd }).run Tryz.prog W=(do Instr.storeAt 207 (ρ x) (ρ y);pure .skip:Sem Next).run Tryz.prog W:=rfl
 rw[e]
 unfold rP
 split
 ·next k c' hx hy=>
  rw[hx,hy]
  unfold nD
  split
  ·next c hc=>
   split
   ·next h=>
    have:=run_storeVar_row (P:=Tryz.prog) W k 207 207 c c' hc (by rw[h.2.1];exact DX) (by omega) h.2.2
    simp[Sem.run_bind,Instr.storeAt,Instr.sureAddr,this]
   ·rfl
  ·rfl
 ·rfl
end
end Go.Proofs.YtagklnaaoclmhaaGreatDoor
