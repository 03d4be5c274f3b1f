import Derived.Test.YtagklnaaoclmhaaGreatDoorRows
import Derived.WalkKit
import Derived.WalkSpells
import Derived.WalkLawsBesides
import Derived.BigQuiet
import Derived.Deep.QuietTactic
import Derived.Deep.RegionHeld3
import Derived.Deep.RegionLaw
import Derived.Deep.AppendLies
import Derived.OwnWalk
import Derived.BigRegion
import Derived.Deep.LoopGhost
import Derived.Deep.MidRow
import Derived.Deep.WholeRow
import Derived.Laws.BytesString
set_option linter.unusedSimpArgs false
set_option linter.unusedVariables false
set_option maxRecDepth 100000
set_option maxHeartbeats 16000000
namespace Go.Proofs.YtagklnaaoclmhaaGreatDoor
open Go.RowKit
def kB (c:Array Value):Bool:=c.all (·.oneCell')
theorem ae {p:Prop}(h:p):Hid p:=h
def ai (w:World)(k:Nat):Option Obj:=w.heap[k]?
theorem bf (w:World)(k:Nat):ai w.drew k=ai w k:=rfl
theorem aK (w:World)(n k:Nat):ai (w.drewN n) k=ai w k:=rfl
theorem au (w:World)(o:Obj):ai (w.alloc o) w.heap.size=some o:=by
 show (w.heap.push o)[w.heap.size]?=some o
 simp
theorem aN (w:World)(o:Obj){k:Nat}(h:k<w.heap.size):ai (w.alloc o) k=ai w k:=Below.heap_alloc w o k h
theorem ag {w:World}{k:Nat}{o:Obj}(h:ai w k=some o):k<w.heap.size:=by
 unfold ai at h
 rcases Nat.lt_or_ge k w.heap.size with h1 | h1
 ·exact h1
 ·rw[Array.getElem?_eq_none h1]at h;cases h
theorem eR (w:World)(a:Addr)(u:Value){k:Nat}(h:k≠a.block):ai (w.setCell a u) k=ai w k:=Below.heap_setCell w a u k h
structure aa (S:Nat->Prop)(w w':World):Prop where
 os:w'.os=w.os
 tape:w'.tape=w.tape
 output:w'.output=w.output
 size:w.heap.size<=w'.heap.size
 block:∀k,k<w.heap.size->¬S k->w'.heap[k]?=w.heap[k]?
theorem aa.refl (S:Nat->Prop)(w:World):aa S w w:=⟨rfl,rfl,rfl,Nat.le_refl _,fun _ _ _=>rfl⟩
theorem aa.trans {S:Nat->Prop}{a b c:World}(h:aa S a b)(k:aa S b c):aa S a c:=
 ⟨k.os.trans h.os,k.tape.trans h.tape,k.output.trans h.output,Nat.le_trans h.size k.size,fun i hi hs=>(k.block i (Nat.lt_of_lt_of_le hi h.size) hs).trans (h.block i hi hs)⟩
theorem aa.mono {S T:Nat->Prop}{a b:World}(h:aa S a b)(hs:∀k,k<a.heap.size->S k->T k):aa T a b:=
 ⟨h.os,h.tape,h.output,h.size,fun i hi ht=>h.block i hi (fun x=>ht (hs i hi x))⟩
theorem aa.drewN {S:Nat->Prop}{a w:World}(h:aa S a w)(n:Nat):aa S a (w.drewN n):=⟨h.os,h.tape,h.output,h.size,h.block⟩
theorem aa.drew {S:Nat->Prop}{a w:World}(h:aa S a w):aa S a w.drew:=⟨h.os,h.tape,h.output,h.size,h.block⟩
theorem aa.alloc {S:Nat->Prop}{a w:World}(h:aa S a w)(o:Obj):aa S a (w.alloc o):=
 h.trans ⟨rfl,rfl,rfl,by simp,fun k hk _=>Below.heap_alloc _ _ _ hk⟩
theorem aa.setCell {S:Nat->Prop}{a w:World}(h:aa S a w){p:Addr}(hp:p.block<a.heap.size->S p.block)(u:Value):aa S a (w.setCell p u):=
 ⟨h.os,h.tape,h.output,by simpa [World.setCell] using h.size,fun k hk hs=>by
  have eW:k≠p.block:=fun e=>by subst e;exact hs (hp hk)
  rw[Below.heap_setCell _ _ _ _ eW];exact h.block k hk hs⟩
theorem aa.grown {S:Nat->Prop}{a w w':World}{row:Option Nat}(h:aa S a w)(hg:w.grownBy w' row)(hr:∀k,row=some k->k<a.heap.size->S k):aa S a w':=
 ⟨hg.os.trans h.os,hg.tape.trans h.tape,hg.output.trans h.output,Nat.le_trans h.size hg.size,fun k hk hs=>by
  rw[hg.block k (Nat.lt_of_lt_of_le hk h.size) (fun e=>hs (hr k e.symm hk))];exact h.block k hk hs⟩
theorem aa.cell {S:Nat->Prop}{w w':World}(h:aa S w w'){p:Addr}(hp:p.block<w.heap.size)(hs:¬S p.block):w'.cell? p=w.cell? p:=World.cell?_of_block (w:=w) (h.block p.block hp hs)
theorem aa.frozen {S:Nat->Prop}{w w':World}(h:aa S w w'){p:Addr}(hp:p.block<w.heap.size)(hs:¬S p.block):w'.frozen? p=w.frozen? p:=World.frozen?_of_block (w:=w) (h.block p.block hp hs)
def bL (c:Int):Bool:=decide (97<=c/\c<=122)
structure Sc where
 t:Nat
 bad:Int
 at_:Nat
 op:Nat
theorem aj {w:World}{b:Nat}{c:Array Value}{e:TypeId}{f:Nat × Nat}(h:w.heap[b]?=some (.cells c e f))(o:Nat)(u:Value):
  (w.setCell ⟨b,o,none⟩ u).heap[b]?=some (.cells (c.setIfInBounds o u) e f):=by
 simp[World.setCell,Array.getElem?_modify,h]
def cV (s:ByteArray)(g:Sc):Bool:=decide (g.bad<0/\g.at_<s.size)
def am (s:ByteArray)(i:Nat):Nat:=(s.data.toList.getD i 0).toNat
theorem cZ {s:ByteArray}{i:Nat}(h:i<s.size):am s i=s[i].toNat:=by
 have h':i<s.data.toList.length:=by simpa using h
 simp[am,List.getD,List.getElem?_eq_getElem h']
 rfl
def pk (s:ByteArray)(g:Sc):Nat:=if g.bad<0/\g.at_<s.size then am s g.at_ else 0
theorem DJ {a b:Int}(h:a=b):Ending.returned (.int .u8 a)=.returned (.int .u8 b):=by rw[h]
def wr (g:Sc):Sc:=if g.bad<0 then { g with bad:=g.at_ } else g
def dh (s:ByteArray):Nat->Nat->Nat
 | 0,i=>i
 | f+1,i=>if i<s.size/\am s i=32 then dh s f (i+1) else i
def bl (s:ByteArray)(g:Sc):Sc:=if g.bad<0 then { g with at_:=dh s (s.size-g.at_) g.at_ } else g
theorem vc {s:ByteArray}{k:Nat}(h:¬(k<s.size/\am s k=32))(f:Nat):dh s f k=k:=by
 cases f with
 | zero=>rfl
 | succ f=>rw[dh,if_neg h]
theorem wT {s:ByteArray}{g:Sc}{k:Nat}(hF:g.bad<0->dh s (s.size-k) k=dh s (s.size-g.at_) g.at_)(hB:0<=g.bad->k=g.at_)(h:g.bad<0->¬(k<s.size/\am s k=32)):bl s g={ g with at_:=k }:=by
 unfold bl
 by_cases hb:g.bad<0
 ·rw[if_pos hb,<-hF hb,vc (h hb)]
 ·rw[if_neg hb,hB (by omega)]
def il (s:ByteArray)(g:Sc)(c:Nat):Bool:=cV s (bl s g)&&am s (bl s g).at_ == c
def bM (g:Sc):Sc:={ g with at_:=g.at_+1 }
def sg (s:ByteArray)(g:Sc)(c:Nat):Sc:=if il s g c then bM (bl s g) else bl s g
def mu (s:ByteArray)(g:Sc)(c:Nat):Sc:=if il s g c then sg s g c else wr (sg s g c)
def tm (g:Sc):Sc:=bM { (if g.t=40 then wr g else g) with t:=g.t+1 }
theorem TU {w:World}{base e size n b e':Nat}{v:Value}{xs:List Value}{c:Array Value}{fr:Nat × Nat}(h:w.ownsRow base e size v n xs)(hb:w.heap[b]?=some (.cells c e' fr))(eW:e≠e'):v.ownBlock≠some b:=by
 intro he
 rcases h.2 with⟨h',_⟩ | ⟨g,cap,gz,h',_,hg,_⟩
 ·rw[h']at he;cases he
 ·rw[h']at he
  simp only[Value.ownBlock,Option.some.injEq]at he
  subst he
  rw[hb]at hg
  simp only[Option.some.injEq,Obj.cells.injEq]at hg
  exact eW hg.2.1.symm
theorem dq {w:World}{base:Nat}{e:TypeId}{size:Nat}{v:Value}{n:Nat}{xs:List Value}(h:w.ownsRow base e size v n xs){a:Addr}(ha:v.ownBlock≠some a.block)(u:Value):(w.setCell a u).ownsRow base e size v n xs:=by
 obtain⟨h1,h2⟩:=h
 refine⟨h1,?_⟩
 rcases h2 with h2 | ⟨g,cap,gz,hv,hg,hh,r⟩
 ·exact Or.inl h2
 ·refine Or.inr ⟨g,cap,gz,hv,hg,?_,r⟩
  rw[Below.heap_setCell _ _ _ _ (fun e=>ha (by rw[hv,<-e];rfl))];exact hh
def wd (s:ByteArray):Nat->List UInt8->Sc->List UInt8 × Sc
 | 0,acc,g=>(acc,g)
 | f+1,acc,g=>
  if bL (pk s g) then (if acc.length=8 then (acc,wr g) else wd s f (acc++[(pk s g).toUInt8]) (bM g))
  else (acc,if acc=[] then wr g else g)
def bz (s:ByteArray)(g:Sc):List UInt8 × Sc:=wd s 10 [] (bl s g)
def ba (l:List UInt8):ByteArray:=⟨l.toArray⟩
theorem dS (l:List UInt8):(ba l).toList=l:=ByteArray.toList_mk l
theorem wS (l m:List UInt8):ba (l++m)=ba l++ba m:=by
 apply ByteArray.ext
 simp[ba]
theorem YG (s:ByteArray)(g:Sc):pk s g<256:=by
 unfold pk am
 split
 ·exact UInt8.toNat_lt _
 ·omega
theorem u7 (s:ByteArray):∀f i,dh s f i<=i+f
 | 0,i=>by simp[dh]
 | f+1,i=>by
  rw[dh]
  split
  ·have:=u7 s f (i+1);omega
  ·omega
theorem zZ (s:ByteArray)(g:Sc):(bl s g).at_<=g.at_+s.size:=by
 unfold bl
 split
 ·have:=u7 s (s.size-g.at_) g.at_
  show dh s (s.size-g.at_) g.at_<=_
  omega
 ·omega
def sX (l:List UInt8)(c:Nat):Bool:=l.any (fun b=>b.toNat == c)
theorem vN {l:List UInt8}{k:Nat}(h:k<l.length)(p:UInt8->Bool):(l.take (k+1)).any p=((l.take k).any p||p l[k]):=by
 rw[List.take_succ_eq_append_getElem h,List.any_append];simp
def Wm:List UInt8:=[110,39,92,93,45]
def ey (s:ByteArray)(g:Sc)(least:Nat):Nat × Sc:=
 if cV s g=false then (0,wr g)
 else if sX Wm (am s g.at_)=false then (0,wr g)
 else if (if am s g.at_=110 then 10 else am s g.at_)<least then (0,wr g)
 else ((if am s g.at_=110 then 10 else am s g.at_),bM g)
def ay (s:ByteArray)(g:Sc)(barred:List UInt8)(least:Nat):Nat × Sc:=
 if cV s g=false then (0,wr g)
 else if am s g.at_≠92 then
  if sX barred (am s g.at_)=true then (0,wr g)
  else if am s g.at_<least then (0,wr g)
  else (am s g.at_,bM g)
 else if 93<least then (0,wr g)
 else ey s (bM g) least
theorem iY (s:ByteArray)(i:Nat):am s i<256:=UInt8.toNat_lt _
def Iv (s:ByteArray)(g:Sc):Prop:=(g.bad<0->g.at_<=s.size)/\g.at_<=s.size+1
theorem eS (g:Sc):(wr g).at_=g.at_:=by unfold wr;split <;> rfl
theorem rV (g:Sc):(wr g).t=g.t:=by unfold wr;split <;> rfl
theorem lJ (g:Sc):(wr g).op=g.op:=by unfold wr;split <;> rfl
theorem ii (g:Sc):0<=(wr g).bad:=by
 unfold wr;split
 ·exact Int.natCast_nonneg _
 ·omega
theorem rU {g:Sc}(h:0<=g.bad):wr g=g:=by unfold wr;rw[if_neg (by omega)]
theorem Iv.wr {s:ByteArray}{g:Sc}(h:Iv s g):Iv s (wr g):=⟨fun hb=>absurd hb (by have:=ii g;omega),by rw[eS];exact h.2⟩
theorem BK (s:ByteArray):∀f i,i<=dh s f i
 | 0,i=>by simp[dh]
 | f+1,i=>by
  rw[dh];split
  ·have:=BK s f (i+1);omega
  ·omega
theorem ed (s:ByteArray)(g:Sc):(bl s g).bad=g.bad:=by unfold bl;split <;> rfl
theorem jR (s:ByteArray)(g:Sc):(bl s g).t=g.t:=by unfold bl;split <;> rfl
theorem ip (s:ByteArray)(g:Sc):(bl s g).op=g.op:=by unfold bl;split <;> rfl
theorem jK (s:ByteArray)(g:Sc):g.at_<=(bl s g).at_:=by
 unfold bl;split
 ·exact BK _ _ _
 ·exact Nat.le_refl _
theorem gr {s:ByteArray}{g:Sc}(h:0<=g.bad):bl s g=g:=by unfold bl;rw[if_neg (by omega)]
theorem Iv.bl {s:ByteArray}{g:Sc}(h:Iv s g):Iv s (bl s g):=by
 unfold Go.Proofs.YtagklnaaoclmhaaGreatDoor.bl
 split
 ·next hb=>
  have h1:=h.1 hb
  have:=u7 s (s.size-g.at_) g.at_
  refine⟨fun _=>?_,?_⟩ <;> (show dh s (s.size-g.at_) g.at_<=_) <;> omega
 ·exact h
theorem cS {s:ByteArray}{g:Sc}:cV s g=true ↔ g.bad<0/\g.at_<s.size:=by simp[cV]
theorem G9 {s:ByteArray}{g:Sc}(h:0<=g.bad):cV s g=false:=by simp[cV];omega
theorem Iv.adv {s:ByteArray}{g:Sc}(h:Iv s g)(hm:g.at_<s.size):Iv s (bM g):=⟨fun _=>by simp[Go.Proofs.YtagklnaaoclmhaaGreatDoor.bM];omega,by simp[Go.Proofs.YtagklnaaoclmhaaGreatDoor.bM];omega⟩
theorem bZ (g:Sc):(bM g).at_=g.at_+1:=rfl
theorem NM (g:Sc):(bM g).bad=g.bad:=rfl
theorem wO (g:Sc):(bM g).t=g.t:=rfl
theorem tP (g:Sc):(bM g).op=g.op:=rfl
theorem cT {s:ByteArray}{g:Sc}(h:0<pk s g):g.bad<0/\g.at_<s.size/\pk s g=am s g.at_:=by
 unfold pk at *
 split at h
 ·next hc=>exact⟨hc.1,hc.2,by rw[if_pos hc]⟩
 ·omega
theorem nB {s:ByteArray}{g:Sc}(c:Nat)(h:0<=g.bad):il s g c=false:=by unfold il;rw[G9 (by rw[ed];exact h)];rfl
theorem kF {s:ByteArray}{g:Sc}{c:Nat}(h:il s g c=true):g.bad<0/\(bl s g).at_<s.size:=by
 unfold il at h
 simp only[Bool.and_eq_true]at h
 have:=cS.1 h.1
 rw[ed]at this
 exact this
theorem Iv.sg {s:ByteArray}{g:Sc}(h:Iv s g)(c:Nat):Iv s (sg s g c):=by
 unfold Go.Proofs.YtagklnaaoclmhaaGreatDoor.sg
 split
 ·next hc=>exact h.bl.adv (kF hc).2
 ·exact h.bl
theorem BJ (s:ByteArray)(g:Sc)(c:Nat):g.at_<=(sg s g c).at_:=by
 have:=jK s g
 unfold sg;split
 ·rw[bZ];omega
 ·exact this
theorem eJ (s:ByteArray)(g:Sc)(c:Nat):(sg s g c).bad=g.bad:=by unfold sg;split <;> simp[NM,ed]
theorem nU (s:ByteArray)(g:Sc)(c:Nat):(sg s g c).t=g.t:=by unfold sg;split <;> simp[wO,jR]
theorem qa (s:ByteArray)(g:Sc)(c:Nat):(sg s g c).op=g.op:=by unfold sg;split <;> simp[tP,ip]
theorem xQ {s:ByteArray}{g:Sc}(c:Nat)(h:0<=g.bad):sg s g c=g:=by unfold sg;rw[nB c h];simp[gr h]
theorem Iv.mu {s:ByteArray}{g:Sc}(h:Iv s g)(c:Nat):Iv s (mu s g c):=by
 unfold Go.Proofs.YtagklnaaoclmhaaGreatDoor.mu
 split
 ·exact h.sg c
 ·exact(h.sg c).wr
theorem Fh (s:ByteArray)(g:Sc)(c:Nat):g.at_<=(mu s g c).at_:=by
 have:=BJ s g c
 unfold mu;split
 ·exact this
 ·rw[eS];exact this
theorem Hd (s:ByteArray)(g:Sc)(c:Nat):(mu s g c).t=g.t:=by unfold mu;split <;> simp[rV,nU]
theorem QJ (s:ByteArray)(g:Sc)(c:Nat):(mu s g c).op=g.op:=by unfold mu;split <;> simp[lJ,qa]
theorem jf {s:ByteArray}{g:Sc}(c:Nat)(h:0<=g.bad):mu s g c=g:=by unfold mu;rw[nB c h];simp[xQ c h,rU h]
theorem Fi {s:ByteArray}{g:Sc}{c:Nat}(h:(mu s g c).bad<0):il s g c=true/\g.bad<0/\mu s g c=sg s g c:=by
 unfold mu at *
 cases hc:il s g c
 ·rw[hc]at h
  have:=ii (sg s g c)
  simp only[Bool.false_eq_true,if_false]at h
  omega
 ·exact⟨rfl,(kF hc).1,by simp⟩
theorem yU {s:ByteArray}{g:Sc}(h:Iv s g)(least:Nat):
  Iv s (ey s g least).2/\g.at_<=(ey s g least).2.at_/\(ey s g least).1<256/\(ey s g least).2.t=g.t/\(ey s g least).2.op=g.op/\((ey s g least).2.bad<0->g.bad<0):=by
 have hb:=iY s g.at_
 unfold ey
 have hv:(if am s g.at_=110 then 10 else am s g.at_)<256:=by split <;> omega
 generalize (if am s g.at_=110 then 10 else am s g.at_)=v at *
 cases hm:cV s g
 ·simp only[if_true];exact⟨h.wr,by rw[eS];exact Nat.le_refl _,by omega,rV _,lJ _,fun h'=>absurd h' (by have:=ii g;omega)⟩
 ·have rt:=cS.1 hm
  simp only[Bool.true_eq_false,if_false]
  split
  ·exact⟨h.wr,by rw[eS];exact Nat.le_refl _,by omega,rV _,lJ _,fun _=>rt.1⟩
  ·split
   ·exact⟨h.wr,by rw[eS];exact Nat.le_refl _,by omega,rV _,lJ _,fun _=>rt.1⟩
   ·exact⟨h.adv rt.2,by rw[bZ];omega,hv,rfl,rfl,fun _=>rt.1⟩
theorem dQ {s:ByteArray}{g:Sc}(h:Iv s g)(l:List UInt8)(least:Nat):
  Iv s (ay s g l least).2/\g.at_<=(ay s g l least).2.at_/\(ay s g l least).1<256/\(ay s g l least).2.t=g.t/\(ay s g l least).2.op=g.op/\
  ((ay s g l least).2.bad<0->g.bad<0/\g.at_<(ay s g l least).2.at_):=by
 have hb:=iY s g.at_
 have hw:=ii g
 unfold ay
 cases hm:cV s g
 ·simp only[if_true];exact⟨h.wr,by rw[eS];exact Nat.le_refl _,by omega,rV _,lJ _,fun h'=>absurd h' (by omega)⟩
 ·have rt:=cS.1 hm
  simp only[Bool.true_eq_false,if_false]
  split
  ·split
   ·exact⟨h.wr,by rw[eS];exact Nat.le_refl _,by omega,rV _,lJ _,fun h'=>absurd h' (by simp only;omega)⟩
   ·split
    ·exact⟨h.wr,by rw[eS];exact Nat.le_refl _,by omega,rV _,lJ _,fun h'=>absurd h' (by simp only;omega)⟩
    ·exact⟨h.adv rt.2,by rw[bZ];omega,hb,rfl,rfl,fun _=>⟨rt.1,by rw[bZ];omega⟩⟩
  ·split
   ·exact⟨h.wr,by rw[eS];exact Nat.le_refl _,by omega,rV _,lJ _,fun h'=>absurd h' (by simp only;omega)⟩
   ·obtain⟨i1,i2,i3,i4,i5,i6⟩:=yU (h.adv rt.2) least
    rw[bZ]at i2
    exact⟨i1,by omega,i3,i4,i5,fun h'=>⟨i6 h',by omega⟩⟩
def ck:List UInt8:=[10,93,45]
def km:List UInt8:=[10,39]
def fE (s:ByteArray)(g:Sc):(Nat × Nat) × Sc:=
 if pk s (ay s g ck 0).2=45 then (((ay s g ck 0).1,(ay s (bM (ay s g ck 0).2) ck (ay s g ck 0).1).1),(ay s (bM (ay s g ck 0).2) ck (ay s g ck 0).1).2)
 else (((ay s g ck 0).1,(ay s g ck 0).1),(ay s g ck 0).2)
def ef (s:ByteArray):Nat->Bool->Sc->List (Nat × Nat) × Sc
 | 0,_,g=>([],g)
 | f+1,first,g=>
  if g.bad<0/\(first=true\/pk s g≠93) then ((fE s g).1 :: (ef s f false (fE s g).2).1,(ef s f false (fE s g).2).2)
  else ([],g)
theorem jy {s:ByteArray}{g:Sc}(h:Iv s g):Iv s (fE s g).2/\g.at_<=(fE s g).2.at_/\(fE s g).1.1<256/\(fE s g).1.2<256/\(fE s g).2.t=g.t/\(fE s g).2.op=g.op/\
  ((fE s g).2.bad<0->g.bad<0/\g.at_<(fE s g).2.at_):=by
 obtain⟨i1,i2,i3,i4,i5,i6⟩:=dQ h ck 0
 unfold fE
 split
 ·next h45=>
  obtain⟨p1,p2,p3⟩:=cT (s:=s) (g:=(ay s g ck 0).2) (by omega)
  obtain⟨j1,j2,j3,j4,j5,j6⟩:=dQ (i1.adv p2) ck (ay s g ck 0).1
  rw[bZ]at j2
  exact⟨j1,by simp only;omega,i3,j3,by simp only;rw[j4,wO,i4],by simp only;rw[j5,tP,i5],fun h'=>⟨(i6 p1).1,by simp only;omega⟩⟩
 ·exact⟨i1,i2,i3,i3,i4,i5,i6⟩
def rk (s:ByteArray)(g:Sc):Nat:=if g.bad<0 then s.size+1-g.at_ else 0
theorem kC {s:ByteArray}{g g':Sc}(h:Iv s g)(hb:g.bad<0)(hp:g'.bad<0->g.at_<g'.at_):rk s g'<rk s g:=by
 unfold rk
 rw[if_pos hb]
 have:=h.1 hb
 split
 ·next h'=>have:=hp h';omega
 ·omega
theorem fW (s:ByteArray)(g:Sc):rk s g<=s.size+1:=by unfold rk;split <;> omega
def fC (c:Array Value)(a:Nat):Nat->Array Value
 | 0=>c
 | n+1=>(fC c a n).setIfInBounds (2+(a+n)) (.bool true)
def dW (c:Array Value)(l:List (Nat × Nat)):Array Value:=l.foldl (fun c r=>fC c r.1 (r.2+1-r.1)) c
theorem fD (c:Array Value)(a:Nat):∀n,(fC c a n).size=c.size
 | 0=>rfl
 | n+1=>by simp[fC,fD c a n]
theorem lh (l:List (Nat × Nat)):∀c,(dW c l).size=c.size:=by
 induction l with
 | nil=>intro c;rfl
 | cons r l ih=>intro c;simp only[dW,List.foldl_cons]at *;rw[ih,fD]
theorem li (c:Array Value)(l:List (Nat × Nat))(r:Nat × Nat):dW c (l++[r])=fC (dW c l) r.1 (r.2+1-r.1):=by simp[dW]
theorem al {w:World}{k i:Nat}{c:Array Value}{e:TypeId}{fr:Nat × Nat}(h:ai w k=some (.cells c e fr)):w.cell? ⟨k,i,none⟩=c[i]?:=cell_of_row w k i c e fr h
theorem bh {w:World}{k i:Nat}{c:Array Value}{e:TypeId}(h:ai w k=some (.cells c e (0,0))):w.frozen? ⟨k,i,none⟩=false:=by
 have h':w.heap[k]?=_:=h
 simp[World.frozen?,h']
theorem gw {w:World}{k i:Nat}{c:Array Value}{e:TypeId}{fr:Nat × Nat}(h:ai w k=some (.cells c e fr))(u:Value):ai (w.setCell ⟨k,i,none⟩ u) k=some (.cells (c.setIfInBounds i u) e fr):=aj h i u
theorem bI {S:Nat->Prop}{w w':World}{k:Nat}{o:Obj}(h:ai w k=some o)(hk:aa S w w')(hs:¬S k):ai w' k=some o:=by
 have:=ag h
 unfold ai at *
 rw[hk.block k this hs];exact h
def set (s:ByteArray)(g:Sc):List (Nat × Nat) × Sc:=((ef s (s.size+2) true g).1,bM (ef s (s.size+2) true g).2)
structure Nd where
 kind:Nat
 text:List UInt8
 rng:List (Nat × Nat)
 term:Nat
 name:List UInt8
 at_:Nat
 subs:List Nat
structure St where
 sc:Sc
 ns:List Nd
def aP (A:St)(N:Nd):St × Nat:=({ A with ns:=A.ns++[N] },A.ns.length)
def fP (s:ByteArray):Nat->List UInt8->Sc->List UInt8 × Sc
 | 0,acc,g=>(acc,g)
 | f+1,acc,g=>if g.bad<0/\pk s g≠39 then fP s f (acc++[(ay s g km 0).1.toUInt8]) (ay s g km 0).2 else (acc,g)
def qB (s:ByteArray)(g:Sc):List UInt8 × Sc:=((fP s (s.size+2) [] g).1,bM (fP s (s.size+2) [] g).2)
def cj:Nd:=⟨0,[],[],0,[],0,[]⟩
def ez (g:Sc):Sc:={ g with at_:=g.at_+1,op:=g.op+1 }
def oS (g:Sc):Sc:={ g with op:=g.op-1 }
def aR (s:ByteArray)(ch:St->St × Nat)(A:St):St × Nat:=
 if bL (pk s (bl s A.sc)) then aP { A with sc:=(bz s (bl s A.sc)).2 } { cj with kind:=3,name:=(bz s (bl s A.sc)).1,at_:=(bl s A.sc).at_ }
 else if pk s (bl s A.sc)=46 then aP { A with sc:=tm (bl s A.sc) } { cj with kind:=2,term:=(bl s A.sc).t }
 else if pk s (bl s A.sc)=39 then aP { A with sc:=(qB s (tm (bl s A.sc))).2 } { cj with kind:=0,text:=(qB s (tm (bl s A.sc))).1,term:=(bl s A.sc).t }
 else if pk s (bl s A.sc)=91 then aP { A with sc:=(set s (tm (bl s A.sc))).2 } { cj with kind:=1,rng:=(set s (tm (bl s A.sc))).1,term:=(bl s A.sc).t }
 else if pk s (bl s A.sc)=40/\(bl s A.sc).op<5 then
  ({ (ch { A with sc:=ez (bl s A.sc) }).1 with sc:=oS (mu s (ch { A with sc:=ez (bl s A.sc) }).1.sc 41) },(ch { A with sc:=ez (bl s A.sc) }).2)
 else aP { A with sc:=wr (bl s A.sc) } cj
def bm (c:Nat):Nat:=if c=63 then 6 else if c=42 then 7 else if c=43 then 8 else 0
def cY (s:ByteArray)(g:Sc):Nat:=if il s g 38 then 9 else if il s (sg s g 38) 33 then 10 else 0
def bn (s:ByteArray)(g:Sc):Sc:=if il s g 38 then sg s g 38 else sg s (sg s g 38) 33
def cG (s:ByteArray)(X:St × Nat):St × Nat:=
 if bm (pk s (bl s X.1.sc)) > 0 then aP { X.1 with sc:=bM (bl s X.1.sc) } { cj with kind:=bm (pk s (bl s X.1.sc)),subs:=[X.2] }
 else ({ X.1 with sc:=bl s X.1.sc },X.2)
def eG (k:Nat)(X:St × Nat):St × Nat:=if k > 0 then aP X.1 { cj with kind:=k,subs:=[X.2] } else X
def bP (s:ByteArray)(ch:St->St × Nat)(A:St):St × Nat:=
 eG (cY s A.sc) (cG s (aR s ch { A with sc:=bn s A.sc }))
def du (s:ByteArray)(g:Sc):Bool:=!cV s g||pk s g == 10||pk s g == 47||(pk s g == 41&&decide (0<g.op))
def dk (s:ByteArray)(ch:St->St × Nat):Nat->List Nat->St->St × List Nat
 | 0,acc,A=>(A,acc)
 | f+1,acc,A=>
  if du s (bl s (bP s ch A).1.sc) then ({ (bP s ch A).1 with sc:=bl s (bP s ch A).1.sc },acc++[(bP s ch A).2])
  else dk s ch f (acc++[(bP s ch A).2]) { (bP s ch A).1 with sc:=bl s (bP s ch A).1.sc }
def eT (s:ByteArray)(ch:St->St × Nat)(A:St):St × Nat:=
 aP (dk s ch (s.size+3) [] A).1 { cj with kind:=5,subs:=(dk s ch (s.size+3) [] A).2 }
def dD (s:ByteArray)(ch:St->St × Nat):Nat->List Nat->St->St × List Nat
 | 0,acc,A=>(A,acc)
 | f+1,acc,A=>
  if il s (eT s ch A).1.sc 47 then dD s ch f (acc++[(eT s ch A).2]) { (eT s ch A).1 with sc:=sg s (eT s ch A).1.sc 47 }
  else ({ (eT s ch A).1 with sc:=sg s (eT s ch A).1.sc 47 },acc++[(eT s ch A).2])
def jU (s:ByteArray)(ch:St->St × Nat)(A:St):St × Nat:=
 aP (dD s ch (s.size+3) [] A).1 { cj with kind:=4,subs:=(dD s ch (s.size+3) [] A).2 }
def dw (s:ByteArray):Nat->St->St × Nat
 | 0=>fun A=>aP A cj
 | d+1=>jU s (dw s d)
def rest (s:ByteArray)(g:Sc):Nat:=if g.bad<0 then s.size+1-g.at_ else 0
def Pt (s:ByteArray)(A:St):Nat:=A.ns.length+4*rest s A.sc
structure Fc (s:ByteArray)(A B:St)(k j:Nat):Prop where
 iv:Iv s B.sc
 ge:A.sc.at_<=B.sc.at_
 op:B.sc.op=A.sc.op
 t:A.sc.t<=B.sc.t
 tn:B.sc.t+A.ns.length<=A.sc.t+B.ns.length
 good:B.sc.bad<0->A.sc.bad<0
 same:0<=A.sc.bad->B.sc=A.sc
 len:A.ns.length<=B.ns.length
 prog:B.sc.bad<0->A.sc.at_<B.sc.at_
 pot:A.sc.bad<0->Pt s B+k<=Pt s A+3
 pot':Pt s B<=Pt s A+j
theorem Pi {s:ByteArray}{g g':Sc}(h:g'.bad<0->g.bad<0)(ha:g.at_<=g'.at_):rest s g'<=rest s g:=by
 unfold rest;split
 ·next hb=>rw[if_pos (h hb)];omega
 ·omega
theorem lv {s:ByteArray}{g g':Sc}(hi:Iv s g)(hb:g.bad<0)(ha:g'.bad<0->g.at_<g'.at_):rest s g'+1<=rest s g:=by
 have:=hi.1 hb
 unfold rest;rw[if_pos hb];split
 ·next jq=>have:=ha jq;omega
 ·omega
structure Fs (s:ByteArray)(g h:Sc):Prop where
 iv:Iv s h
 ge:g.at_<=h.at_
 op:h.op=g.op
 good:h.bad<0->g.bad<0
 same:0<=g.bad->h=g
theorem Fs.trans {s:ByteArray}{a b c:Sc}(h:Fs s a b)(k:Fs s b c):Fs s a c:=
 ⟨k.iv,Nat.le_trans h.ge k.ge,k.op.trans h.op,fun x=>h.good (k.good x),fun x=>by have e:=h.same x;rw[k.same (by rw[e];exact x),e]⟩
theorem Fs.bl {s:ByteArray}{g:Sc}(h:Iv s g):Fs s g (bl s g):=⟨h.bl,jK s g,ip s g,fun x=>by rw[ed]at x;exact x,fun x=>gr x⟩
theorem Fs.wr {s:ByteArray}{g:Sc}(h:Iv s g):Fs s g (wr g):=⟨h.wr,by rw[eS];exact Nat.le_refl _,lJ g,fun x=>absurd x (by have:=ii g;omega),fun x=>rU x⟩
theorem Fs.sg {s:ByteArray}{g:Sc}(h:Iv s g)(c:Nat):Fs s g (sg s g c):=⟨h.sg c,BJ s g c,qa s g c,fun x=>by rw[eJ]at x;exact x,fun x=>xQ c x⟩
theorem Fs.mu {s:ByteArray}{g:Sc}(h:Iv s g)(c:Nat):Fs s g (mu s g c):=⟨h.mu c,Fh s g c,QJ s g c,fun x=>(Fi x).2.1,fun x=>jf c x⟩
theorem Fs.rest {s:ByteArray}{g h:Sc}(f:Fs s g h):rest s h<=rest s g:=Pi f.good f.ge
theorem jO {c:Nat}(h:bL c=true):0<c:=by unfold bL at h;simp at h;omega
theorem qn {s:ByteArray}:∀f acc g,Iv s g->Iv s (wd s f acc g).2/\g.at_<=(wd s f acc g).2.at_/\(wd s f acc g).2.op=g.op/\(wd s f acc g).2.t=g.t/\((wd s f acc g).2.bad<0->g.bad<0)/\
  ((wd s f acc g).2.bad<0->0<f->acc=[]->g.at_<(wd s f acc g).2.at_)/\(0<=g.bad->0<f->(wd s f acc g).2=g)
 | 0,acc,g,h=>⟨h,Nat.le_refl _,rfl,rfl,id,fun _ x=>absurd x (by omega),fun _ x=>absurd x (by omega)⟩
 | f+1,acc,g,h=>by
  rw[wd]
  have hw:=ii g
  cases hl:bL (pk s g:Int)
  ·simp only[Bool.false_eq_true,if_false]
   by_cases ha:acc=[]
   ·rw[if_pos ha]
    exact⟨h.wr,by rw[eS];exact Nat.le_refl _,lJ g,rV g,fun x=>absurd x (by omega),fun x=>absurd x (by omega),fun x _=>rU x⟩
   ·rw[if_neg ha]
    exact⟨h,Nat.le_refl _,rfl,rfl,id,fun _ _ x=>absurd x ha,fun _ _=>rfl⟩
  ·simp only[if_true]
   obtain⟨p1,p2,p3⟩:=cT (jO hl)
   by_cases h8:acc.length=8
   ·rw[if_pos h8]
    exact⟨h.wr,by rw[eS];exact Nat.le_refl _,lJ g,rV g,fun x=>absurd x (by simp only;omega),fun x=>absurd x (by simp only;omega),fun x _=>absurd x (by omega)⟩
   ·rw[if_neg h8]
    obtain⟨q1,q2,q3,q4,q5,q6,q7⟩:=qn f (acc++[(pk s g).toUInt8]) (bM g) (h.adv p2)
    rw[bZ]at q2
    exact⟨q1,by omega,q3,q4,q5,fun _ _ _=>by omega,fun x _=>absurd x (by omega)⟩
theorem gN {s:ByteArray}{g:Sc}(h:Iv s g):Fs s g (bz s g).2/\(bz s g).2.t=g.t/\((bz s g).2.bad<0->g.at_<(bz s g).2.at_):=by
 obtain⟨q1,q2,q3,q4,q5,q6,q7⟩:=qn (s:=s) 10 [] (bl s g) h.bl
 have hb:=Fs.bl h
 refine⟨⟨q1,Nat.le_trans hb.ge q2,q3.trans hb.op,fun x=>hb.good (q5 x),fun x=>?_⟩,q4.trans (jR s g),fun x=>?_⟩
 ·have e:=hb.same x
  show (wd s 10 [] (Go.Proofs.YtagklnaaoclmhaaGreatDoor.bl s g)).2=g
  rw[q7 (by rw[e];exact x) (by omega),e]
 ·have:=q6 x (by omega) rfl
  have:=hb.ge
  show g.at_<(wd s 10 [] (Go.Proofs.YtagklnaaoclmhaaGreatDoor.bl s g)).2.at_
  omega
theorem jB (g:Sc):(tm g).at_=g.at_+1:=by unfold tm bM;split <;> simp[eS]
theorem zt (g:Sc):(tm g).t=g.t+1:=by unfold tm bM;split <;> rfl
theorem Me (g:Sc):(tm g).op=g.op:=by unfold tm bM;split <;> simp[lJ]
theorem zs {g:Sc}(h:(tm g).bad<0):g.bad<0:=by
 unfold tm bM at h;split at h
 ·have:=ii g;simp only at h;omega
 ·exact h
theorem qj {s:ByteArray}{g:Sc}(h:Iv s g)(hp:g.at_<s.size):Iv s (tm g):=⟨fun _=>by rw[jB];omega,by rw[jB];omega⟩
theorem oM {s:ByteArray}:∀f acc g,Iv s g->rk s g<f->Iv s (fP s f acc g).2/\g.at_<=(fP s f acc g).2.at_/\(fP s f acc g).2.op=g.op/\(fP s f acc g).2.t=g.t/\((fP s f acc g).2.bad<0->g.bad<0/\pk s (fP s f acc g).2=39)/\
  (fP s f acc g).1.length<=acc.length+rk s g
 | 0,acc,g,h,hr=>absurd hr (by omega)
 | f+1,acc,g,h,hr=>by
  rw[fP]
  split
  ·next hc=>
   obtain⟨i1,i2,i3,i4,i5,i6⟩:=dQ h km 0
   have bj:=kC (g':=(ay s g km 0).2) h hc.1 (fun x=>(i6 x).2)
   obtain⟨q1,q2,q3,q4,q5,q6⟩:=oM f (acc++[(ay s g km 0).1.toUInt8]) (ay s g km 0).2 i1 (by omega)
   simp only[List.length_append,List.length_cons,List.length_nil]at q6
   exact⟨q1,by omega,by rw[q3,i5],by rw[q4,i4],fun x=>⟨hc.1,(q5 x).2⟩,by omega⟩
  ·next hc=>
   exact⟨h,Nat.le_refl _,rfl,rfl,fun x=>⟨x,Decidable.byContradiction fun hn=>hc ⟨x,hn⟩⟩,by simp only;omega⟩
theorem GP {s:ByteArray}{g:Sc}(h:g.at_<=s.size)(least:Nat):(ey s g least).2.at_<=s.size:=by
 unfold ey
 generalize (if am s g.at_=110 then 10 else am s g.at_)=v
 cases hm:cV s g
 ·simp only[if_true];rw[eS];exact h
 ·have rt:=cS.1 hm
  simp only[Bool.true_eq_false,if_false]
  split
  ·simp only;rw[eS];exact h
  ·split
   ·simp only;rw[eS];exact h
   ·simp only;rw[bZ];omega
theorem uF {s:ByteArray}{g:Sc}(h:g.at_<=s.size)(l:List UInt8)(least:Nat):(ay s g l least).2.at_<=s.size:=by
 unfold ay
 cases hm:cV s g
 ·simp only[if_true];rw[eS];exact h
 ·have rt:=cS.1 hm
  simp only[Bool.true_eq_false,if_false]
  split
  ·split
   ·simp only;rw[eS];exact h
   ·split
    ·simp only;rw[eS];exact h
    ·simp only;rw[bZ];omega
  ·split
   ·simp only;rw[eS];exact h
   ·exact GP (by rw[bZ];omega) least
theorem Fb {s:ByteArray}:∀f acc g,g.at_<=s.size->(fP s f acc g).2.at_<=s.size
 | 0,acc,g,h=>h
 | f+1,acc,g,h=>by
  rw[fP];split
  ·exact Fb f _ _ (uF h _ _)
  ·exact h
theorem Po {s:ByteArray}{g:Sc}(h:g.at_<=s.size):(fE s g).2.at_<=s.size:=by
 unfold fE;split
 ·next h45=>
  obtain⟨p1,p2,p3⟩:=cT (s:=s) (g:=(ay s g ck 0).2) (by omega)
  exact uF (by rw[bZ];omega) _ _
 ·exact uF h _ _
theorem FL {s:ByteArray}:∀f sd g,g.at_<=s.size->(ef s f sd g).2.at_<=s.size
 | 0,_,g,h=>h
 | f+1,sd,g,h=>by
  rw[ef];split
  ·exact FL f _ _ (Po h)
  ·exact h
theorem oR {s:ByteArray}:∀f sd g,Iv s g->rk s g<f->Iv s (ef s f sd g).2/\g.at_<=(ef s f sd g).2.at_/\(ef s f sd g).2.op=g.op/\(ef s f sd g).2.t=g.t/\((ef s f sd g).2.bad<0->g.bad<0/\pk s (ef s f sd g).2=93)
 | 0,sd,g,h,hr=>absurd hr (by omega)
 | f+1,sd,g,h,hr=>by
  rw[ef]
  split
  ·next hc=>
   obtain⟨i1,i2,i3,i4,i5,i6,i7⟩:=jy h
   have bj:=kC (g':=(fE s g).2) h hc.1 (fun x=>(i7 x).2)
   obtain⟨q1,q2,q3,q4,q5⟩:=oR f false (fE s g).2 i1 (by omega)
   exact⟨q1,by simp only;omega,by rw[q3,i6],by rw[q4,i5],fun x=>⟨hc.1,(q5 x).2⟩⟩
  ·next hc=>
   exact⟨h,Nat.le_refl _,rfl,rfl,fun x=>⟨x,Decidable.byContradiction fun hn=>hc ⟨x,Or.inr hn⟩⟩⟩
theorem rC {s:ByteArray}{g:Sc}(h:Iv s g)(hm:g.at_<=s.size):Iv s (qB s g).2/\g.at_<=(qB s g).2.at_/\(qB s g).2.op=g.op/\(qB s g).2.t=g.t/\((qB s g).2.bad<0->g.bad<0):=by
 have:=fW s g
 obtain⟨q1,q2,q3,q4,q5,q6⟩:=oM (s:=s) (s.size+2) [] g h (by omega)
 have hl:=Fb (s:=s) (s.size+2) [] g hm
 unfold qB
 refine⟨⟨fun x=>?_,by rw[bZ];omega⟩,by rw[bZ];omega,q3,q4,fun x=>(q5 x).1⟩
 obtain⟨p1,p2,p3⟩:=cT (s:=s) (g:=(fP s (s.size+2) [] g).2) (by have:=(q5 x).2;omega)
 rw[bZ];omega
theorem rM {s:ByteArray}{g:Sc}(h:Iv s g)(hm:g.at_<=s.size):Iv s (set s g).2/\g.at_<=(set s g).2.at_/\(set s g).2.op=g.op/\(set s g).2.t=g.t/\((set s g).2.bad<0->g.bad<0):=by
 have:=fW s g
 obtain⟨q1,q2,q3,q4,q5⟩:=oR (s:=s) (s.size+2) true g h (by omega)
 have hl:=FL (s:=s) (s.size+2) true g hm
 unfold set
 refine⟨⟨fun x=>?_,by rw[bZ];omega⟩,by rw[bZ];omega,q3,q4,fun x=>(q5 x).1⟩
 obtain⟨p1,p2,p3⟩:=cT (s:=s) (g:=(ef s (s.size+2) true g).2) (by have:=(q5 x).2;omega)
 rw[bZ];omega
def eN (s:ByteArray)(ch:St->St × Nat)(d:Nat):Prop:=∀A,Iv s A.sc->5<=A.sc.op+d->Fc s A (ch A).1 4 3
theorem IS (s:ByteArray)(A:St)(g:Sc)(N:Nd):Pt s (aP { A with sc:=g } N).1=A.ns.length+1+4*rest s g:=by simp[Pt,aP]
theorem Fc.one {s:ByteArray}{A:St}{g:Sc}(N:Nd)(hf:Fs s A.sc g)(hp:g.bad<0->A.sc.at_<g.at_)(hi:Iv s A.sc)(ht:A.sc.t<=g.t)(sq:g.t<=A.sc.t+1):Fc s A (aP { A with sc:=g } N).1 6 1 where
 iv:=hf.iv
 ge:=hf.ge
 op:=hf.op
 t:=ht
 tn:=by simp[aP];omega
 good:=hf.good
 same:=hf.same
 len:=by simp[aP]
 prog:=hp
 pot:=fun hb=>by
  rw[IS];unfold Pt
  have:=lv (s:=s) (g:=A.sc) (g':=g) hi hb hp
  omega
 pot':=by rw[IS];unfold Pt;have:=hf.rest;omega
theorem nA {s:ByteArray}{ch:St->St × Nat}{d:Nat}(dH:d=0\/eN s ch (d-1)){A:St}(hi:Iv s A.sc)(hd:5<=A.sc.op+d):Fc s A (aR s ch A).1 6 1:=by
 have hb:=Fs.bl hi
 unfold aR
 have ni:=jR s A.sc
 generalize bl s A.sc=g at *
 cases hl:bL (pk s g:Int)
 ·simp only[Bool.false_eq_true,if_false]
  split
  ·next yu=>
   obtain⟨p1,p2,p3⟩:=cT (s:=s) (g:=g) (by omega)
   refine Fc.one _ ⟨qj hb.iv p2,by rw[jB];have:=hb.ge;omega,(Me g).trans hb.op,fun x=>hb.good (zs x),fun x=>absurd x (by have:=hb.good p1;omega)⟩ (fun _=>by rw[jB];have:=hb.ge;omega) hi (by rw[zt];omega) (by rw[zt];omega)
  ·split
   ·next h39=>
    obtain⟨p1,p2,p3⟩:=cT (s:=s) (g:=g) (by omega)
    obtain⟨l1,l2,l3,l4,l5⟩:=rC (qj hb.iv p2) (by rw[jB];omega)
    rw[jB]at l2
    refine Fc.one _ ⟨l1,by have:=hb.ge;omega,l3.trans ((Me g).trans hb.op),fun x=>hb.good (zs (l5 x)),fun x=>absurd x (by have:=hb.good p1;omega)⟩ (fun _=>by have:=hb.ge;omega) hi (by rw[l4,zt];omega) (by rw[l4,zt];omega)
   ·split
    ·next h91=>
     obtain⟨p1,p2,p3⟩:=cT (s:=s) (g:=g) (by omega)
     obtain⟨l1,l2,l3,l4,l5⟩:=rM (qj hb.iv p2) (by rw[jB];omega)
     rw[jB]at l2
     refine Fc.one _ ⟨l1,by have:=hb.ge;omega,l3.trans ((Me g).trans hb.op),fun x=>hb.good (zs (l5 x)),fun x=>absurd x (by have:=hb.good p1;omega)⟩ (fun _=>by have:=hb.ge;omega) hi (by rw[l4,zt];omega) (by rw[l4,zt];omega)
    ·split
     ·next qs=>
      obtain⟨p1,p2,p3⟩:=cT (s:=s) (g:=g) (by omega)
      have rx:=hb.op
      rcases dH with h0 | dH
      ·omega
      ·have AD:Iv s (ez g):=⟨fun _=>by simp[ez];omega,by simp[ez];omega⟩
       have hc:=dH { A with sc:=ez g } AD (by simp[ez];omega)
       generalize ch { A with sc:=ez g }=X at *
       have hm:=Fs.mu hc.iv 41
       have Cm:=Hd s X.1.sc 41
       have zJ:=hb.ge
       have h1:=hc.ge
       have h2:=hm.ge
       have h3:=hc.op
       have h4:=hm.op
       have h5:=hc.t
       have h6:=hc.tn
       have h7:=hc.len
       have h8:=hm.rest
       generalize Go.Proofs.YtagklnaaoclmhaaGreatDoor.mu s X.1.sc 41=m at *
       have d9:A.sc.bad<0:=hb.good p1
       have OH:=hc.pot p1
       have qbr:=hc.pot'
       have hr:=lv (s:=s) (g:=A.sc) (g':=ez g) hi d9 (fun _=>by simp[ez];omega)
       have hsh:rest s (oS m)=rest s m:=rfl
       simp only[ez,oS,Pt]at *
       exact { iv:=hm.iv,ge:=by simp only;omega,op:=by simp only;omega,t:=by simp only;omega,tn:=by simp only;omega,good:=fun _=>d9,same:=fun x=>absurd x (by omega),len:=h7,prog:=fun _=>by simp only;omega,pot:=fun _=>by simp only[Pt];omega,pot':=by simp only[Pt];omega }
     ·have hf:=hb.trans (Fs.wr hb.iv)
      have:=ii g
      exact Fc.one _ hf (fun x=>absurd x (by omega)) hi (by rw[rV];omega) (by rw[rV];omega)
 ·simp only[if_true]
  obtain⟨w1,w2,w3⟩:=gN hb.iv
  exact Fc.one _ (hb.trans w1) (fun x=>by have:=w3 x;have:=hb.ge;omega) hi (by rw[w2];omega) (by rw[w2];omega)
theorem gX {s:ByteArray}{g:Sc}(h:Iv s g):Fs s g (bn s g)/\(bn s g).t=g.t/\(0<cY s g->g.bad<0/\g.at_<(bn s g).at_/\(bn s g).bad<0):=by
 unfold bn cY
 cases h1:il s g 38
 ·simp only[Bool.false_eq_true,if_false]
  have f1:=Fs.sg h 38
  have f2:=Fs.sg f1.iv 33
  refine⟨f1.trans f2,by rw[nU,nU],?_⟩
  cases h2:il s (sg s g 38) 33
  ·simp
  ·intro _
   obtain⟨p1,p2⟩:=kF h2
   rw[eJ]at p1
   refine⟨p1,?_,by rw[eJ,eJ];exact p1⟩
   have:=f1.ge
   have:=jK s (sg s g 38)
   rw[show sg s (sg s g 38) 33=bM (bl s (sg s g 38)) by rw[sg.eq_1 s (sg s g 38),h2];rfl,bZ]
   omega
 ·simp only[if_true]
  obtain⟨p1,p2⟩:=kF h1
  refine⟨Fs.sg h 38,nU s g 38,fun _=>⟨p1,?_,by rw[eJ];exact p1⟩⟩
  have:=jK s g
  rw[show sg s g 38=bM (bl s g) by rw[sg.eq_1,h1];rfl,bZ]
  omega
theorem Dw {c:Nat}(h:bm c > 0):0<c:=by
 rcases Nat.eq_zero_or_pos c with rfl | hc
 ·exact absurd h (by decide)
 ·exact hc
theorem Fc.sc {s:ByteArray}{A B:St}{k j:Nat}(h:Fc s A B k j){g:Sc}(hf:Fs s B.sc g)(ht:g.t=B.sc.t):Fc s A { B with sc:=g } k j where
 iv:=hf.iv
 ge:=Nat.le_trans h.ge hf.ge
 op:=hf.op.trans h.op
 t:=by rw[show ({ B with sc:=g }:St).sc.t=g.t from rfl,ht];exact h.t
 tn:=by have:=h.tn;simp only;omega
 good:=fun x=>h.good (hf.good x)
 same:=fun x=>by have e:=h.same x;simp only;rw[hf.same (by rw[e];exact x),e]
 len:=h.len
 prog:=fun x=>Nat.lt_of_lt_of_le (h.prog (hf.good x)) hf.ge
 pot:=fun x=>by have:=h.pot x;have:=hf.rest;simp only[Pt]at *;omega
 pot':=by have:=h.pot';have:=hf.rest;simp only[Pt]at *;omega
theorem Fc.node {s:ByteArray}{A B:St}{k j:Nat}(h:Fc s A B (k+1) j)(N:Nd):Fc s A (aP B N).1 k (j+1) where
 iv:=h.iv
 ge:=h.ge
 op:=h.op
 t:=h.t
 tn:=by have:=h.tn;simp[aP];omega
 good:=h.good
 same:=h.same
 len:=by have:=h.len;simp[aP];omega
 prog:=h.prog
 pot:=fun x=>by have:=h.pot x;simp[Pt,aP]at *;omega
 pot':=by have:=h.pot';simp[Pt,aP]at *;omega
theorem nk {s:ByteArray}{ch:St->St × Nat}{d:Nat}(dH:d=0\/eN s ch (d-1)){A:St}(hi:Iv s A.sc)(hd:5<=A.sc.op+d):Fc s A (bP s ch A).1 6 1:=by
 obtain⟨f0,t0,k0⟩:=gX hi
 have hp:=nA dH (A:={ A with sc:=bn s A.sc }) f0.iv (by have:=f0.op;simp only;omega)
 unfold bP
 generalize aR s ch { A with sc:=bn s A.sc }=X at *
 generalize bn s A.sc=g at *
 generalize cY s A.sc=k at *
 have hr:Fc s { A with sc:=g } (cG s X).1 6 1:=by
  unfold cG
  have hb:=Fs.bl hp.iv
  have ni:=jR s X.1.sc
  split
  ·next hk=>
   obtain⟨p1,p2,p3⟩:=cT (Dw hk)
   have d9:=hb.good p1
   have OH:=hp.pot'
   have qbs:=hp.pot
   have bj:=lv (s:=s) (g:=X.1.sc) (g':=bM (bl s X.1.sc)) hp.iv d9 (fun _=>by rw[bZ];have:=hb.ge;omega)
   have zJ:=hb.ge
   have h1:=hp.ge
   have h2:=hp.tn
   have h3:=hp.t
   have h4:=hp.op
   have h5:=hb.op
   have h6:=hp.len
   have h7:=hp.prog d9
   have h8:=hp.good d9
   have ZE:=hb.iv.adv p2
   generalize bl s X.1.sc=y at *
   dsimp only[aP,bZ,wO,tP,Pt]at *
   refine⟨ZE,?_,?_,?_,?_,fun _=>h8,fun x=>absurd h8 (by dsimp only at x;omega),?_,fun _=>?_,fun x=>?_,?_⟩ <;> dsimp only[aP,bZ,wO,tP,Pt] <;> (try simp only[List.length_append,List.length_cons,List.length_nil]) <;> first | omega | (have:=qbs x;omega)
  ·exact hp.sc hb ni
 generalize cG s X=R at *
 have zJ:=f0.ge
 have h1:=hr.ge
 have h2:=hr.tn
 have h3:=hr.t
 have h4:=hr.op
 have h5:=f0.op
 have h6:=hr.len
 have qcg:=f0.rest
 have qbr:=hr.pot'
 have OH:=hr.pot
 have Iz:=hr.prog
 have fK:=hr.good
 have GM:=hr.same
 have ZE:=hr.iv
 have hA:A.sc.bad<0->1<=rest s A.sc:=fun x=>by have:=hi.1 x;unfold rest;rw[if_pos x];omega
 have Xk:¬g.bad<0->rest s g=0:=fun x=>by unfold rest;rw[if_neg x]
 unfold eG
 dsimp only[Pt]at *
 split
 ·next hk=>
  obtain⟨yE,Nb,hg3⟩:=k0 hk
  have qc5:=OH hg3
  have bj:=lv (s:=s) (g:=A.sc) (g':=g) hi yE (fun _=>Nb)
  refine⟨ZE,?_,?_,?_,?_,fun _=>yE,fun x=>absurd yE (by omega),?_,fun _=>?_,fun x=>?_,?_⟩ <;> dsimp only[aP,Pt] <;> (try simp only[List.length_append,List.length_cons,List.length_nil]) <;> omega
 ·refine⟨ZE,?_,?_,?_,?_,fun x=>f0.good (fK x),fun x=>?_,?_,fun x=>?_,fun x=>?_,?_⟩
  ·omega
  ·omega
  ·omega
  ·omega
  ·have e:=f0.same x
   have:=GM (by rw[e];exact x)
   rw[this];exact e
  ·omega
  ·have:=Iz x;omega
  ·dsimp only[Pt]
   by_cases mA:g.bad<0
   ·have:=OH mA;omega
   ·have:=Xk mA;have:=hA x;omega
  ·dsimp only[Pt];omega
theorem FJ {s:ByteArray}{ch:St->St × Nat}{d:Nat}(dH:d=0\/eN s ch (d-1)):∀f acc A,Iv s A.sc->5<=A.sc.op+d->rk s A.sc<f->
  Fc s A (dk s ch f acc A).1 6 1/\(dk s ch f acc A).2.length<=acc.length+rk s A.sc+1
 | 0,acc,A,hi,hd,hr=>absurd hr (by omega)
 | f+1,acc,A,hi,hd,hr=>by
  have hp:=nk dH hi hd
  rw[dk]
  generalize bP s ch A=X at *
  have hb:=Fs.bl hp.iv
  have h1:=hp.sc hb (jR s X.1.sc)
  generalize bl s X.1.sc=g at *
  split
  ·exact⟨h1,by simp <;> omega⟩
  ·next lY=>
   have hm:cV s g=true:=by
    unfold du at lY
    cases h:cV s g
    ·simp[h]at lY
    ·rfl
   have hg:=(cS.1 hm).1
   have hA:A.sc.bad<0:=h1.good hg
   have bj:=kC (g':=g) hi hA (fun x=>h1.prog x)
   have rx:=h1.op
   dsimp only at rx
   obtain⟨q,ql⟩:=FJ dH f (acc++[X.2]) { X.1 with sc:=g } h1.iv (by dsimp only;omega) (by dsimp only;omega)
   generalize dk s ch f (acc++[X.2]) { X.1 with sc:=g }=Y at *
   simp only[List.length_append,List.length_cons,List.length_nil]at ql
   have a1:=h1.ge;have a2:=q.ge;have a3:=q.op;have a4:=h1.t;have a5:=q.t;have a6:=h1.tn;have a7:=q.tn;have a8:=h1.len;have a9:=q.len
   have b1:=h1.pot hA;have b2:=q.pot hg;have b3:=h1.pot';have b4:=q.pot'
   dsimp only at *
   exact⟨⟨q.iv,by omega,by omega,by omega,by omega,fun _=>hA,fun x=>absurd hA (by omega),by omega,fun x=>by have:=q.prog x;dsimp only at this;omega,fun _=>by omega,by omega⟩,by omega⟩
theorem rJ {s:ByteArray}{ch:St->St × Nat}{d:Nat}(dH:d=0\/eN s ch (d-1)){A:St}(hi:Iv s A.sc)(hd:5<=A.sc.op+d):Fc s A (eT s ch A).1 5 2:=
 (FJ dH (s.size+3) [] A hi hd (by have:=fW s A.sc;omega)).1.node _
theorem Em {s:ByteArray}{ch:St->St × Nat}{d:Nat}(dH:d=0\/eN s ch (d-1)):∀f acc A,Iv s A.sc->5<=A.sc.op+d->rk s A.sc<f->
  Fc s A (dD s ch f acc A).1 5 2/\(dD s ch f acc A).2.length<=acc.length+rk s A.sc+1
 | 0,acc,A,hi,hd,hr=>absurd hr (by omega)
 | f+1,acc,A,hi,hd,hr=>by
  have hp:=rJ dH hi hd
  rw[dD]
  generalize eT s ch A=X at *
  have hb:=Fs.sg hp.iv 47
  have h1:=hp.sc hb (nU s X.1.sc 47)
  split
  ·next GK=>
   have hX:=(kF GK).1
   have hg:(sg s X.1.sc 47).bad<0:=by rw[eJ];exact hX
   generalize sg s X.1.sc 47=g at *
   have hA:A.sc.bad<0:=h1.good hg
   have bj:=kC (g':=g) hi hA (fun x=>h1.prog x)
   have rx:=h1.op
   dsimp only at rx
   obtain⟨q,ql⟩:=Em dH f (acc++[X.2]) { X.1 with sc:=g } h1.iv (by dsimp only;omega) (by dsimp only;omega)
   generalize dD s ch f (acc++[X.2]) { X.1 with sc:=g }=Y at *
   simp only[List.length_append,List.length_cons,List.length_nil]at ql
   have a1:=h1.ge;have a2:=q.ge;have a3:=q.op;have a4:=h1.t;have a5:=q.t;have a6:=h1.tn;have a7:=q.tn;have a8:=h1.len;have a9:=q.len
   have b1:=h1.pot hA;have b2:=q.pot hg;have b3:=h1.pot';have b4:=q.pot'
   dsimp only at *
   exact⟨⟨q.iv,by omega,by omega,by omega,by omega,fun _=>hA,fun x=>absurd hA (by omega),by omega,fun x=>by have:=q.prog x;dsimp only at this;omega,fun _=>by omega,by omega⟩,by omega⟩
  ·exact⟨h1,by simp <;> omega⟩
theorem Jq {s:ByteArray}{ch:St->St × Nat}{d:Nat}(dH:d=0\/eN s ch (d-1)){A:St}(hi:Iv s A.sc)(hd:5<=A.sc.op+d):Fc s A (jU s ch A).1 4 3:=
 (Em dH (s.size+3) [] A hi hd (by have:=fW s A.sc;omega)).1.node _
theorem eH (s:ByteArray):∀d,eN s (dw s (d+1)) d
 | 0=>fun A hi hd=>Jq (d:=0) (Or.inl rfl) hi hd
 | d+1=>fun A hi hd=>Jq (d:=d+1) (Or.inr (eH s d)) hi hd
def ee (n:Nat):Value:=.int .i64 (n:Int)
def wB (l:List (Nat × Nat))(i:Nat):Bool:=l.any (fun r=>decide (r.1<=i)&&decide (i<=r.2))
theorem MO (a b x:Value)(r:List Value)(n i:Nat)(h:i<n):(a :: b :: (List.replicate n x++r)).toArray[2+i]?=some x:=by
 rw[List.getElem?_toArray,Nat.add_comm,List.getElem?_cons_succ,List.getElem?_cons_succ,List.getElem?_append_left (by simpa using h)]
 rw[List.getElem?_replicate,if_pos h]
theorem MP (a b x p q r t:Value)(n:Nat)(ha:a.oneCell'=true)(hb:b.oneCell'=true)(hx:x.oneCell'=true)(hp:p.oneCell'=true)(hq:q.oneCell'=true)(hr:r.oneCell'=true)(ht:t.oneCell'=true):
  ∀u∈(a :: b :: (List.replicate n x++[p,q,r,t])),u.oneCell'=true:=by
 intro u hu
 simp only[List.mem_cons,List.mem_append,List.mem_replicate,List.not_mem_nil,or_false]at hu
 rcases hu with h | h | h | h | h | h | h
 ·rw[h];exact ha
 ·rw[h];exact hb
 ·rw[h.2];exact hx
 ·rw[h];exact hp
 ·rw[h];exact hq
 ·rw[h];exact hr
 ·rw[h];exact ht
theorem lp {c:Array Value}(h:∀u∈c.toList,u.oneCell'=true){i:Nat}{x:Value}(hx:x.oneCell'=true):∀u∈(c.setIfInBounds i x).toList,u.oneCell'=true:=by
 intro u hu
 rw[Array.toList_setIfInBounds]at hu
 rcases List.mem_or_eq_of_mem_set hu with h' | h'
 ·exact h u h'
 ·rw[h'];exact hx
theorem cM {c:Array Value}(h:∀u∈c.toList,u.oneCell'=true):kB c=true:=by
 unfold kB
 exact Array.all_eq_true_iff_forall_mem.2 (fun v hv=>h v (by simpa using hv))
theorem xD (c:Array Value)(a j:Nat):∀n,(2+(a+n)<=c.size)->(fC c a n)[j]?=if 2+a<=j/\j<2+(a+n) then some (.bool true) else c[j]?
 | 0,h=>by rw[fC,if_neg (by omega)]
 | n+1,h=>by
  rw[fC,Array.getElem?_setIfInBounds,xD c a j n (by omega),fD]
  by_cases hj:2+(a+n)=j
  ·rw[if_pos hj,if_pos (by omega),if_pos (by omega)]
  ·rw[if_neg hj]
   by_cases hr:2+a<=j/\j<2+(a+n)
   ·rw[if_pos hr,if_pos (by omega)]
   ·rw[if_neg hr,if_neg (by omega)]
theorem Bq {c:Array Value}(h:∀u∈c.toList,u.oneCell'=true)(a:Nat):∀n,∀u∈(fC c a n).toList,u.oneCell'=true
 | 0=>h
 | n+1=>lp (Bq h a n) rfl
structure dN (H b:Nat)(nv fG:Value)(U U':Nat->Prop)(w w':World):Prop where
 kept:aa (fun k=>k=b\/nv.ownBlock=some k) w w'
 new:∀k,fG.ownBlock=some k->nv.ownBlock=some k\/H<=k
 sub:∀k,U' k->U k\/H<=k
theorem dN.low {H H' b:Nat}{n0 n1:Value}{U0 U1:Nat->Prop}{w0 w1:World}(h:dN H' b n0 n1 U0 U1 w0 w1)(hh:H<=H'):dN H b n0 n1 U0 U1 w0 w1:=
 ⟨h.kept,fun k x=>(h.new k x).imp id (fun y=>Nat.le_trans hh y),fun k x=>(h.sub k x).imp id (fun y=>Nat.le_trans hh y)⟩
theorem dN.join {H b:Nat}{n0 n1 n2:Value}{U0 U1 U2:Nat->Prop}{w0 w1 w2:World}(hH:w0.heap.size<=H)(h:dN H b n0 n1 U0 U1 w0 w1)(k:dN H b n1 n2 U1 U2 w1 w2):dN H b n0 n2 U0 U2 w0 w2 where
 kept:=⟨k.kept.os.trans h.kept.os,k.kept.tape.trans h.kept.tape,k.kept.output.trans h.kept.output,Nat.le_trans h.kept.size k.kept.size,fun i hi hs=>by
  rw[k.kept.block i (Nat.lt_of_lt_of_le hi h.kept.size) (by
   rintro(h1 | h1)
   ·exact hs (Or.inl h1)
   ·rcases h.new i h1 with h2 | h2
    ·exact hs (Or.inr h2)
    ·omega)]
  exact h.kept.block i hi hs⟩
 new:=fun i hi=>by
  rcases k.new i hi with h1 | h1
  ·exact h.new i h1
  ·exact Or.inr h1
 sub:=fun i hi=>by
  rcases k.sub i hi with h1 | h1
  ·exact h.sub i h1
  ·exact Or.inr h1
theorem dN.trans {b:Nat}{n0 n1 n2:Value}{U0 U1 U2:Nat->Prop}{w0 w1 w2:World}(h:dN w0.heap.size b n0 n1 U0 U1 w0 w1)(k:dN w1.heap.size b n1 n2 U1 U2 w1 w2):dN w0.heap.size b n0 n2 U0 U2 w0 w2:=
 h.join (Nat.le_refl _) (k.low h.kept.size)
theorem dN.only {b:Nat}{nv:Value}{U:Nat->Prop}{w w':World}(h:aa (·=b) w w'){H:Nat}:dN H b nv nv U U w w':=⟨h.mono (fun _ _ x=>Or.inl x),fun _ x=>Or.inl x,fun _ x=>Or.inl x⟩
theorem az {S:Nat->Prop}{w w':World}{base e size n:Nat}{v:Value}{xs:List Value}(h:w.ownsRow base e size v n xs)(hk:aa S w w')(hs:∀k,v.ownBlock=some k->¬S k):w'.ownsRow base e size v n xs:=by
 obtain⟨h1,h2⟩:=h
 refine⟨h1,?_⟩
 rcases h2 with h2 | ⟨g,cap,gz,hv,hg,hh,r⟩
 ·exact Or.inl h2
 ·refine Or.inr ⟨g,cap,gz,hv,hg,?_,r⟩
  have bj:g<w.heap.size:=ag (show ai w g=_ from hh)
  rw[hk.block g bj (hs g (by rw[hv];rfl))];exact hh
theorem ak {w:World}{base e size n k:Nat}{v:Value}{xs:List Value}(h:w.ownsRow base e size v n xs)(hk:v.ownBlock=some k):∃c,ai w k=some (.cells c e (0,0)):=by
 rcases h.2 with⟨h2,_⟩ | ⟨g,cap,gz,hv,hg,hh,r⟩
 ·rw[h2]at hk;cases hk
 ·rw[hv]at hk
  simp only[Value.ownBlock,Option.some.injEq]at hk
  subst hk
  exact⟨gz,hh⟩
theorem Pb {w:World}{base:Nat}(h:base<=w.heap.size)(n:Nat):(w.alloc (.cells #[.int .i64 (n:Int)] 3)).ownsRow base 3 1 (.slice (some ⟨w.heap.size,0,none⟩) 1 1) 1 [ee n]:=
 World.ownsRow_lit w #[.int .i64 (n:Int)] 1 h (by decide) rfl
theorem aa.then {S T:Nat->Prop}{a b c:World}(h:aa S a b)(k:aa T b c)(hs:∀i,i<a.heap.size->T i->S i):aa S a c:=
 ⟨k.os.trans h.os,k.tape.trans h.tape,k.output.trans h.output,Nat.le_trans h.size k.size,fun i hi hn=>(k.block i (Nat.lt_of_lt_of_le hi h.size) (fun x=>hn (hs i hi x))).trans (h.block i hi hn)⟩
theorem BH {s:ByteArray}:∀f sd g,Iv s g->∀r∈(ef s f sd g).1,r.1<256/\r.2<256
 | 0,_,g,h=>by simp[ef]
 | f+1,sd,g,h=>by
  rw[ef];split
  ·obtain⟨i1,i2,i3,i4,i5,i6,i7⟩:=jy h
   intro r hr
   rcases List.mem_cons.1 hr with e | e
   ·rw[e];exact⟨i3,i4⟩
   ·exact BH f false _ i1 r e
  ·simp
structure Ok (s:ByteArray)(A:St):Prop where
 iv:Iv s A.sc
 t:A.sc.t<=A.ns.length
 pt:Pt s A<=3000
 op:A.sc.op<=5
 size:s.size<=400
theorem Ok.at_ {s:ByteArray}{A:St}(h:Ok s A):A.sc.at_<=401:=by have:=h.iv.2;have:=h.size;omega
theorem Ok.len {s:ByteArray}{A:St}(h:Ok s A):A.ns.length<=3000:=by have:=h.pt;unfold Pt at this;omega
theorem aa.drop {b kb:Nat}{w W:World}(h:aa (fun k=>k=b\/k=kb) w W)(hk:w.heap.size<=kb):aa (·=b) w W:=
 ⟨h.os,h.tape,h.output,h.size,fun k fU hn=>h.block k fU (by
  rintro(e | e)
  ·exact hn e
  ·omega)⟩
theorem Ok.sc {s:ByteArray}{A:St}(h:Ok s A){g:Sc}(hf:Fs s A.sc g)(ht:g.t=A.sc.t):Ok s { A with sc:=g }:=by
 refine⟨hf.iv,by dsimp only;rw[ht];exact h.t,?_,by dsimp only;rw[hf.op];exact h.op,h.size⟩
 have:=h.pt;have:=hf.rest;unfold Pt at *;dsimp only;omega
theorem Ok.next {s:ByteArray}{A B:St}{k j:Nat}(h:Ok s A)(f:Fc s A B k j)(hb:B.sc.bad<0)(hk:3<=k):Ok s B:=by
 have h1:=f.pot (f.good hb)
 have h2:=h.pt
 have h3:=f.tn
 have h4:=h.t
 have h5:=f.op
 have h6:=h.op
 exact⟨f.iv,by omega,by omega,by omega,h.size⟩
structure Rl where
 name:List UInt8
 at_:Nat
 is:Nat
def de (s:ByteArray)(X:St):St × Rl:=
 ({ (dw s 6 { X with sc:=mu s (bz s X.sc).2 61 }).1 with sc:=mu s (dw s 6 { X with sc:=mu s (bz s X.sc).2 61 }).1.sc 10 },
  ⟨(bz s X.sc).1,(bz s X.sc).2.at_-(bz s X.sc).1.length,(dw s 6 { X with sc:=mu s (bz s X.sc).2 61 }).2⟩)
def cX (s:ByteArray):Nat->St->List Rl->St × List Rl
 | 0,X,rs=>(X,rs)
 | f+1,X,rs=>
  if X.sc.bad<0/\(X.sc.at_<s.size\/rs.length=0) then
   if rs.length=8 then ({ X with sc:=wr X.sc },rs) else cX s f (de s X).1 (rs++[(de s X).2])
  else (X,rs)
def aq (s:ByteArray):St × List Rl:=cX s 10 ⟨⟨0,-1,0,0⟩,[]⟩ []
def f9 (r:Rl):List Value:=[.string (ba r.name),.int .i64 (r.at_:Int),.int .i64 (r.is:Int)]
theorem MG {s:ByteArray}:∀f acc g,(wd s f acc g).1.length+g.at_<=acc.length+(wd s f acc g).2.at_
 | 0,acc,g=>by simp[wd]
 | f+1,acc,g=>by
  rw[wd]
  cases hl:bL (pk s g:Int)
  ·simp only[Bool.false_eq_true,if_false]
   split
   ·rw[eS];omega
   ·omega
  ·simp only[if_true]
   split
   ·simp only;rw[eS];omega
   ·have:=MG (s:=s) f (acc++[(pk s g).toUInt8]) (bM g)
    simp only[List.length_append,List.length_cons,List.length_nil,bZ]at this
    omega
theorem vr (s:ByteArray)(g:Sc):(bz s g).1.length<=(bz s g).2.at_:=by
 have:=MG (s:=s) 10 [] (bl s g)
 unfold bz
 simp only[List.length_nil]at this
 omega
theorem FU {s:ByteArray}:∀f acc g,acc.length<=8->(wd s f acc g).1.length<=8
 | 0,acc,g,h=>h
 | f+1,acc,g,h=>by
  rw[wd]
  split
  ·split
   ·exact h
   ·exact FU f _ _ (by simp;omega)
  ·exact h
theorem jQ {s:ByteArray}{X:St}(h:Ok s X)(ho:X.sc.op=0)(hb:X.sc.bad<0):
  Ok s { X with sc:=mu s (bz s X.sc).2 61 }/\(de s X).1.sc.op=0/\Ok s (de s X).1/\(mu s (bz s X.sc).2 61).op=0/\(dw s 6 { X with sc:=mu s (bz s X.sc).2 61 }).1.ns.length<=4000:=by
 obtain⟨w1,w2,w3⟩:=gN h.iv
 have m1:=Fs.mu w1.iv 61
 have f1:=w1.trans m1
 have t1:(mu s (bz s X.sc).2 61).t=X.sc.t:=by rw[Hd,w2]
 have iJ:=h.sc f1 t1
 have rx:(mu s (bz s X.sc).2 61).op=0:=by rw[f1.op,ho]
 have bj:rest s (mu s (bz s X.sc).2 61)+1<=rest s X.sc:=by
  refine lv h.iv hb (fun x=>?_)
  have:=w3 (m1.good x)
  have:=m1.ge
  omega
 unfold de
 generalize mu s (bz s X.sc).2 61=g at *
 have hc:=eH s 5 { X with sc:=g } iJ.iv (by dsimp only;omega)
 generalize dw s (5+1) { X with sc:=g }=Y at *
 change _/\(mu s Y.1.sc 10).op=0/\Ok s { Y.1 with sc:=mu s Y.1.sc 10 }/\g.op=0/\Y.1.ns.length<=4000
 have m2:=Fs.mu hc.iv 10
 have t2:=Hd s Y.1.sc 10
 have a1:=hc.op
 have a2:=hc.tn
 have a3:=hc.pot'
 have a4:=h.pt
 have a5:=h.t
 have a6:=m2.rest
 have a7:=m2.op
 unfold Pt at a3 a4
 dsimp only at *
 refine⟨iJ,by omega,⟨m2.iv,by dsimp only;omega,by unfold Pt;dsimp only;omega,by dsimp only;omega,h.size⟩,rx,by omega⟩
theorem an {w:World}{base e size n:Nat}{v:Value}{xs:List Value}(h:w.ownsRow base e size v n xs):∃p cap,v=.slice p n cap:=by
 rcases h.2 with⟨h1,h2⟩ | ⟨g,cap,gz,hv,_⟩
 ·exact⟨none,0,by rw[h1,h2]⟩
 ·exact⟨_,_,hv⟩
def dg (rs:List Rl)(nm:List UInt8):Option Nat:=rs.findIdx? (fun r=>r.name == nm)
def j9 (rs:List Rl)(nm:List UInt8):Int:=match dg rs nm with | some i=>(i:Int) | none=>-1
theorem xd {rs:List Rl}{nm:List UInt8}{k:Nat}(h:k<rs.length)(hk:rs[k].name=nm)(hj:∀j (h:j<rs.length),j<k->rs[j].name≠nm):dg rs nm=some k:=by
 unfold dg
 rw[List.findIdx?_eq_some_iff_getElem]
 exact⟨h,by simp[hk],fun j hjk=>by simpa using hj j (by omega) hjk⟩
theorem xc {rs:List Rl}{nm:List UInt8}(hj:∀j (h:j<rs.length),rs[j].name≠nm):dg rs nm=none:=by
 unfold dg
 rw[List.findIdx?_eq_none_iff]
 intro x hx
 obtain⟨i,hi,rfl⟩:=List.getElem_of_mem hx
 simpa using hj i hi
theorem kY {rs:List Rl}{nm:List UInt8}{k:Nat}(h:dg rs nm=some k):k<rs.length:=by
 unfold dg at h
 rw[List.findIdx?_eq_some_iff_getElem]at h
 exact h.1
theorem ep {α:Type}(f:α->List Value)(m:Nat)(hf:∀a,(f a).length=m):∀(l:List α) (k j:Nat),j<m->(hk:k<l.length)->(l.flatMap f)[k*m+j]?=(f l[k])[j]?
 | [],k,j,_,hk=>absurd hk (by simp)
 | a :: l,0,j,hj,hk=>by
  rw[List.flatMap_cons,Nat.zero_mul,Nat.zero_add,List.getElem?_append_left (by rw[hf];exact hj)]
  rfl
 | a :: l,k+1,j,hj,hk=>by
  rw[List.flatMap_cons,List.getElem?_append_right (by rw[hf,Nat.add_mul];omega),hf,show (k+1)*m+j-m=k*m+j by rw[Nat.add_mul];omega]
  rw[ep f m hf l k j hj (by simpa using hk)]
  rfl
theorem xa {α:Type}(f:α->List Value)(m:Nat):∀(l:List α),(∀a∈l,(f a).length=m)->∀(k j:Nat),j<m->(hk:k<l.length)->(l.flatMap f)[k*m+j]?=(f l[k])[j]?
 | [],_,k,j,_,hk=>absurd hk (by simp)
 | a :: l,hf,0,j,hj,hk=>by
  rw[List.flatMap_cons,Nat.zero_mul,Nat.zero_add,List.getElem?_append_left (by rw[hf a (by simp)];exact hj)]
  rfl
 | a :: l,hf,k+1,j,hj,hk=>by
  rw[List.flatMap_cons,List.getElem?_append_right (by rw[hf a (by simp),Nat.add_mul];omega),hf a (by simp),show (k+1)*m+j-m=k*m+j by rw[Nat.add_mul];omega]
  rw[xa f m l (fun x hx=>hf x (by simp[hx])) k j hj (by simpa using hk)]
  rfl
def lo (a:Int)(x:Nat):Int:=if a<0\/(x:Int)<a then (x:Int) else a
def kz (rs:List Rl):Nat->Int
 | 0=>-1
 | k+1=>if j9 rs ((rs.map Rl.name).getD k [])<k then lo (kz rs k) ((rs.map Rl.at_).getD k 0) else kz rs k
def iT (rs:List Rl)(ns:List Nd):Nat->Int
 | 0=>kz rs rs.length
 | k+1=>if (ns.map Nd.kind).getD k 0=3/\j9 rs ((ns.map Nd.name).getD k [])<0 then lo (iT rs ns k) ((ns.map Nd.at_).getD k 0) else iT rs ns k
def uN (rs:List Rl)(ns:List Nd):Int:=iT rs ns ns.length
theorem bQ {α β:Type}(f:α->β)(l:List α)(k:Nat)(d:β)(h:k<l.length):(l.map f).getD k d=f l[k]:=by
 simp[List.getD,List.getElem?_eq_getElem h]
structure sD (n:Nat)(N:Nd):Prop where
 low:∀j∈N.subs,j<n
 one:6<=N.kind->∃x,N.subs=[x]
 kind:N.kind<=10
def Wf (ns:List Nd):Prop:=∀(i:Nat) (N:Nd),ns[i]?=some N->sD i N
theorem Wf.nil:Wf []:=fun i N h=>by simp at h
theorem Wf.push {ns:List Nd}(h:Wf ns){N:Nd}(hN:sD ns.length N):Wf (ns++[N]):=by
 intro i M hM
 by_cases hi:i<ns.length
 ·rw[List.getElem?_append_left hi]at hM;exact h i M hM
 ·rw[List.getElem?_append_right (by omega)]at hM
  have h0:i-ns.length=0:=by
   rcases Nat.eq_zero_or_pos (i-ns.length) with h0 | h0
   ·exact h0
   ·rw[List.getElem?_eq_none (by simp;omega)]at hM;cases hM
  rw[h0]at hM
  simp at hM
  subst hM
  rw[show i=ns.length by omega]
  exact hN
structure Ww (A:St)(X:St × Nat):Prop where
 wf:Wf X.1.ns
 lt:X.2<X.1.ns.length
 le:A.ns.length<=X.1.ns.length
theorem Ww.add {A:St}(h:Wf A.ns){N:Nd}(hN:sD A.ns.length N):Ww A (aP A N):=⟨h.push hN,by simp[aP],by simp[aP]⟩
theorem mQ {n:Nat}{N:Nd}(h:N.subs=[])(hk:N.kind<=5):sD n N:=⟨by rw[h];simp,fun x=>absurd x (by omega),by omega⟩
theorem Ww.plain {A:St}(g:Sc)(h:Wf A.ns)(N:Nd)(h1:N.subs=[])(h2:N.kind<=5):Ww A (aP { A with sc:=g } N):=⟨h.push (mQ h1 h2),by simp[aP],by simp[aP]⟩
def fR (ch:St->St × Nat):Prop:=∀A,Wf A.ns->Ww A (ch A)
theorem DG {s:ByteArray}{ch:St->St × Nat}(dH:fR ch):fR (aR s ch):=by
 intro A h
 unfold aR
 split
 ·exact Ww.plain _ h _ rfl (by first | decide | (dsimp only;omega))
 ·split
  ·exact Ww.plain _ h _ rfl (by first | decide | (dsimp only;omega))
  ·split
   ·exact Ww.plain _ h _ rfl (by first | decide | (dsimp only;omega))
   ·split
    ·exact Ww.plain _ h _ rfl (by first | decide | (dsimp only;omega))
    ·split
     ·have:=dH { A with sc:=ez (bl s A.sc) } h
      exact⟨this.wf,this.lt,this.le⟩
     ·exact Ww.plain _ h _ rfl (by first | decide | (dsimp only;omega))
theorem mR {n k x:Nat}(hx:x<n)(hk:k<=10):sD n { cj with kind:=k,subs:=[x] }:=
 ⟨by intro j hj;simp at hj;omega,fun _=>⟨x,rfl⟩,hk⟩
theorem Ld {s:ByteArray}{ch:St->St × Nat}(dH:fR ch):fR (bP s ch):=by
 intro A h
 have hp:=DG (s:=s) dH { A with sc:=bn s A.sc } h
 unfold bP
 generalize aR s ch { A with sc:=bn s A.sc }=X at *
 have hr:Ww A (cG s X):=by
  unfold cG
  split
  ·next hk=>
   have gf:bm (pk s (bl s X.1.sc))<=10:=by unfold bm;(repeat' split) <;> omega
   have:=Ww.add (A:={ X.1 with sc:=bM (bl s X.1.sc) }) hp.wf (mR hp.lt gf)
   have nj:=hp.le
   have SF:=this.le
   exact⟨this.wf,this.lt,Nat.le_trans nj SF⟩
  ·exact⟨hp.wf,hp.lt,hp.le⟩
 generalize cG s X=R at *
 unfold eG
 split
 ·next hk=>
  have gf:cY s A.sc<=10:=by unfold cY;(repeat' split) <;> omega
  have:=Ww.add (A:=R.1) hr.wf (mR hr.lt gf)
  exact⟨this.wf,this.lt,Nat.le_trans hr.le this.le⟩
 ·exact hr
theorem zp {s:ByteArray}{ch:St->St × Nat}(dH:fR ch):∀f acc A,Wf A.ns->(∀j∈acc,j<A.ns.length)->Wf (dk s ch f acc A).1.ns/\(∀j∈(dk s ch f acc A).2,j<(dk s ch f acc A).1.ns.length)/\A.ns.length<=(dk s ch f acc A).1.ns.length
 | 0,acc,A,h,ha=>⟨h,ha,Nat.le_refl _⟩
 | f+1,acc,A,h,ha=>by
  have hp:=Ld (s:=s) dH A h
  rw[dk]
  generalize bP s ch A=X at *
  have hj:∀j∈acc++[X.2],j<X.1.ns.length:=by
   intro j hj
   rcases List.mem_append.1 hj with h1 | h1
   ·have:=ha j h1;have:=hp.le;omega
   ·simp at h1;rw[h1];exact hp.lt
  split
  ·exact⟨hp.wf,hj,hp.le⟩
  ·obtain⟨q1,q2,q3⟩:=zp dH f (acc++[X.2]) { X.1 with sc:=bl s X.1.sc } hp.wf hj
   exact⟨q1,q2,Nat.le_trans hp.le q3⟩
theorem YO {s:ByteArray}{ch:St->St × Nat}(dH:fR ch):fR (eT s ch):=by
 intro A h
 obtain⟨q1,q2,q3⟩:=zp (s:=s) dH (s.size+3) [] A h (by simp)
 have:=Ww.add (A:=(dk s ch (s.size+3) [] A).1) q1 (N:={ cj with kind:=5,subs:=(dk s ch (s.size+3) [] A).2 }) ⟨q2,fun x=>absurd x (by simp),by simp⟩
 exact⟨this.wf,this.lt,Nat.le_trans q3 this.le⟩
theorem ym {s:ByteArray}{ch:St->St × Nat}(dH:fR ch):∀f acc A,Wf A.ns->(∀j∈acc,j<A.ns.length)->Wf (dD s ch f acc A).1.ns/\(∀j∈(dD s ch f acc A).2,j<(dD s ch f acc A).1.ns.length)/\A.ns.length<=(dD s ch f acc A).1.ns.length
 | 0,acc,A,h,ha=>⟨h,ha,Nat.le_refl _⟩
 | f+1,acc,A,h,ha=>by
  have hp:=YO (s:=s) dH A h
  rw[dD]
  generalize eT s ch A=X at *
  have hj:∀j∈acc++[X.2],j<X.1.ns.length:=by
   intro j hj
   rcases List.mem_append.1 hj with h1 | h1
   ·have:=ha j h1;have:=hp.le;omega
   ·simp at h1;rw[h1];exact hp.lt
  split
  ·obtain⟨q1,q2,q3⟩:=ym dH f (acc++[X.2]) { X.1 with sc:=sg s X.1.sc 47 } hp.wf hj
   exact⟨q1,q2,Nat.le_trans hp.le q3⟩
  ·exact⟨hp.wf,hj,hp.le⟩
theorem Wg {s:ByteArray}{ch:St->St × Nat}(dH:fR ch):fR (jU s ch):=by
 intro A h
 obtain⟨q1,q2,q3⟩:=ym (s:=s) dH (s.size+3) [] A h (by simp)
 have:=Ww.add (A:=(dD s ch (s.size+3) [] A).1) q1 (N:={ cj with kind:=4,subs:=(dD s ch (s.size+3) [] A).2 }) ⟨q2,fun x=>absurd x (by simp),by simp⟩
 exact⟨this.wf,this.lt,Nat.le_trans q3 this.le⟩
theorem qV (s:ByteArray):∀d,fR (dw s d)
 | 0=>fun A h=>Ww.plain A.sc h cj rfl (by decide)
 | d+1=>Wg (qV s d)
structure lK (ns:List Nd)(rs:List Rl):Prop where
 wf:Wf ns
 is:∀r∈rs,r.is<ns.length
 len:rs.length<=8
theorem DT {s:ByteArray}{X:St}{rs:List Rl}(h:lK X.ns rs)(h8:rs.length≠8):lK (de s X).1.ns (rs++[(de s X).2]):=by
 have hc:=qV s 6 { X with sc:=mu s (bz s X.sc).2 61 } h.wf
 unfold de
 generalize dw s 6 { X with sc:=mu s (bz s X.sc).2 61 }=Y at *
 have nj:=hc.le
 have hl:=h.len
 refine⟨hc.wf,fun r hr=>?_,by simp;omega⟩
 rcases List.mem_append.1 hr with h1 | h1
 ·have:=h.is r h1;dsimp only at *;omega
 ·simp at h1;rw[h1];exact hc.lt
theorem FE {s:ByteArray}:∀f X rs,lK X.ns rs->lK (cX s f X rs).1.ns (cX s f X rs).2
 | 0,X,rs,h=>h
 | f+1,X,rs,h=>by
  rw[cX]
  split
  ·split
   ·exact h
   ·next h8=>exact FE f _ _ (DT h h8)
  ·exact h
theorem rH (s:ByteArray):lK (aq s).1.ns (aq s).2:=FE 10 _ _ ⟨Wf.nil,by simp,by simp⟩
def aA (w:World)(eb:Nat)(L:List Bool):Prop:=ai w eb=some (.cells (L.map Value.bool).toArray 4 (0,0))
theorem aA.cell {w:World}{eb:Nat}{L:List Bool}(h:aA w eb L){i:Nat}(hi:i<L.length):w.cell? ⟨eb,i,none⟩=some (.bool (L.getD i false)):=by
 rw[al h]
 simp[hi,List.getD]
theorem aA.frozen {w:World}{eb:Nat}{L:List Bool}(h:aA w eb L)(i:Nat):w.frozen? ⟨eb,i,none⟩=false:=bh h
theorem aA.set {w:World}{eb:Nat}{L:List Bool}(h:aA w eb L)(i:Nat)(v:Bool):aA (w.setCell ⟨eb,i,none⟩ (.bool v)) eb (L.set i v):=by
 unfold aA
 rw[gw h]
 simp[List.map_set]
theorem aA.kept {S:Nat->Prop}{w w':World}{eb:Nat}{L:List Bool}(h:aA w eb L)(hk:aa S w w')(hs:¬S eb):aA w' eb L:=bI h hk hs
theorem cD {w:World}{base:Nat}{v:Value}{l:List Nat}(h:w.ownsRow base 3 1 v l.length (l.map ee)){k:Nat}(hk:k<l.length):
  ∃sb cap,v=.slice (some ⟨sb,0,none⟩) l.length cap/\w.cell? ⟨sb,k,none⟩=some (.int .i64 ((l.getD k 0:Nat):Int)):=by
 obtain⟨sb,cap,hv,_,_⟩:=h.form (by omega)
 subst hv
 refine⟨sb,cap,rfl,?_⟩
 rw[h.cellAt k (by omega)]
 simp[ee,hk,List.getD]
def vy (rs:List Rl)(N:Nd)(L:List Bool)(old:Bool):Bool:=
 if N.kind=0 then N.text.isEmpty
 else if N.kind=3 then L.getD ((rs.map Rl.is).getD ((dg rs N.name).getD 0) 0) false
 else if N.kind=6\/N.kind=7\/N.kind=9\/N.kind=10 then true
 else if N.kind=8 then L.getD (N.subs.getD 0 0) false
 else if N.kind=4 then old||N.subs.any (fun j=>L.getD j false)
 else if N.kind=5 then N.subs.all (fun j=>L.getD j false)
 else old
def ap (ns:List Nd)(k:Nat):Nd:=ns.getD k cj
def rS (rs:List Rl)(ns:List Nd):Nat->List Bool->List Bool
 | 0,L=>L
 | k+1,L=>(rS rs ns k L).set k (vy rs (ap ns k) (rS rs ns k L) ((rS rs ns k L).getD k false))
def emp (rs:List Rl)(ns:List Nd):Nat->List Bool
 | 0=>List.replicate ns.length false
 | r+1=>rS rs ns ns.length (emp rs ns r)
def ir (rs:List Rl)(ns:List Nd):List Bool:=emp rs ns (ns.length+1)
theorem lx (rs:List Rl)(ns:List Nd):∀k L,(rS rs ns k L).length=L.length
 | 0,L=>rfl
 | k+1,L=>by rw[rS,List.length_set,lx rs ns k L]
theorem fY (rs:List Rl)(ns:List Nd):∀r,(emp rs ns r).length=ns.length
 | 0=>by simp[emp]
 | r+1=>by rw[emp,lx,fY rs ns r]
theorem bA {ns:List Nd}{k:Nat}(h:k<ns.length):ap ns k=ns[k]:=by simp[ap,List.getD,List.getElem?_eq_getElem h]
theorem rG (W:World)(n:Nat):aA (W.alloc (.cells (Array.replicate n (.bool false)) 4)) W.heap.size (List.replicate n false):=by
 unfold aA
 rw[au]
 simp
theorem dG {w:World}{base e size n:Nat}{v:Value}{xs:List Value}(h:w.ownsRow base e size v n xs):n<=9223372036854775807:=by
 rcases h.2 with⟨_,h2⟩ | ⟨g,cap,gz,hv,_,_,h1,h2,_⟩
 ·omega
 ·unfold maxLen at h2;omega
theorem fF {n:Nat}{l:List Nat}(h:∀j∈l,j<n):∀q,q<l.length->l.getD q 0<n:=fun q hq=>h _ (by simp[List.getD,List.getElem?_eq_getElem hq])
theorem vM {l:List Nat}(p:Nat->Bool){q:Nat}(h:q<l.length):(l.take (q+1)).any p=((l.take q).any p||p (l.getD q 0)):=by
 rw[List.take_succ_eq_append_getElem h,List.any_append]
 simp[List.getD,List.getElem?_eq_getElem h]
theorem vL {l:List Nat}(p:Nat->Bool){q:Nat}(h:q<l.length):(l.take (q+1)).all p=((l.take q).all p&&p (l.getD q 0)):=by
 rw[List.take_succ_eq_append_getElem h,List.all_append]
 simp[List.getD,List.getElem?_eq_getElem h]
theorem pw {L:List Bool}{i:Nat}(h:i<L.length):L.getD i false=L[i]:=by simp[List.getD,List.getElem?_eq_getElem h]
theorem cN {L:List Bool}{k:Nat}{v:Bool}(h:k<L.length):(L.set k v).getD k false=v:=by simp[List.getD,h]
theorem dO {L:List Bool}{k j:Nat}{v:Bool}(h:j≠k):(L.set k v).getD j false=L.getD j false:=by simp[List.getD,List.getElem?_set,Ne.symm h]
theorem BI {L:List Bool}{k:Nat}:L.set k (L.getD k false)=L:=by
 by_cases h:k<L.length
 ·simp[List.getD,List.getElem?_eq_getElem h]
 ·exact List.set_eq_of_length_le (by omega)
def lT (step:Nat->Bool->List Bool->Bool × List Bool)(E:List Bool)(kind:Nat):List Nat->Bool->Bool->List Bool->Bool × List Bool
 | [],bad,ahead,W=>(bad,W)
 | j :: r,bad,ahead,W=>lT step E kind r (bad||(step j ahead W).1) (if kind=5/\E.getD j false=false then false else ahead) (step j ahead W).2
def ga (rs:List Rl)(ns:List Nd)(E:List Bool):Nat->Nat->Bool->List Bool->Bool × List Bool
 | 0,i,ahead,W=>(false,W)
 | f+1,i,ahead,W=>
  lT (ga rs ns E f) E (ap ns i).kind (ap ns i).subs (decide ((ap ns i).kind=7\/(ap ns i).kind=8)&&E.getD ((ap ns i).subs.getD 0 0) false) ahead
   (if (ap ns i).kind=3/\ahead=true then W.set ((dg rs (ap ns i).name).getD 0) true else W)
theorem Eg {step:Nat->Bool->List Bool->Bool × List Bool}{E:List Bool}{kind n:Nat}(hs:∀j a W,W.length=n->(step j a W).2.length=n):∀l bad a W,W.length=n->(lT step E kind l bad a W).2.length=n
 | [],bad,a,W,h=>h
 | j :: r,bad,a,W,h=>Eg hs r _ _ _ (hs j a W h)
theorem kR {rs:List Rl}{ns:List Nd}{E:List Bool}{n:Nat}:∀f i a W,W.length=n->(ga rs ns E f i a W).2.length=n
 | 0,i,a,W,h=>h
 | f+1,i,a,W,h=>Eg (fun j a W h=>kR f j a W h) _ _ _ _ (by split <;> simp[h])
def MX (rs:List Rl)(ns:List Nd)(t:Nat):Bool × List Bool:=ga rs ns (ir rs ns) ns.length ((rs.map Rl.is).getD t 0) true (List.replicate rs.length false)
def dM (rs:List Rl)(ns:List Nd)(i:Nat):List (List Bool):=(List.range i).map (fun t=>(MX rs ns t).2)
def iO (rs:List Rl)(ns:List Nd)(i:Nat):List Bool:=(List.range rs.length).map (fun t=>decide (t<i)&&(MX rs ns t).1)
def gY (M:List (List Bool))(i j:Nat):Bool:=(M.getD i []).getD j false
def Q0 (M:List (List Bool))(k i j:Nat):List (List Bool):=M.set i ((M.getD i []).set j (gY M i j||(gY M i k&&gY M k j)))
def wj (M:List (List Bool))(k i:Nat):Nat->List (List Bool)
 | 0=>M
 | j+1=>Q0 (wj M k i j) k i j
def wi (n:Nat)(M:List (List Bool))(k:Nat):Nat->List (List Bool)
 | 0=>M
 | i+1=>wj (wi n M k i) k i n
def wk (n:Nat)(M:List (List Bool)):Nat->List (List Bool)
 | 0=>M
 | k+1=>wi n (wk n M k) k n
def lH (rs:List Rl)(ns:List Nd):List (List Bool):=wk rs.length (dM rs ns rs.length) rs.length
def CS (rs:List Rl)(ns:List Nd):Option Nat:=(List.range rs.length).find? (fun i=>gY (lH rs ns) i i||(iO rs ns rs.length).getD i false)
def dc (rs:List Rl)(ns:List Nd):Int:=match CS rs ns with | some i=>((rs.map Rl.at_).getD i 0:Nat) | none=>-1
theorem bo {α:Type}{l m:List α}{i:Nat}{d:α}(h:i<l.length):(l++m).getD i d=l.getD i d:=by simp[List.getD,List.getElem?_append_left h]
theorem cn {α:Type}{l m:List α}{i:Nat}{d:α}(h:l.length<=i):(l++m).getD i d=m.getD (i-l.length) d:=by simp[List.getD,List.getElem?_append_right h]
theorem GV (a:Int)(x:Nat):0<=lo a x:=by unfold lo;split <;> omega
theorem Bl {rs:List Rl}{ns:List Nd}:∀k,iT rs ns k<0->kz rs rs.length<0/\∀t,t<k->(ns.map Nd.kind).getD t 0=3->0<=j9 rs ((ns.map Nd.name).getD t [])
 | 0,h=>⟨h,fun t ht=>absurd ht (by omega)⟩
 | k+1,h=>by
  rw[iT]at h
  split at h
  ·have:=GV (iT rs ns k) ((ns.map Nd.at_).getD k 0);omega
  ·next hc=>
   obtain⟨h1,h2⟩:=Bl k h
   refine⟨h1,fun t ht h3=>?_⟩
   rcases Nat.lt_or_eq_of_le (Nat.lt_succ_iff.1 ht) with h4 | h4
   ·exact h2 t h4 h3
   ·subst h4
    rcases Int.lt_or_le (j9 rs ((ns.map Nd.name).getD t [])) 0 with h5 | h5
    ·exact absurd ⟨h3,h5⟩ hc
    ·exact h5
theorem JG {rs:List Rl}{nm:List UInt8}(h:0<=j9 rs nm):(dg rs nm).isSome=true:=by
 unfold j9 at h
 cases hf:dg rs nm with
 | none=>rw[hf]at h;simp at h
 | some i=>rfl
theorem rF {rs:List Rl}{ns:List Nd}(h:uN rs ns<0):∀N∈ns,N.kind=3->(dg rs N.name).isSome=true:=by
 intro N hN hk
 obtain⟨t,ht,rfl⟩:=List.getElem_of_mem hN
 have:=(Bl ns.length h).2 t ht (by rw[bQ _ _ _ _ ht];exact hk)
 rw[bQ _ _ _ _ ht]at this
 exact JG this
theorem xM {s:ByteArray}(hs:s.size<=400):∀f X rs,X.ns.length<=4000->(X.sc.bad<0->Ok s X/\X.sc.op=0)->(cX s f X rs).1.ns.length<=4000
 | 0,X,rs,h,_=>h
 | f+1,X,rs,h,ho=>by
  rw[cX]
  split
  ·next hc=>
   split
   ·exact h
   ·obtain⟨k1,k2,k3,k4,k5⟩:=jQ (ho hc.1).1 (ho hc.1).2 hc.1
    exact xM hs f _ _ (by have:=k3.len;omega) (fun _=>⟨k3,k2⟩)
  ·exact h
theorem pW {s:ByteArray}(hs:s.size<=400):(aq s).1.ns.length<=4000:=
 xM hs 10 _ _ (by simp) (fun _=>⟨⟨⟨fun _=>Nat.zero_le _,Nat.zero_le _⟩,by simp,by simp[Pt,rest];omega,by simp,hs⟩,rfl⟩)
def dj (s:ByteArray):Int × Int:=
 if 400<s.size then (1,0)
 else if 0<=(aq s).1.sc.bad then (2,(aq s).1.sc.bad)
 else if 0<=uN (aq s).2 (aq s).1.ns then (3,uN (aq s).2 (aq s).1.ns)
 else if 0<=dc (aq s).2 (aq s).1.ns then (4,dc (aq s).2 (aq s).1.ns)
 else (0,0)
theorem Ba (rs:List Rl)(ns:List Nd)(i:Nat):dM rs ns (i+1)=dM rs ns i++[(MX rs ns i).2]:=by
 unfold dM;rw[List.range_succ];simp
theorem F9 (rs:List Rl)(ns:List Nd):iO rs ns 0=List.replicate rs.length false:=by
 unfold iO
 apply List.ext_getElem
 ·simp
 ·intro i h1 h2;simp
theorem I0 (rs:List Rl)(ns:List Nd)(i:Nat)(hi:i<rs.length):(iO rs ns i).set i (MX rs ns i).1=iO rs ns (i+1):=by
 unfold iO
 apply List.ext_getElem
 ·simp
 ·intro t h1 h2
  simp only[List.getElem_set,List.getElem_map,List.getElem_range]
  by_cases e:i=t
  ·subst e;simp
  ·rw[if_neg e]
   congr 1
   simp
   omega
theorem zW (rs:List Rl)(ns:List Nd)(i:Nat):(iO rs ns i).length=rs.length:=by simp[iO]
theorem NQ (rs:List Rl)(ns:List Nd)(i:Nat):(MX rs ns i).2.length=rs.length:=kR _ _ _ _ (by simp)
theorem Ey (rs:List Rl)(ns:List Nd)(t:Nat)(ht:t<rs.length):(∀u,u<t->(gY (lH rs ns) u u||(iO rs ns rs.length).getD u false)=false)->(gY (lH rs ns) t t||(iO rs ns rs.length).getD t false)=true->CS rs ns=some t:=by
 intro h1 h2
 unfold CS
 rw[List.find?_eq_some_iff_getElem]
 refine⟨h2,t,by simpa using ht,by simp,fun j hj=>?_⟩
 simp only[List.getElem_range]
 rw[h1 j hj];rfl
theorem wX (rs:List Rl)(ns:List Nd):(∀u,u<rs.length->(gY (lH rs ns) u u||(iO rs ns rs.length).getD u false)=false)->CS rs ns=none:=by
 intro h1
 unfold CS
 rw[List.find?_eq_none]
 intro u hu
 rw[h1 u (by simpa using hu)];simp
theorem E8:(Tryz.prog.info? 4).map (fun i=>(i.zero,i.size,i.bytes))=some (some (.bool false),1,1):=by kernel_rfl
end Go.Proofs.YtagklnaaoclmhaaGreatDoor
