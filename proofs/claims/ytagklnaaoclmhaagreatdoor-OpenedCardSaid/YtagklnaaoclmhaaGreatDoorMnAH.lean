import Derived.Test.YtagklnaaoclmhaaGreatDoorMnAG
set_option linter.unusedSimpArgs false
set_option linter.unusedVariables false
set_option maxRecDepth 100000
set_option maxHeartbeats 16000000
namespace Go.Proofs.YtagklnaaoclmhaaGreatDoor
open Go.RowKit Go.MuLone
theorem Lf (b0 mb eb ob:Nat)(EL:List (Ky × Nat))(C:Mc)(R:Nat->Rs->Prop)(M:Ms)(k:Ky)(rb:Nat)(r:Rs)(w:World)(h:iF w b0 mb eb ob EL C R M)(hk:sB k)(hR:R rb r):
  Calls Tryz.prog 152 #[aw mb,lG k,aw rb] w fun e w'=>D5 b0 mb C R (eD C M k r) w e w':=by
 by_cases h0:C.mask / 2^k.rule%2=0
 ·exact GR b0 mb eb ob EL C R M k rb r w h hk h0
 ·cases hx:m9 EL k 0 with
  | none=>exact GT b0 mb eb ob EL C R M k rb r w h hk h0 hR hx
  | some x=>exact GS b0 mb eb ob EL C R M k rb x.2 x.1 r w h hk h0 hR hx
theorem World.drewN_heap' (w:World)(n k:Nat):(w.drewN n).heap[k]?=w.heap[k]?:=rfl
theorem World.drew_heap' (w:World):w.drew.heap=w.heap:=rfl
theorem Hv (b0 mb eb ob:Nat)(EL:List (Ky × Nat))(C:Mc)(R:Nat->Rs->Prop)(M:Ms)(w:World)(h:iF w b0 mb eb ob EL C R M):
  Calls Tryz.prog 75 #[aw mb] w fun e w'=>e=.returned (.agg #[.int .i64 (M.ent.length:Int),.int .i64 (M.ent.length:Int),.int .i64 (M.hits:Int),.int .i64 0])/\aa (fun _=>False) w w':=by
 have hb:=h.blk
 have eI:EL.length=M.ent.length:=by have:=congrArg List.length h.keys;simpa using this
 obtain⟨es,cl,hm,M8⟩:=h.map
 have UP:es.size=M.ent.length:=by have:=M8.len;simp at this;omega
 have c2:w.cell? ⟨mb,2,none⟩=some (.int .i32 0):=by simp[World.cell?,hb]
 have c4:w.cell? ⟨mb,4,none⟩=some (.map (some eb)):=by simp[World.cell?,hb]
 have c5:w.cell? ⟨mb,5,none⟩=some (.int .i64 (M.hits:Int)):=by simp[World.cell?,hb]
 have f2:w.frozen? ⟨mb,2,none⟩=false:=by simp[World.frozen?,hb]
 have AQ:=av c2
 have hL:=fun(W:World) (hc:W.cell? ⟨mb,2,none⟩=some (.int .i32 0)) (hf:W.frozen? ⟨mb,2,none⟩=false)=>lock_free Tryz.muLib ⟨mb,2,none⟩ W hc hf
 have Sn:=h.apart.1
 have tg:=h.map.lt
 have Kv:∀o n,(((w.setCell ⟨mb,2,none⟩ (.int .i32 1)).alloc o).drewN n).heap[eb]?=some (.map es cl):=by
  intro o n
  show ((w.setCell ⟨mb,2,none⟩ (.int .i32 1)).alloc o).heap[eb]?=_
  rw[Below.heap_alloc _ _ _ (by simpa using tg),Below.heap_setCell _ _ _ _ (show eb≠mb from Sn)]
  exact hm
 have Ov:=fun o (ty:TypeId)=>run_len_map (P:=Tryz.prog) ((w.setCell ⟨mb,2,none⟩ (.int .i32 1)).alloc o) 210 ty eb es cl (by kernel_rfl) (Kv o 0)
 rw[UP]at Ov
 unfold aw at *
 clear hb
 go_enter_defers Tryz.func75,Tryz.ntmps75
 go_wp2_with fail
 refine(hL _ (by go_simp) (by go_simp)).mono ?_
 rintro e w2 ⟨rfl,rfl⟩
 go_wp2_with fail
 obtain⟨w1,dZ⟩:∃w1,w1=(w.setCell ⟨mb,2,none⟩ (.int .i32 1)).alloc (.cells #[.int .i64 0,.int .i64 0,.int .i64 0,.int .i64 0] 73):=⟨_,rfl⟩
 rw[<-dZ]
 have dE:w1.heap[mb]?=some (.cells #[.int .i64 (C.mask:Int),iU C ob,.int .i32 1,.int .u32 0,.map (some eb),.int .i64 (M.hits:Int)] 218 (0,0)):=by
  rw[dZ]
  exact(Below.heap_alloc _ _ _ (by simpa using AQ)).trans (aj h.blk 2 _)
 have oh:w1.heap[w.heap.size]?=some (.cells #[.int .i64 0,.int .i64 0,.int .i64 0,.int .i64 0] 73 (0,0)):=by
  rw[dZ];have:=heap_alloc_new (w.setCell ⟨mb,2,none⟩ (.int .i32 1)) (.cells #[.int .i64 0,.int .i64 0,.int .i64 0,.int .i64 0] 73);simpa using this
 have ux:aa (·=mb) w w1:=by rw[dZ];exact((aa.refl (·=mb) w).setCell (p:=⟨mb,2,none⟩) (fun _=>rfl) _).alloc _
 have d5:w1.cell? ⟨mb,5,none⟩=some (.int .i64 (M.hits:Int)):=by simp[World.cell?,dE]
 have r0:w1.cell? ⟨w.heap.size,0,none⟩=some (.int .i64 0):=by simp[World.cell?,oh]
 have r1:w1.cell? ⟨w.heap.size,1,none⟩=some (.int .i64 0):=by simp[World.cell?,oh]
 have r2:w1.cell? ⟨w.heap.size,2,none⟩=some (.int .i64 0):=by simp[World.cell?,oh]
 have r3:w1.cell? ⟨w.heap.size,3,none⟩=some (.int .i64 0):=by simp[World.cell?,oh]
 have s0:w1.frozen? ⟨w.heap.size,0,none⟩=false:=by simp[World.frozen?,oh]
 have s1:w1.frozen? ⟨w.heap.size,1,none⟩=false:=by simp[World.frozen?,oh]
 have s2:w1.frozen? ⟨w.heap.size,2,none⟩=false:=by simp[World.frozen?,oh]
 have s3:w1.frozen? ⟨w.heap.size,3,none⟩=false:=by simp[World.frozen?,oh]
 have qa6:¬mb=w.heap.size:=by omega
 have XI:¬w.heap.size=mb:=by omega
 clear dZ Ov Kv c2 c4 c5 f2 hL
 go_region_held3 (fun w'=>w'.cell? ⟨mb,5,none⟩=some (.int .i64 (M.hits:Int))) (go_keep) (fail)
 obtain⟨w2,gQ⟩:∃w2,w2=(((((((w1.setCell ⟨w.heap.size,0,none⟩ (.int .i64 0)).setCell ⟨w.heap.size,1,none⟩ (.int .i64 0)).setCell ⟨w.heap.size,2,none⟩ (.int .i64 0)).setCell ⟨w.heap.size,3,none⟩ (.int .i64 0)).setCell ⟨w.heap.size,0,none⟩ (.int .i64 (M.ent.length:Int))).setCell ⟨w.heap.size,1,none⟩ (.int .i64 (M.ent.length:Int))).setCell ⟨w.heap.size,2,none⟩ (.int .i64 (M.hits:Int))).drew:=⟨_,rfl⟩
 rw[<-gQ]
 have co:aa (·=w.heap.size) w1 w2:=by
  rw[gQ]
  exact((((((((aa.refl (·=w.heap.size) w1).setCell (p:=⟨w.heap.size,0,none⟩) (fun _=>rfl) _).setCell (p:=⟨w.heap.size,1,none⟩) (fun _=>rfl) _).setCell (p:=⟨w.heap.size,2,none⟩) (fun _=>rfl) _).setCell (p:=⟨w.heap.size,3,none⟩) (fun _=>rfl) _).setCell (p:=⟨w.heap.size,0,none⟩) (fun _=>rfl) _).setCell (p:=⟨w.heap.size,1,none⟩) (fun _=>rfl) _).setCell (p:=⟨w.heap.size,2,none⟩) (fun _=>rfl) _).drew
 have SZ:w2.heap[w.heap.size]?=some (.cells #[.int .i64 (M.ent.length:Int),.int .i64 (M.ent.length:Int),.int .i64 (M.hits:Int),.int .i64 0] 73 (0,0)):=by
  have h1:=aj oh 0 (.int .i64 0)
  have h2:=aj h1 1 (.int .i64 0)
  have h3:=aj h2 2 (.int .i64 0)
  have h4:=aj h3 3 (.int .i64 0)
  have h5:=aj h4 0 (.int .i64 (M.ent.length:Int))
  have h6:=aj h5 1 (.int .i64 (M.ent.length:Int))
  have h7:=aj h6 2 (.int .i64 (M.hits:Int))
  clear h1 h2 h3 h4 h5 h6
  rw[gQ,World.drew_heap']
  rw[h7]
  simp
 have eL:=(co.block mb (ag (show ai w1 mb=_ from dE)) qa6).trans dE
 have m2:w2.cell? ⟨mb,2,none⟩=some (.int .i32 1):=by simp[World.cell?,eL]
 have m3:w2.frozen? ⟨mb,2,none⟩=false:=by simp[World.frozen?,eL]
 have hkf:aa (fun _=>False) w (w2.setCell ⟨mb,2,none⟩ (.int .i32 0)):=LK (W:=w2) h.blk eL rfl (ux.then co (fun i hi e=>by
  have e':i=w.heap.size:=e
  omega))
 have KS:(w2.setCell ⟨mb,2,none⟩ (.int .i32 0)).heap[w.heap.size]?=some (.cells #[.int .i64 (M.ent.length:Int),.int .i64 (M.ent.length:Int),.int .i64 (M.hits:Int),.int .i64 0] 73 (0,0)):=by
  rw[Below.heap_setCell _ _ _ _ (show w.heap.size≠mb from XI)];exact SZ
 have t0:(w2.setCell ⟨mb,2,none⟩ (.int .i32 0)).cell? ⟨w.heap.size,0,none⟩=some (.int .i64 (M.ent.length:Int)):=by simp only[World.cell?,KS];rfl
 have t1:(w2.setCell ⟨mb,2,none⟩ (.int .i32 0)).cell? ⟨w.heap.size,1,none⟩=some (.int .i64 (M.ent.length:Int)):=by simp only[World.cell?,KS];rfl
 have t2:(w2.setCell ⟨mb,2,none⟩ (.int .i32 0)).cell? ⟨w.heap.size,2,none⟩=some (.int .i64 (M.hits:Int)):=by simp only[World.cell?,KS];rfl
 have t3:(w2.setCell ⟨mb,2,none⟩ (.int .i32 0)).cell? ⟨w.heap.size,3,none⟩=some (.int .i64 0):=by simp only[World.cell?,KS];rfl
 clear gQ
 generalize gT:w2.setCell ⟨mb,2,none⟩ (.int .i32 0)=w3 at *
 go_wp2
 refine leaves_cons (f:=109) (args:=#[.pointer (some ⟨mb,2,none⟩)]) (by simp) (by simp[go_sem]) ?_
 refine(unlock_deferred Tryz.muLib ⟨mb,2,none⟩ .returning w2 m2 m3).mono ?_
 rintro e u' w'' ⟨rfl,rfl,rfl⟩
 rw[gT]
 refine⟨.agg #[.int .i64 (M.ent.length:Int),.int .i64 (M.ent.length:Int),.int .i64 (M.hits:Int),.int .i64 0],?_,rfl,hkf⟩
 simp[results,Tryz.results75,go_sem,t0,t1,t2,t3]
def jI (pol bud mask nr:Nat):Mc:=if bud=0\/pol=0 then ⟨0,bud,0,nr⟩ else ⟨pol,bud,mask,nr⟩
def oX (bud:Nat):Ms:=⟨[],[],List.replicate bud none,0⟩
theorem OS:(Tryz.prog.info? 271).map (fun i=>(i.zero,i.size,i.bytes))=some (some (.pointer none),1,8):=by kernel_rfl
theorem mkL (W:World)(n:Nat)(hn:n<=5000):(Instr.makeSlice 268 (.int .i64 (n:Int)) (.int .i64 (n:Int))).run Tryz.prog W=.ok (.slice (some ⟨W.heap.size,0,none⟩) n n) (W.alloc (.cells (Array.replicate n (.pointer none)) 271)):=by
 obtain⟨i0,iC,gH,iD,iz⟩:=info_parts OS
 have hr:=run_make (P:=Tryz.prog) W 268 271 i0 _ Tryz.underlying268 iC gH .i64 .i64 n n (by omega) (Int.le_refl _) (by rw[iz];omega) (by omega)
 rw[hr]
 simp only[Int.toNat_natCast,iD,Nat.mul_one]
 have hz:(Value.pointer none).cells=#[.pointer none]:=rfl
 have:madeCells (Value.pointer none).cells n=Array.replicate n (.pointer none):=by
  apply Array.ext'
  rw[hz,toList_madeCells_one];simp
 rw[this]
theorem Ls (bud nr:Nat)(w:World)(hb:bud<=1000)(hn:nr<=8):Calls Tryz.prog 101 #[.int .i64 (bud:Int),.int .i64 (nr:Int)] w fun e w'=>e=.returned (aw (w.heap.size+1))/\w'=(w.alloc (.cells (Array.replicate bud (.pointer none)) 271)).alloc (.cells #[.slice (some ⟨w.heap.size,0,none⟩) bud bud,.int .i64 (nr:Int)] 270):=by
 unfold aw
 have ld:=mkL w bud (by omega)
 go_enter Tryz.func101,Tryz.ntmps101
 go_wp2
 go_ret
 exact⟨rfl,rfl⟩
theorem Lu (bud:Nat)(w:World)(hb:bud<=1000):Calls Tryz.prog 102 #[.int .i64 (bud:Int)] w fun e w'=>e=.returned (aw w.heap.size)/\∃n,w'=(w.alloc (.cells #[.int .i64 0,.int .i64 0,.int .i64 0,aw w.heap.size,aw w.heap.size,.int .i64 (bud:Int)] 275)).drewN n:=by
 unfold aw
 go_enter Tryz.func102,Tryz.ntmps102
 go_wp2
 go_region
 go_wp2
 go_ret
 exact⟨rfl,1,rfl⟩
theorem za {W:World}{b0 mb eb ob:Nat}{C:Mc}{bud:Nat}{R:Nat->Rs->Prop}(iJ:Rv C)(h1:W.heap[mb]?=some (.cells #[.int .i64 (C.mask:Int),iU C ob,.int .i32 0,.int .u32 0,.map (some eb),.int .i64 0] 218 (0,0)))(h2:W.heap[eb]?=some (.map #[] 0))(hl:b0<=mb/\b0<=eb)
  (hd:C.pol=1->tG W b0 ob C.bud C.nr [] (oX bud).plc) (ho:C.pol=2->im W b0 ob C.bud [] (oX bud).ord):iF W b0 mb eb ob [] C R (oX bud):=
 ⟨iJ,h1,⟨#[],0,h2,rfl⟩,rfl,List.nodup_nil,fun e he=>absurd he (by simp),fun i h=>absurd h (by simp),⟨hl.1,hl.2,fun e he=>absurd he (by simp)⟩,fun _=>rfl,hd,ho,by simp[oX]⟩
theorem NV {W:World}{b0 db pb bud nr:Nat}(h1:W.heap[db]?=some (.cells #[.slice (some ⟨pb,0,none⟩) bud bud,.int .i64 (nr:Int)] 270 (0,0)))(h2:W.heap[pb]?=some (.cells (Array.replicate bud (.pointer none)) 271 (0,0)))(hl:b0<=db/\b0<=pb):tG W b0 db bud nr [] (List.replicate bud none):=by
 refine⟨⟨pb,hl.2,h1,?_⟩,by simp,fun e he=>absurd he (by simp),fun p k hp=>?_,hl.1⟩
 ·rw[h2]
  congr 2
  simp[YH,mS]
 ·rw[List.getElem?_replicate]at hp
  split at hp <;> simp at hp
theorem Pa {W:World}{b0 ob bud:Nat}(h:W.heap[ob]?=some (.cells #[.int .i64 0,.int .i64 0,.int .i64 0,aw ob,aw ob,.int .i64 (bud:Int)] 275 (0,0)))(hl:b0<=ob):im W b0 ob bud [] []:=by
 have hc:=kq h
 refine⟨⟨[],List.Perm.refl _,rfl,fun _=>ob,fun _=>ob,⟨⟨rfl,rfl,trivial⟩,by simp⟩,fun x hx=>?_⟩,⟨bud,by simp,hc⟩,hl⟩
 have:x=ob:=by simpa using hx
 subst this
 unfold qJ
 rw[hc];exact h
theorem al2 (w:World)(a b:Obj):((w.alloc a).alloc b).heap[w.heap.size+1]?=some b:=by
 have:=heap_alloc_new (w.alloc a) b
 simpa using this
theorem RA (w:World)(a b c:Obj):(((w.alloc a).alloc b).alloc c).heap[w.heap.size+1]?=some b/\(((w.alloc a).alloc b).alloc c).heap[w.heap.size+1+1]?=some c:=by
 refine⟨(Below.heap_alloc _ _ _ (by simp)).trans (al2 w a b),?_⟩
 have:=al2 (w.alloc a) b c
 simpa using this
theorem V7 (w:World)(a b c d:Obj):((((w.alloc a).alloc b).alloc c).alloc d).heap[w.heap.size+1]?=some b/\((((w.alloc a).alloc b).alloc c).alloc d).heap[w.heap.size+1+1]?=some c/\((((w.alloc a).alloc b).alloc c).alloc d).heap[w.heap.size+1+1+1]?=some d:=by
 refine⟨(Below.heap_alloc _ _ _ (by simp)).trans (RA w a b c).1,(Below.heap_alloc _ _ _ (by simp)).trans (RA w a b c).2,?_⟩
 have:=(RA (w.alloc a) b c d).2
 simpa using this
theorem Zn (w:World)(a b c d e:Obj):(((((w.alloc a).alloc b).alloc c).alloc d).alloc e).heap[w.heap.size+1]?=some b/\(((((w.alloc a).alloc b).alloc c).alloc d).alloc e).heap[w.heap.size+1+1]?=some c/\(((((w.alloc a).alloc b).alloc c).alloc d).alloc e).heap[w.heap.size+1+1+1]?=some d/\(((((w.alloc a).alloc b).alloc c).alloc d).alloc e).heap[w.heap.size+1+1+1+1]?=some e:=by
 refine⟨(Below.heap_alloc _ _ _ (by simp)).trans (V7 w a b c d).1,(Below.heap_alloc _ _ _ (by simp)).trans (V7 w a b c d).2.1,(Below.heap_alloc _ _ _ (by simp)).trans (V7 w a b c d).2.2,?_⟩
 have:=(V7 (w.alloc a) b c d e).2.2
 simpa using this
structure VV (pol bud mask nr:Nat)(R:Nat->Rs->Prop)(w:World)(e:Ending)(w':World):Prop where
 res:∃mb eb ob,e=.returned (aw mb)/\iF w' w.heap.size mb eb ob [] (jI pol bud mask nr) R (oX bud)
 kept:aa (fun _=>False) w w'
theorem O6 (pol bud mask nr:Nat)(runs:Int)(R:Nat->Rs->Prop)(w:World)(hp:pol<=2)(hb:bud<=1000)(hm:mask<=255)(hn:nr<=8):
  Calls Tryz.prog 71 #[.agg #[.int .i64 (pol:Int),.int .i64 (bud:Int),.int .i64 (mask:Int),.int .i64 runs],.int .i64 (nr:Int)] w fun e w'=>VV pol bud mask nr R w e w':=by
 have ld:∀W:World,(Instr.makeMap 210 none).run Tryz.prog W=.ok (.map (some W.heap.size)) (W.alloc (.map #[] 0)):=fun W=>rfl
 by_cases sh:bud=0
 ·subst sh
  have hC:jI pol 0 mask nr=⟨0,0,0,nr⟩:=by simp[jI]
  go_enter Tryz.func71,Tryz.ntmps71
  go_wp2
  go_ret
  refine⟨⟨w.heap.size+1+1,w.heap.size+1,0,rfl,?_⟩,(((aa.refl _ w).alloc _).alloc _).alloc _⟩
  rw[hC]
  exact za ⟨.inl ⟨rfl,rfl⟩,by simp,by simp,hn⟩ (RA w _ _ _).2 (RA w _ _ _).1 ⟨by omega,by omega⟩ (fun e=>by simp at e) (fun e=>by simp at e)
 ·have q0:((bud:Int) == 0)=false:=by simp;omega
  by_cases h1:pol=1
  ·subst h1
   have hC:jI 1 bud mask nr=⟨1,bud,mask,nr⟩:=by simp[jI,sh]
   have hD:=fun W=>Ls bud nr W hb hn
   unfold aw at hD
   go_enter Tryz.func71,Tryz.ntmps71
   go_wp2_with fail
   go_region_with (go_at_call 101;refine(hD _).mono ?_;rintro e w1 ⟨rfl,rfl⟩)
   all_goals (go_wp2;go_ret)
   all_goals
    refine⟨⟨w.heap.size+1+1,w.heap.size+1,w.heap.size+1+1+1+1,rfl,?_⟩,(((((((aa.refl _ w).alloc _).alloc _).alloc _).alloc _).alloc _)).drew⟩
    rw[hC]
    exact za ⟨.inr ⟨.inl rfl,Nat.pos_of_ne_zero sh⟩,hb,hm,hn⟩ (Zn w _ _ _ _ _).2.1 (Zn w _ _ _ _ _).1 ⟨by omega,by omega⟩ (fun e=>NV (pb:=w.heap.size+1+1+1) (Zn w _ _ _ _ _).2.2.2 (Zn w _ _ _ _ _).2.2.1 ⟨by omega,by omega⟩) (fun e=>by simp at e)
  ·by_cases h2:pol=2
   ·subst h2
    have hC:jI 2 bud mask nr=⟨2,bud,mask,nr⟩:=by simp[jI,sh]
    have hD:=fun W=>Lu bud W hb
    unfold aw at hD
    go_enter Tryz.func71,Tryz.ntmps71
    go_wp2_with fail
    go_region_with (go_at_call 102;refine(hD _).mono ?_;rintro e w1 ⟨rfl,n1,rfl⟩)
    all_goals (go_wp2;go_ret)
    all_goals
     refine⟨⟨w.heap.size+1+1,w.heap.size+1,w.heap.size+1+1+1,rfl,?_⟩,?_⟩
     ·rw[hC]
      have hA:=V7 w (.cells #[.int .i64 2,.int .i64 (bud:Int),.int .i64 (mask:Int),.int .i64 runs] 23) (.map #[] 0) (.cells #[.int .i64 0,.nilIface,.int .i32 0,.int .u32 0,.map (some (w.heap.size+1)),.int .i64 0] 218) (.cells #[.int .i64 0,.int .i64 0,.int .i64 0,.pointer (some ⟨w.heap.size+1+1+1,0,none⟩),.pointer (some ⟨w.heap.size+1+1+1,0,none⟩),.int .i64 (bud:Int)] 275)
      refine za ⟨.inr ⟨.inr rfl,Nat.pos_of_ne_zero sh⟩,hb,hm,hn⟩ ?_ ?_ ⟨by omega,by omega⟩ (fun e=>by simp at e) (fun e=>Pa ?_ (by omega))
      ·have Gl:=fun n=>(World.drewN_heap' _ n _).trans hA.2.1
       exact aj (aj (Gl _) 0 _) 1 _
      ·rw[Below.heap_setCell _ _ _ _ (show w.heap.size+1≠w.heap.size+1+1 by omega),Below.heap_setCell _ _ _ _ (show w.heap.size+1≠w.heap.size+1+1 by omega)]
       exact hA.1
      ·rw[Below.heap_setCell _ _ _ _ (show w.heap.size+1+1+1≠w.heap.size+1+1 by omega),Below.heap_setCell _ _ _ _ (show w.heap.size+1+1+1≠w.heap.size+1+1 by omega)]
       exact hA.2.2
     ·exact((((((aa.refl _ w).alloc _).alloc _).alloc _).alloc _).drewN _).setCell (p:=⟨w.heap.size+1+1,0,none⟩) (fun e=>by dsimp only at e;omega) _ |>.setCell (p:=⟨w.heap.size+1+1,1,none⟩) (fun e=>by dsimp only at e;omega) _
   ·have h3:pol=0:=by omega
    subst h3
    have hC:jI 0 bud mask nr=⟨0,bud,0,nr⟩:=by simp[jI]
    go_enter Tryz.func71,Tryz.ntmps71
    go_wp2
    go_ret
    refine⟨⟨w.heap.size+1+1,w.heap.size+1,0,rfl,?_⟩,(((aa.refl _ w).alloc _).alloc _).alloc _⟩
    rw[hC]
    exact za ⟨.inl ⟨rfl,rfl⟩,hb,by simp,hn⟩ (RA w _ _ _).2 (RA w _ _ _).1 ⟨by omega,by omega⟩ (fun e=>by simp at e) (fun e=>by simp at e)
end Go.Proofs.YtagklnaaoclmhaaGreatDoor
namespace Go.Proofs.YtagklnaaoclmhaaGreatDoor
open Go.RowKit
def vv (K:Wc)(t:Int):Prop:=t=-1\/0<=t/\t<=(K.len:Int)
structure io (K:Wc)(s:Wt):Prop where
 cnt:s.cnt<=2*K.most+1
 dn:s.dn<=s.cnt
 mtl:s.mt.length<=s.cnt
 hits:s.mem.hits<=s.cnt
 ent:∀e∈s.mem.ent,vv K e.2.to/\1<=e.2.cnt/\e.2.cnt<=K.most
 kn:∀(q:Nat) (t:Int),s.kn[q]?=some (some t)->vv K t
structure nY (K:Wc)(s:Wt)(t:Int)(s':Wt):Prop where
 sane:io K s'
 rng:vv K t
 pre:∃l,s'.mt=s.mt++l
 cnt:s.cnt<=s'.cnt
 knl:s'.kn.length=s.kn.length
theorem nY.then {K:Wc}{s s1 s2:Wt}{t1 t2:Int}(h:nY K s t1 s1)(k:nY K s1 t2 s2):nY K s t2 s2:=by
 obtain⟨l,hl⟩:=h.pre
 obtain⟨m,hm⟩:=k.pre
 exact⟨k.sane,k.rng,⟨l++m,by rw[hm,hl,List.append_assoc]⟩,Nat.le_trans h.cnt k.cnt,k.knl.trans h.knl⟩
theorem nY.to {K:Wc}{s s1:Wt}{t1 t2:Int}(h:nY K s t1 s1)(ht:vv K t2):nY K s t2 s1:=⟨h.sane,ht,h.pre,h.cnt,h.knl⟩
theorem vv.no (K:Wc):vv K (-1):=.inl rfl
theorem vv.at_ {K:Wc}{a:Nat}(h:a<=K.len):vv K (a:Int):=.inr ⟨by omega,by omega⟩
theorem vv.nat {K:Wc}{t:Int}(h:vv K t)(hn:t≠-1):t.toNat<=K.len/\(t.toNat:Int)=t:=by
 rcases h with h | h
 ·exact absurd h hn
 ·omega
theorem nY.refl {K:Wc}{s:Wt}{t:Int}(h:io K s)(ht:vv K t):nY K s t s:=⟨h,ht,⟨[],by simp⟩,Nat.le_refl _,rfl⟩
theorem nY.cut {K:Wc}{s s1:Wt}{t:Int}(h:nY K s t s1):nY K s t { s1 with mt:=s1.mt.take s.mt.length }:=by
 obtain⟨l,hl⟩:=h.pre
 have ht:s1.mt.take s.mt.length=s.mt:=by rw[hl];simp
 refine⟨⟨h.sane.cnt,h.sane.dn,?_,h.sane.hits,h.sane.ent,h.sane.kn⟩,h.rng,⟨[],by simp[ht]⟩,h.cnt,h.knl⟩
 show (s1.mt.take s.mt.length).length<=s1.cnt
 have:=h.sane.mtl
 rw[List.length_take];omega
theorem qk {K:Wc}{step:Nat->Wt->Option (Int × Wt)}(hs:∀j s t s',io K s->step j s=some (t,s')->nY K s t s'):∀l s t s',io K s->nJ step l s=some (t,s')->nY K s t s'
 | [],s,t,s',h,he=>by
  simp only[nJ,Option.some.injEq,Prod.mk.injEq]at he
  rw[<-he.1,<-he.2]
  exact nY.refl h (vv.no K)
 | j :: l,s,t,s',h,he=>by
  rw[nJ]at he
  cases hx:step j s with
  | none=>rw[hx]at he;cases he
  | some x=>
   obtain⟨t1,s1⟩:=x
   rw[hx]at he
   have h1:=hs j s t1 s1 h hx
   simp only at he
   split at he
   ·exact h1.then (qk hs l s1 t s' h1.sane he)
   ·simp only[Option.some.injEq,Prod.mk.injEq]at he
    rw[<-he.1,<-he.2];exact h1
theorem zB {K:Wc}{step:Nat->Nat->Wt->Option (Int × Wt)}(hs:∀j a s t s',a<=K.len->io K s->step j a s=some (t,s')->nY K s t s'):∀l a s t s',a<=K.len->io K s->tE step l a s=some (t,s')->nY K s t s'
 | [],a,s,t,s',ha,h,he=>by
  simp only[tE,Option.some.injEq,Prod.mk.injEq]at he
  rw[<-he.1,<-he.2]
  exact nY.refl h (vv.at_ ha)
 | j :: l,a,s,t,s',ha,h,he=>by
  rw[tE]at he
  cases hx:step j a s with
  | none=>rw[hx]at he;cases he
  | some x=>
   obtain⟨t1,s1⟩:=x
   rw[hx]at he
   have h1:=hs j a s t1 s1 ha h hx
   simp only at he
   split at he
   ·simp only[Option.some.injEq,Prod.mk.injEq]at he
    rw[<-he.1,<-he.2];exact h1.to (vv.no K)
   ·next hn=>exact h1.then (zB hs l t1.toNat s1 t s' (h1.rng.nat hn).1 h1.sane he)
theorem qm {K:Wc}{step:Nat->Wt->Option (Int × Wt)}(hs:∀a s t s',a<=K.len->io K s->step a s=some (t,s')->nY K s t s'):∀f a s t s',a<=K.len->io K s->vG step f a s=some (t,s')->nY K s t s'
 | 0,_,_,_,_,_,_,he=>by cases he
 | f+1,a,s,t,s',ha,h,he=>by
  rw[vG]at he
  cases hx:step a s with
  | none=>rw[hx]at he;cases he
  | some x=>
   obtain⟨t1,s1⟩:=x
   rw[hx]at he
   have h1:=hs a s t1 s1 ha h hx
   simp only at he
   split at he
   ·simp only[Option.some.injEq,Prod.mk.injEq]at he
    rw[<-he.1,<-he.2];exact h1.to (vv.at_ ha)
   ·next hn=>exact h1.then (qm hs f t1.toNat s1 t s' (h1.rng.nat hn).1 h1.sane he)
theorem pP (C:Mc)(M:Ms)(k:Ky):(ie C M k).ent=M.ent/\(ie C M k).hits=M.hits:=by unfold ie;split <;> exact⟨rfl,rfl⟩
theorem Al {l:List (Ky × Rs)}{k:Ky}{r:Rs}(h:oC l k=some r):(k,r)∈l:=by
 unfold oC at h
 cases hf:l.find? (fun e=>decide (e.1=k)) with
 | none=>rw[hf]at h;cases h
 | some e=>
  rw[hf]at h
  have h1:=List.find?_some hf
  have h2:=List.mem_of_find?_eq_some hf
  simp at h1 h
  rw[<-h1,<-h];exact h2
theorem Am:∀(l:List (Ky × Rs)) (k:Ky) (r:Rs),∀e∈pg l k r,e∈l\/e=(k,r)
 | [],_,_,e,h=>by cases h
 | x :: l,k,r,e,h=>by
  rw[pg]at h
  split at h
  ·next hk=>
   rcases List.mem_cons.1 h with e1 | e1
   ·right;rw[e1,hk]
   ·left;exact List.mem_cons_of_mem _ e1
  ·rcases List.mem_cons.1 h with e1 | e1
   ·left;rw[e1];simp
   ·rcases Am l k r e e1 with h2 | h2
    ·left;exact List.mem_cons_of_mem _ h2
    ·exact .inr h2
theorem Ak:∀(l:List (Ky × Rs)) (k:Ky),∀e∈CN l k,e∈l
 | [],_,e,h=>h
 | x :: l,k,e,h=>by
  rw[CN]at h
  split at h
  ·exact List.mem_cons_of_mem _ h
  ·rcases List.mem_cons.1 h with e1 | e1
   ·rw[e1];simp
   ·exact List.mem_cons_of_mem _ (Ak l k e e1)
theorem Bh (C:Mc)(M:Ms)(k:Ky):(cF C M k).2.ent=M.ent/\(cF C M k).2.hits=M.hits:=by unfold cF;(repeat' split) <;> exact⟨rfl,rfl⟩
theorem xB (M:Ms)(g:Option Ky):(∀e∈(eX M g).ent,e∈M.ent)/\(eX M g).hits=M.hits:=by
 cases g with
 | none=>exact⟨fun _ h=>h,rfl⟩
 | some g=>exact⟨fun e h=>Ak M.ent g e h,rfl⟩
theorem nl (C:Mc)(M:Ms)(k:Ky)(r:Rs):(∀e∈(eD C M k r).ent,e∈M.ent\/e=(k,r))/\(eD C M k r).hits=M.hits:=by
 unfold eD
 split
 ·exact⟨fun e h=>.inl h,rfl⟩
 ·split
  ·rw[(pP C _ k).1,(pP C _ k).2]
   exact⟨Am _ _ _,rfl⟩
  ·refine⟨fun e h=>?_,?_⟩
   ·rcases List.mem_append.1 h with h1 | h1
    ·left
     have:=(xB (cF C M k).2 (cF C M k).1).1 e h1
     rw[(Bh C M k).1]at this
     exact this
    ·right;simpa using h1
   ·exact(xB (cF C M k).2 (cF C M k).1).2.trans (Bh C M k).2
theorem jd (C:Mc)(M:Ms)(k:Ky):(fh C M k).2.ent=M.ent/\(∀r,(fh C M k).1=some r->(k,r)∈M.ent/\(fh C M k).2.hits=M.hits+1)/\((fh C M k).1=none->(fh C M k).2=M):=by
 unfold fh
 cases hg:oC M.ent k with
 | none=>exact⟨rfl,fun r h=>(by cases h),fun _=>rfl⟩
 | some r=>exact⟨(pP C _ k).1,fun r' h=>(by cases h;exact⟨Al hg,(pP C _ k).2⟩),fun h=>(by cases h)⟩
theorem vn {K:Wc}{step:Nat->Wt->Option (Int × Wt)}(hs:∀j s t s',io K s->step j s=some (t,s')->nY K s t s'){rule a:Nat}{s:Wt}{t:Int}{s':Wt}(h:io K s)(hm:s.cnt<=K.most)(he:lQ K step rule a s=some (t,s')):nY K s t s':=by
 unfold lQ at he
 obtain⟨h1,h2,h3⟩:=jd K.mc s.mem ⟨K.inp,rule,a⟩
 cases hf:fh K.mc s.mem ⟨K.inp,rule,a⟩ with
 | mk o M=>
  rw[hf]at he h1 h2 h3
  cases o with
  | some r=>
   simp only[Option.some.injEq,Prod.mk.injEq]at he
   obtain⟨h4,h5⟩:=h2 r rfl
   have h6:=h.ent _ h4
   dsimp only at h6
   have:=h.mtl;have:=h.hits;have:=h.dn
   rw[<-he.1,<-he.2]
   refine⟨⟨by show s.cnt+r.cnt<=_;omega,by show s.dn<=s.cnt+r.cnt;omega,by show (s.mt++[r]).length<=s.cnt+r.cnt;simp;omega,by show M.hits<=s.cnt+r.cnt;simp only at h5;omega,fun e hx=>h.ent e (by rw[<-h1];exact hx),h.kn⟩,h6.1,⟨[r],rfl⟩,by show s.cnt<=s.cnt+r.cnt;omega,rfl⟩
  | none=>
   have h4:=h3 rfl
   simp only at h4 he
   rw[h4]at he
   cases hc:nJ step (ap K.ns (cL K.rs rule)).subs (j8 s s.mem) with
   | none=>rw[hc]at he;cases he
   | some x=>
    obtain⟨t1,s1⟩:=x
    rw[hc]at he
    simp only[Option.some.injEq,Prod.mk.injEq]at he
    have:=h.mtl;have:=h.hits;have:=h.dn;have:=h.cnt
    have hb:io K (j8 s s.mem):=⟨by show s.cnt+1<=_;omega,by show s.dn+1<=s.cnt+1;omega,by show s.mt.length<=s.cnt+1;omega,by show s.mem.hits<=s.cnt+1;omega,h.ent,h.kn⟩
    have kO:=qk hs _ _ _ _ hb hc
    have Xa:s.cnt+1<=s1.cnt:=kO.cnt
    obtain⟨l,hl⟩:=kO.pre
    have Oo:s1.mt=s.mt++l:=hl
    have E0:s1.mt.take s.mt.length=s.mt:=by rw[Oo];simp
    rw[<-he.1,<-he.2]
    refine⟨⟨kO.sane.cnt,kO.sane.dn,?_,?_,?_,kO.sane.kn⟩,kO.rng,⟨[jJ rule a s t1 s1],?_⟩,by show s.cnt<=s1.cnt;omega,kO.knl⟩
    ·show (s1.mt.take s.mt.length++[jJ rule a s t1 s1]).length<=s1.cnt
     rw[E0];simp;omega
    ·show (if K.most<s1.cnt then s1.mem else eD K.mc s1.mem ⟨K.inp,rule,a⟩ (jJ rule a s t1 s1)).hits<=s1.cnt
     have:=kO.sane.hits
     split
     ·exact this
     ·rw[(nl _ _ _ _).2];exact this
    ·show ∀e∈(if K.most<s1.cnt then s1.mem else eD K.mc s1.mem ⟨K.inp,rule,a⟩ (jJ rule a s t1 s1)).ent,_
     split
     ·exact kO.sane.ent
     ·intro e hx
      rcases(nl _ _ _ _).1 e hx with h5 | h5
      ·exact kO.sane.ent e h5
      ·rw[h5]
       refine⟨kO.rng,?_,?_⟩
       ·show 1<=s1.cnt-s.cnt;omega
       ·show s1.cnt-s.cnt<=K.most;omega
    ·show s1.mt.take s.mt.length++_=_
     rw[E0]
theorem zv {K:Wc}{step:Nat->Wt->Option (Int × Wt)}(hs:∀j s t s',io K s->step j s=some (t,s')->nY K s t s'){i a:Nat}{s:Wt}{t:Int}{s':Wt}(h:io K s)(he:Mu K step i a s=some (t,s')):nY K s t s':=by
 unfold Mu at he
 cases hk:s.kn.getD (Cp K i a) none with
 | some t1=>
  rw[hk]at he
  simp only[Option.some.injEq,Prod.mk.injEq]at he
  rw[<-he.1,<-he.2]
  refine nY.refl h (h.kn (Cp K i a) t1 ?_)
  rw[List.getD_eq_getElem?_getD]at hk
  cases hx:s.kn[Cp K i a]? with
  | none=>rw[hx]at hk;cases hk
  | some y=>rw[hx]at hk;simp at hk;rw[hk]
 | none=>
  rw[hk]at he
  simp only at he
  cases hc:nJ step (ap K.ns i).subs s with
  | none=>rw[hc]at he;cases he
  | some x=>
   obtain⟨t1,s1⟩:=x
   rw[hc]at he
   simp only[Option.some.injEq,Prod.mk.injEq]at he
   have kO:=qk hs _ _ _ _ h hc
   rw[<-he.1,<-he.2]
   split
   ·refine⟨⟨kO.sane.cnt,kO.sane.dn,kO.sane.mtl,kO.sane.hits,kO.sane.ent,fun q t hq=>?_⟩,kO.rng,kO.pre,kO.cnt,by simp[kO.knl]⟩
    have yN:(s1.kn.set (Cp K i a) (some t1))[q]?=some (some t):=hq
    rw[List.getElem?_set]at yN
    split at yN
    ·split at yN
     ·simp at yN;rw[<-yN];exact kO.rng
     ·cases yN
    ·exact kO.sane.kn q t yN
   ·exact kO
theorem yZ {b:Nat->Nat}{len a:Nat}{t:List UInt8}(h:sY b len a t=true):a+t.length<=len:=by
 unfold sY at h
 simp at h
 exact h.1
theorem jC {K:Wc}:∀f i a s t s',a<=K.len->io K s->wM K f i a s=some (t,s')->nY K s t s'/\(t=-1->s'.mt=s.mt)
 | 0,_,_,_,_,_,_,_,he=>by cases he
 | f+1,i,a,s,t,s',ha,h,he=>by
  have ih:∀j b s t s',b<=K.len->io K s->wM K f j b s=some (t,s')->nY K s t s':=fun j b s t s' hb hs hx=>(jC f j b s t s' hb hs hx).1
  rw[wM]at he
  split at he
  ·simp only[Option.some.injEq,Prod.mk.injEq]at he
   rw[<-he.1,<-he.2]
   exact⟨nY.refl h (vv.no K),fun _=>rfl⟩
  ·next hm=>
   have rt:s.cnt<=K.most:=by omega
   cases hk:Cu K (wM K f) f i a s with
   | none=>rw[hk]at he;cases he
   | some x=>
    obtain⟨t1,s1⟩:=x
    rw[hk]at he
    simp only[Option.map_some,Option.some.injEq]at he
    have fV:nY K s t1 s1:=by
     unfold Cu at hk
     split at hk
     ·simp only[Option.some.injEq]at hk
      unfold Ns at hk
      cases jc:mX K.b K.len (ap K.ns i) a with
      | some u=>
       rw[jc]at hk
       simp only[Prod.mk.injEq]at hk
       rw[<-hk.1,<-hk.2]
       refine nY.refl h (vv.at_ ?_)
       unfold mX at jc
       split at jc
       ·split at jc
        ·next hl=>cases jc;exact yZ hl
        ·cases jc
       ·split at jc
        ·next hl=>cases jc;omega
        ·cases jc
      | none=>
       rw[jc]at hk
       simp only[Prod.mk.injEq]at hk
       rw[<-hk.1,<-hk.2]
       exact⟨⟨h.cnt,h.dn,h.mtl,h.hits,h.ent,h.kn⟩,vv.no K,⟨[],by simp⟩,Nat.le_refl _,rfl⟩
     ·split at hk
      ·exact vn (fun j s t s' hs hx=>ih j a s t s' ha hs hx) h rt hk
      ·split at hk
       ·exact zv (fun j s t s' hs hx=>ih j a s t s' ha hs hx) h hk
       ·split at hk
        ·exact zB (fun j b s t s' hb hs hx=>ih j b s t s' hb hs hx) _ _ _ _ _ ha h hk
        ·split at hk
         ·cases hx:wM K f ((ap K.ns i).subs.getD 0 0) a s with
          | none=>rw[hx]at hk;cases hk
          | some y=>
           obtain⟨t2,s2⟩:=y
           rw[hx]at hk
           simp only[Option.map_some,Option.some.injEq]at hk
           have h1:=ih _ _ _ _ _ ha h hx
           split at hk
           ·simp only[Prod.mk.injEq]at hk
            rw[<-hk.1,<-hk.2];exact h1.to (vv.at_ ha)
           ·simp only[Prod.mk.injEq]at hk
            rw[<-hk.1,<-hk.2];exact h1
         ·split at hk
          ·exact qm (fun b s t s' hb hs hx=>ih _ b s t s' hb hs hx) _ _ _ _ _ ha h hk
          ·split at hk
           ·cases hx:wM K f ((ap K.ns i).subs.getD 0 0) a s with
            | none=>rw[hx]at hk;cases hk
            | some y=>
             obtain⟨t2,s2⟩:=y
             rw[hx]at hk
             simp only at hk
             have h1:=ih _ _ _ _ _ ha h hx
             split at hk
             ·simp only[Option.some.injEq,Prod.mk.injEq]at hk
              rw[<-hk.1,<-hk.2];exact h1.to (vv.no K)
             ·next hn=>exact h1.then (qm (fun b s t s' hb hs hx=>ih _ b s t s' hb hs hx) _ _ _ _ _ (h1.rng.nat hn).1 h1.sane hk)
           ·cases hx:wM K f ((ap K.ns i).subs.getD 0 0) a s with
            | none=>rw[hx]at hk;cases hk
            | some y=>
             obtain⟨t2,s2⟩:=y
             rw[hx]at hk
             simp only[Option.map_some,Option.some.injEq,Q1,Prod.mk.injEq]at hk
             have h1:=ih _ _ _ _ _ ha h hx
             rw[<-hk.1,<-hk.2]
             refine h1.cut.to ?_
             split
             ·exact vv.at_ ha
             ·exact vv.no K
    unfold rT at he
    split at he
    ·next hn=>
     simp only[Prod.mk.injEq]at he
     rw[<-he.1,<-he.2]
     refine⟨fV.cut,fun _=>?_⟩
     obtain⟨l,hl⟩:=fV.pre
     show s1.mt.take s.mt.length=s.mt
     rw[hl];simp
    ·next hn=>
     simp only[Prod.mk.injEq]at he
     rw[<-he.1,<-he.2]
     exact⟨fV,fun e=>absurd e hn⟩
structure Mv where
 v:Value
 L:List Nat
instance:Coe Mv Value:=⟨Mv.v⟩
def dT (w:World)(b:Nat)(s:ByteArray)(mv:Mv)(g:Sc):Prop:=
 ∃z:Int,z=(mv.L.length:Int)/\w.heap[b]?=some (.cells #[.string s,.int .i64 g.at_,.int .i64 g.t,.int .i64 z,.int .i64 g.op,mv.v] 138)
theorem dT.cells {w:World}{b:Nat}{s:ByteArray}{mv:Mv}{g:Sc}(h:dT w b s mv g):
  w.cell? ⟨b,0,none⟩=some (.string s)/\w.cell? ⟨b,1,none⟩=some (.int .i64 g.at_)/\w.cell? ⟨b,2,none⟩=some (.int .i64 g.t)/\w.cell? ⟨b,4,none⟩=some (.int .i64 g.op)/\w.cell? ⟨b,5,none⟩=some mv.v:=by
 obtain⟨z,_,h⟩:=h
 refine⟨?_,?_,?_,?_,?_⟩ <;> simp[World.cell?,h]
theorem dT.frozen {w:World}{b:Nat}{s:ByteArray}{mv:Mv}{g:Sc}(h:dT w b s mv g)(o:Nat):w.frozen? ⟨b,o,none⟩=false:=by
 obtain⟨z,_,h⟩:=h
 simp[World.frozen?,h]
theorem dT.lt {w:World}{b:Nat}{s:ByteArray}{mv:Mv}{g:Sc}(h:dT w b s mv g):b<w.heap.size:=by
 obtain⟨z,_,h⟩:=h
 exact ag (show ai w b=_ from h)
theorem dT.drewN {w:World}{b:Nat}{s:ByteArray}{mv:Mv}{g:Sc}(h:dT w b s mv g)(n:Nat):dT (w.drewN n) b s mv g:=h
theorem dT.same {w w':World}{b:Nat}{s:ByteArray}{mv:Mv}{g:Sc}(h:dT w b s mv g)(he:w'.heap[b]?=w.heap[b]?):dT w' b s mv g:=by
 obtain⟨z,hz,h⟩:=h
 exact⟨z,hz,by rw[he];exact h⟩
theorem dT.kept {w w':World}{b:Nat}{s:ByteArray}{mv:Mv}{g:Sc}{S:Nat->Prop}(h:dT w b s mv g)(k:aa S w w')(hb:¬S b):dT w' b s mv g:=h.same (k.block b h.lt hb)
theorem dT.alloc {w:World}{b:Nat}{s:ByteArray}{mv:Mv}{g:Sc}(h:dT w b s mv g)(o:Obj):dT (w.alloc o) b s mv g:=h.same (Below.heap_alloc _ _ _ h.lt)
theorem dT.setAt {w:World}{b:Nat}{s:ByteArray}{mv:Mv}{g:Sc}(h:dT w b s mv g)(x:Nat):dT (w.setCell ⟨b,1,none⟩ (.int .i64 x)) b s mv { g with at_:=x }:=by
 obtain⟨z,hz,h⟩:=h;refine⟨z,hz,?_⟩;rw[aj h];simp
theorem dT.setT {w:World}{b:Nat}{s:ByteArray}{mv:Mv}{g:Sc}(h:dT w b s mv g)(x:Nat):dT (w.setCell ⟨b,2,none⟩ (.int .i64 x)) b s mv { g with t:=x }:=by
 obtain⟨z,hz,h⟩:=h;refine⟨z,hz,?_⟩;rw[aj h];simp
theorem dT.setOp {w:World}{b:Nat}{s:ByteArray}{mv:Mv}{g:Sc}(h:dT w b s mv g)(x:Nat):dT (w.setCell ⟨b,4,none⟩ (.int .i64 x)) b s mv { g with op:=x }:=by
 obtain⟨z,hz,h⟩:=h;refine⟨z,hz,?_⟩;rw[aj h];simp
theorem dT.setM {w:World}{b:Nat}{s:ByteArray}{mv:Mv}{g:Sc}(h:dT w b s mv g)(x:Value):dT (w.setCell ⟨b,5,none⟩ x) b s ⟨x,mv.L⟩ g:=by
 obtain⟨z,hz,h⟩:=h;refine⟨z,hz,?_⟩;rw[aj h];simp
theorem dT.brk {w:World}{b:Nat}{s:ByteArray}{mv:Mv}{g:Sc}(h:dT w b s mv g):w.cell? ⟨b,3,none⟩=some (.int .i64 (mv.L.length:Int)):=by
 obtain⟨z,rfl,h⟩:=h
 simp[World.cell?,h]
theorem dT.setB {w:World}{b:Nat}{s:ByteArray}{mv:Mv}{g:Sc}(h:dT w b s mv g)(x:Nat):dT (w.setCell ⟨b,3,none⟩ (.int .i64 ((mv.L.length:Int)+1))) b s ⟨mv.v,mv.L++[x]⟩ g:=by
 obtain⟨z,hz,h⟩:=h;refine⟨(mv.L.length:Int)+1,by simp,?_⟩;rw[aj h];simp
theorem dT.bad {w:World}{b:Nat}{s:ByteArray}{mv:Mv}{g:Sc}(h:dT w b s mv g)(x:Int):dT w b s mv { g with bad:=x }:=h
def nx (s:ByteArray)(a:Nat):Int:=if a=s.size then -1 else (am s a:Int)
theorem gI (b:Nat)(s:ByteArray)(mv:Mv)(g:Sc)(w:World)(hR:dT w b s mv g)(hs:s.size<=400)(ha:g.at_<=s.size):
  Calls Tryz.prog 96 #[.pointer (some ⟨b,0,none⟩)] w fun e w'=>e=.returned (.int .i64 (nx s g.at_))/\∃n,w'=w.drewN n:=by
 obtain⟨c0,c1,c2,c3,c4⟩:=hR.cells
 by_cases h1:g.at_=s.size
 ·have HN:Hid (nx s g.at_=-1):=by unfold Hid nx;rw[if_pos h1]
  have q:((g.at_:Int) == (s.size:Int))=true:=beq_iff_eq.2 (by omega)
  clear h1
  go_enter Tryz.func96,Tryz.ntmps96
  go_wp2
  go_quiet (fail)
  go_wp2
  go_ret
  exact⟨by rw[HN.out];rfl,_,rfl⟩
 ·have bj:g.at_<s.size:=by omega
  have HN:Hid (nx s g.at_=(s[g.at_].toNat:Int)):=by unfold Hid nx;rw[if_neg h1,cZ bj]
  have q:((g.at_:Int) == (s.size:Int))=false:=beq_eq_false_iff_ne.2 (by omega)
  have hb:=UInt8.toNat_lt s[g.at_]
  clear h1
  go_enter Tryz.func96,Tryz.ntmps96
  go_wp2
  go_quiet (fail)
  go_wp2
  go_quiet (fail)
  go_wp2
  go_ret
  exact⟨by rw[HN.out];rfl,_,World.drewN_drewN ..⟩
def sy (s:ByteArray)(g:Sc)(c:Nat):Bool:=decide (nx s g.at_=(c:Int))
def tk (s:ByteArray)(g:Sc)(c:Nat):Sc:=if sy s g c then bM g else g
theorem Lw {s:ByteArray}{a c:Nat}(h:nx s a=(c:Int))(ha:a<=s.size):a<s.size/\am s a=c:=by
 unfold nx at h
 split at h
 ·omega
 ·exact⟨by omega,by omega⟩
theorem fX (b:Nat)(s:ByteArray)(mv:Mv)(g:Sc)(c:Nat)(w:World)(hR:dT w b s mv g)(hs:s.size<=400)(ha:g.at_<=s.size)(hc:c<256):
  Calls Tryz.prog 163 #[.pointer (some ⟨b,0,none⟩),.int .u8 (c:Int)] w fun e w'=>e=.returned (.bool (sy s g c))/\dT w' b s mv (tk s g c)/\aa (·=b) w w':=by
 obtain⟨c0,c1,c2,c3,c4⟩:=hR.cells
 have hf:=hR.frozen 1
 go_enter Tryz.func163,Tryz.ntmps163
 go_wp2_with fail
 refine(gI b s mv g _ hR hs ha).mono ?_
 rintro e w1 ⟨rfl,n1,rfl⟩
 by_cases h:nx s g.at_=(c:Int)
 ·have H1:Hid (sy s g c=true/\tk s g c=bM g):=by unfold Hid tk sy;simp[h]
  have q:((nx s g.at_) != (c:Int))=false:=by simp[h]
  clear h
  generalize nx s g.at_=x at *
  go_wp2
  go_ret
  exact⟨by rw[H1.out.1];rfl,by rw[H1.out.2];exact(hR.drewN _).setAt _,((aa.refl (·=b) w).drewN _).setCell (fun _=>rfl) _⟩
 ·have H1:Hid (sy s g c=false/\tk s g c=g):=by unfold Hid tk sy;simp[h]
  have q:((nx s g.at_) != (c:Int))=true:=by simp[h]
  clear h
  generalize nx s g.at_=x at *
  go_wp2
  go_ret
  exact⟨by rw[H1.out.1];rfl,by rw[H1.out.2];exact hR.drewN _,(aa.refl _ _).drewN _⟩
end Go.Proofs.YtagklnaaoclmhaaGreatDoor
namespace Go.Proofs.YtagklnaaoclmhaaGreatDoor
open Go.RowKit
theorem D0 {s:ByteArray}{g:Sc}(hb:g.bad<0)(ha:g.at_<=s.size)(c:Nat):sy s g c=(cV s g&&am s g.at_ == c):=by
 unfold sy cV nx
 by_cases h:g.at_=s.size
 ·rw[if_pos h]
  have:¬g.at_<s.size:=by omega
  simp[this]
 ·rw[if_neg h]
  have h2:g.at_<s.size:=by omega
  rw[Bool.eq_iff_iff]
  simp only[decide_eq_true_eq,Bool.and_eq_true,beq_iff_eq]
  constructor
  ·intro h3;exact⟨⟨hb,h2⟩,by omega⟩
  ·intro h3;have:=h3.2;omega
theorem gK (b:Nat)(s:ByteArray)(mv:Mv)(g:Sc)(w:World)(hR:dT w b s mv g)(hs:s.size<=400)(ha:g.at_<=s.size)(hb:g.bad<0):
  Calls Tryz.prog 138 #[.pointer (some ⟨b,0,none⟩)] w fun e w'=>e=.returned (.tuple #[])/\dT w' b s mv (bl s g)/\aa (·=b) w w':=by
 go_enter Tryz.func138,Tryz.ntmps138
 go_wp2
 go_loopg [] (s.size-g.at_) (fun n wr=>∃k:Nat,n=s.size-k/\k<=s.size/\dT wr b s mv { g with at_:=k }/\aa (·=b) w wr/\Hid (dh s (s.size-k) k=dh s (s.size-g.at_) g.at_))
 case atStart=>exact⟨_,rfl,ha,hR,aa.refl _ _,rfl⟩
 case round=>
  obtain⟨k,hn,hk,dP,hK,HF⟩:=hrel
  have HN:=ae hn
  clear hn
  go_wp2_with fail
  refine(fX b s mv { g with at_:=k } 32 _ dP hs hk (by decide)).mono ?_
  rintro e w1 ⟨rfl,jM,dd⟩
  have ht:=D0 (s:=s) (g:={ g with at_:=k }) hb hk 32
  cases hq:sy s { g with at_:=k } 32
  ·have HB:Hid (bl s g={ g with at_:=k }):=by
    unfold Hid
    refine wT (fun _=>HF.out) (fun h=>absurd h (by omega)) (fun _ h=>?_)
    rw[hq]at ht
    have h3:cV s { g with at_:=k }=true:=by simp[cV,hb,h.1]
    rw[h3]at ht
    simp[h.2]at ht
   have Aw:dT w1 b s mv { g with at_:=k }:=by
    have:=jM;unfold tk at this;rw[hq]at this;exact this
   clear ht jM
   go_wp2
   go_end0
   exact⟨rfl,by rw[HB.out];exact Aw,hK.trans dd⟩
  ·have hp:=Lw (s:=s) (a:=k) (c:=32) (by unfold sy at hq;simpa using hq) hk
   have Aw:dT w1 b s mv { g with at_:=k+1 }:=by
    have:=jM;unfold tk at this;rw[hq]at this;exact this
   clear ht jM
   go_wp2
   go_roundg (s.size-(k+1))
   case measure=>have:=HN.out;omega
   case rel=>exact⟨k+1,rfl,by omega,Aw,hK.trans dd,by rw[<-HF.out,show s.size-k=(s.size-(k+1))+1 by omega,dh,if_pos hp];rfl⟩
theorem cW (b:Nat)(s:ByteArray)(mv:Mv)(g:Sc)(c:Nat)(w:World)(hR:dT w b s mv g)(hs:s.size<=400)(hi:Iv s g)(hb:g.bad<0)(hc:c<256):
  Calls Tryz.prog 140 #[.pointer (some ⟨b,0,none⟩),.int .u8 (c:Int)] w fun e w'=>e=.returned (.bool (il s g c))/\dT w' b s mv (sg s g c)/\aa (·=b) w w':=by
 have UK:(bl s g).at_<=s.size:=hi.bl.1 (by rw[ed];exact hb)
 have ht:=D0 (s:=s) (g:=bl s g) (by rw[ed];exact hb) UK c
 have HS:Hid (il s g c=sy s (bl s g) c/\sg s g c=tk s (bl s g) c):=by
  have h1:il s g c=sy s (bl s g) c:=by rw[ht];rfl
  exact⟨h1,by unfold sg tk;rw[h1]⟩
 clear ht
 go_enter Tryz.func140,Tryz.ntmps140
 go_wp2_with fail
 refine(gK b s mv g _ hR hs (hi.1 hb) hb).mono ?_
 rintro e w1 ⟨rfl,jM,dd⟩
 go_wp2_with fail
 refine(fX b s mv (bl s g) c _ jM hs UK hc).mono ?_
 rintro e w2 ⟨rfl,dP,dl⟩
 go_wp2
 go_ret
 exact⟨by rw[HS.out.1];rfl,by rw[HS.out.2];exact dP,dd.trans dl⟩
theorem pL (c:Int)(w:World):
  Calls Tryz.prog 164 #[.int .i64 c] w fun e w'=>e=.returned (.bool (bL c))/\w'=w:=by
 unfold bL
 by_cases h1:97<=c
 ·by_cases h2:c<=122
  ·go_enter Tryz.func164,Tryz.ntmps164
   go_wp2
   go_ret
   exact⟨by simp[h1,h2],rfl⟩
  ·go_enter Tryz.func164,Tryz.ntmps164
   go_wp2
   go_ret
   exact⟨by simp[h1,h2],rfl⟩
 ·go_enter Tryz.func164,Tryz.ntmps164
  go_wp2
  go_ret
  exact⟨by simp;omega,rfl⟩
def CE (c:Int):Bool:=decide (c=38\/c=33\/c=39\/c=91\/c=46\/c=40)||bL c
theorem tU (c:Int)(w:World):
  Calls Tryz.prog 178 #[.int .i64 c] w fun e w'=>e=.returned (.bool (CE c))/\w'=w:=by
 by_cases h:c=38\/c=33\/c=39\/c=91\/c=46\/c=40
 ·have HB:Hid (CE c=true):=by unfold Hid CE;simp[h]
  rcases h with h | h | h | h | h | h
  all_goals
   subst h
   go_enter Tryz.func178,Tryz.ntmps178
   go_wp2
   go_ret
   exact⟨by rw[HB.out];rfl,rfl⟩
 ·have HB:Hid (CE c=bL c):=by unfold Hid CE;simp[h]
  have q1:(c == 38)=false:=beq_eq_false_iff_ne.2 (by omega)
  have q2:(c == 33)=false:=beq_eq_false_iff_ne.2 (by omega)
  have q3:(c == 39)=false:=beq_eq_false_iff_ne.2 (by omega)
  have q4:(c == 91)=false:=beq_eq_false_iff_ne.2 (by omega)
  have q5:(c == 46)=false:=beq_eq_false_iff_ne.2 (by omega)
  have q6:(c == 40)=false:=beq_eq_false_iff_ne.2 (by omega)
  clear h
  go_enter Tryz.func178,Tryz.ntmps178
  go_wp2_with fail
  refine(pL c _).mono ?_
  rintro e w1 ⟨rfl,rfl⟩
  go_wp2
  go_ret
  exact⟨by rw[HB.out];rfl,rfl⟩
def Nn (c:Int):Bool:=decide (c=110\/c=39\/c=92\/c=93\/c=45)
def Vb (c:Int):Int:=if c=110 then 10 else if Nn c then c else 0
theorem Bj (c:Int)(w:World):
  Calls Tryz.prog 217 #[.int .i64 c] w fun e w'=>e=.returned (.tuple #[.int .u8 (Vb c),.bool (Nn c)])/\w'=w:=by
 by_cases h:c=110\/c=39\/c=92\/c=93\/c=45
 ·rcases h with h | h | h | h | h
  all_goals
   subst h
   go_enter Tryz.func217,Tryz.ntmps217
   go_wp2
   go_ret2
   exact⟨rfl,rfl⟩
 ·have HB:Hid (Nn c=false/\Vb c=0):=by
   have h1:Nn c=false:=by unfold Nn;simp[h]
   refine⟨h1,?_⟩
   unfold Vb;rw[if_neg (by omega),h1];rfl
  have q1:(c == 110)=false:=beq_eq_false_iff_ne.2 (by omega)
  have q2:(c == 39)=false:=beq_eq_false_iff_ne.2 (by omega)
  have q3:(c == 92)=false:=beq_eq_false_iff_ne.2 (by omega)
  have q4:(c == 93)=false:=beq_eq_false_iff_ne.2 (by omega)
  have q5:(c == 45)=false:=beq_eq_false_iff_ne.2 (by omega)
  clear h
  go_enter Tryz.func217,Tryz.ntmps217
  go_wp2
  go_ret2
  exact⟨by rw[HB.out.1,HB.out.2];rfl,rfl⟩
end Go.Proofs.YtagklnaaoclmhaaGreatDoor
