import Derived.Test.YtagklnaaoclmhaaGreatDoorMgAR
set_option linter.unusedSimpArgs false
set_option linter.unusedVariables false
namespace Go.Proofs.YtagklnaaoclmhaaGreatDoor
open Go.RowKit

theorem knC_get (l : List (Option Int)) (q : Nat) (h : q < l.length) : (knC l)[q * 2]? = some (.bool l[q].isSome) ∧ (knC l)[q * 2 + 1]? = some (.int .i64 (l[q].getD 0)) := by
  have hf : ∀ a : Option Int, (kn1 a).length = 2 := fun a => by cases a <;> rfl
  have h0 := flat_get kn1 2 hf l q 0 (by omega) h
  have h1 := flat_get kn1 2 hf l q 1 (by omega) h
  unfold knC
  rw [List.getElem?_toArray, List.getElem?_toArray]
  rw [Nat.add_zero] at h0
  rw [h0, h1]
  cases l[q] <;> exact ⟨rfl, rfl⟩
theorem knC_set (l : List (Option Int)) (q : Nat) (t : Int) (h : q < l.length) : ((knC l).setIfInBounds (q * 2) (.bool true)).setIfInBounds (q * 2 + 1) (.int .i64 t) = knC (l.set q (some t)) := by
  unfold knC
  rw [List.setIfInBounds_toArray, List.setIfInBounds_toArray]
  congr 1
  induction l generalizing q with
  | nil => simp at h
  | cons x l ih =>
    cases q with
    | zero => cases x <;> simp [kn1]
    | succ q =>
      have := ih q (by simpa using h)
      rw [List.set_cons_succ, List.flatMap_cons, List.flatMap_cons, ← this]
      have hx : (kn1 x).length = 2 := by cases x <;> rfl
      rw [List.set_append_right _ _ (by rw [hx]; omega), List.set_append_right _ _ (by rw [hx]; omega), hx]
      congr 3 <;> omega

set_option maxRecDepth 100000 in
set_option maxHeartbeats 1600000 in
theorem brW_any {I : Wi} (hI : Ic I) {f : Nat} (hS : StepC I f) (i a : Nat) (t : Int) (s s' : Wt) (mv : Value) (w : World) (ha : a ≤ I.K.len) (hi : Pt4 I i) (hk : (nth I.K.ns i).kind = 4) (h : WkAt I mv s w) (hr : wBr I.K (fun j s => wM I.K f j a s) i a s = some (t, s')) :
    Calls Tryz.prog 191 #[ptB' I.wk, ptrAt I.P i, .int .i64 (a : Int)] w fun e w' => WkOut I mv t s' w e w' := by
  have hl60 := hI.l60
  have hlen := hI.len
  have hp := h.part hi.1
  have hbr := hI.br i hi.1 (hi.2 hk)
  obtain ⟨hbl, hbe⟩ := List.getElem?_eq_some_iff.1 hbr
  have hnum := (h.brk.2.num (I.K.br i) hbl).2
  rw [hbe] at hnum
  have hLl : I.L.length ≤ 5000 := by have := h.brk.2.len; have := h.gm.ar.len; have := hI.nsl; omega
  obtain ⟨z, vR, vP, hb, _, _, _, hPs, _⟩ := hp
  have c6 : w.cell? ⟨I.P.getD i 0, 6, none⟩ = some vP := by simp only [World.cell?, hb]; rfl
  have hpl := objAt_lt (show objAt w (I.P.getD i 0) = _ from hb)
  have hsub4 : ∀ j ∈ (nth I.K.ns i).subs, Pt4 I j := by
    intro j hj
    have hlow := (nth_ok hI.wf.wf hi.1).low j hj
    have hi1 := hi.1
    refine ⟨by omega, fun h4 => ?_⟩
    have := h.brk.2.sub i hi.1 j (by rw [nth_get hi.1] at hj; exact hj)
    exact this h4
  have hsl := gm_sub h.gm i hi.1
  have hch := fun t1 s1 hc => choice_any hI hS I.bg a vP (nth I.K.ns i).subs t1 s s1 mv w ha hPs hsub4 hsl h hc
  obtain ⟨x, hx⟩ : ∃ x, x = I.K.br i * (I.inp.size + 1) := ⟨_, rfl⟩
  have hxk : kIx I.K i a = x + a := by unfold kIx; rw [hlen, hx]
  have hkl : x + a < s.kn.length := by
    rw [h.knl, hlen, hx]
    have h1 : (I.K.br i + 1) * (I.inp.size + 1) ≤ I.L.length * (I.inp.size + 1) := Nat.mul_le_mul_right _ hbl
    have h2 : (I.K.br i + 1) * (I.inp.size + 1) = I.K.br i * (I.inp.size + 1) + (I.inp.size + 1) := Nat.succ_mul _ _
    omega
  have hknl : s.kn.length ≤ 305000 := by
    rw [h.knl, hlen]
    exact Nat.le_trans (Nat.mul_le_mul hLl (show I.inp.size + 1 ≤ 61 by omega)) (by decide)
  have hxi : ((I.K.br i : Nat) : Int) * ((I.inp.size : Int) + 1) = (x : Int) := by rw [hx]; push_cast; rfl
  obtain ⟨k0, k1⟩ := knC_get s.kn (x + a) hkl
  have e0 : w.cell? ⟨I.kb, (x + a) * 2, none⟩ = some (.bool (s.kn[x + a]).isSome) := by simp only [World.cell?, h.kn]; exact k0
  have e1 : w.cell? ⟨I.kb, (x + a) * 2 + 1, none⟩ = some (.int .i64 ((s.kn[x + a]).getD 0)) := by simp only [World.cell?, h.kn]; exact k1
  have hgd : s.kn.getD (kIx I.K i a) none = s.kn[x + a] := by rw [hxk, List.getD_eq_getElem?_getD, List.getElem?_eq_getElem hkl]; rfl
  have c8 : w.cell? ⟨I.wk, 8, none⟩ = some (.slice (some ⟨I.kb, 0, none⟩) s.kn.length s.kn.length) := by simp only [World.cell?, h.blk]; rfl
  obtain ⟨_, _, c2, c3, _, _, _, _, _⟩ := h.cells
  unfold wBr at hr
  rw [hgd] at hr
  unfold ptB' ptrAt at *
  have HX := hide hx
  clear hx hbr hbe
  generalize hpq : I.P.getD i 0 = pq at *
  generalize I.K.br i = br at *
  cases hkn : s.kn[x + a] with
  | some t1 =>
    rw [hkn] at hr e0 e1
    simp only [Option.some.injEq, Prod.mk.injEq] at hr
    obtain ⟨rfl, rfl⟩ := hr
    simp only [Option.isSome_some, Option.getD_some] at e0 e1
    clear hkn hgd k0 k1 hpq
    go_enter Tryz.func191, Tryz.ntmps191
    go_wp2
    go_quiet (fail)
    go_wp2
    go_ret
    exact ⟨rfl, mv, h.drewN hI _, Fr.new ((Kept.refl _ w).drewN _)⟩
  | none =>
    rw [hkn] at hr e0 e1
    simp only at hr
    simp only [Option.isSome_none, Option.getD_none] at e0 e1
    have hgd' : s.kn.getD (kIx I.K i a) none = none := hgd.trans hkn
    cases hc : wCh (fun j s => wM I.K f j a s) (nth I.K.ns i).subs s with
    | none => rw [hc] at hr; cases hr
    | some y =>
      obtain ⟨t1, s1⟩ := y
      rw [hc] at hr
      simp only [Option.some.injEq, Prod.mk.injEq] at hr
      have hC := hch t1 s1 hc
      obtain ⟨pp, cap, hvf⟩ := ownsRow_form hPs
      subst hvf
      have hstp := wCh_stp (fun j s t s' hs hx => (wM_stp f j a s t s' ha hs hx).1) _ _ _ _ h.sane hc
      have hknl1 : s1.kn.length = s.kn.length := hstp.knl
      have hcb : s.cnt ≤ 40001 ∧ s1.cnt ≤ 40001 := by
        have := h.sane.cnt; have := hstp.sane.cnt; have := hI.most
        omega
      obtain ⟨HR1, HR2⟩ : Hid (t1 = t) ∧ Hid ((if s1.cnt = s.cnt then { s1 with kn := s1.kn.set (kIx I.K i a) (some t1) } else s1) = s') := ⟨hr.1, hr.2⟩
      clear hr hch hkn hgd k0 k1 hpq
      have hC' := fun n => (show Calls Tryz.prog 150 #[Value.pointer (some ⟨I.wk, 0, none⟩), Value.int IntKind.i64 (a : Int), Value.slice pp (nth I.K.ns i).subs.length cap] (w.drewN n) fun e w' => WkOut I mv t1 s1 w e w' from by
        have hd := h.drewN hI n
        have := choice_any hI hS I.bg a (Value.slice pp (nth I.K.ns i).subs.length cap) (nth I.K.ns i).subs t1 s s1 mv (w.drewN n) ha hPs hsub4 hsl hd hc
        refine this.mono ?_
        rintro e w' ⟨h1, mv', h2, h3⟩
        exact ⟨h1, mv', h2, (Fr.new ((Kept.refl _ w).drewN n)).trans h3⟩)
      go_enter Tryz.func191, Tryz.ntmps191
      go_wp2
      go_quiet (fail)
      go_wp2_with fail
      refine (hC' _).mono ?_
      rintro e w2 ⟨rfl, mv2, h2, hF2⟩
      obtain ⟨_, _, _, d3, _, _, _, _, _⟩ := h2.cells
      by_cases hcc : s1.cnt = s.cnt
      · have q : ((s1.cnt : Int) == (s.cnt : Int)) = true := by simp [hcc]
        have HR3 := HR2.out
        rw [if_pos hcc, hxk] at HR3
        obtain ⟨j0, j1⟩ := knC_get s1.kn (x + a) (by omega)
        have g0 : ∃ v, w2.cell? ⟨I.kb, (x + a) * 2, none⟩ = some v := ⟨_, by simp only [World.cell?, h2.kn]; exact j0⟩
        have g1 : ∃ v, w2.cell? ⟨I.kb, (x + a) * 2 + 1, none⟩ = some v := ⟨_, by simp only [World.cell?, h2.kn]; exact j1⟩
        obtain ⟨v0, g0⟩ := g0
        obtain ⟨v1, g1⟩ := g1
        have gf0 : w2.frozen? ⟨I.kb, (x + a) * 2, none⟩ = false := by simp [World.frozen?, h2.kn]
        have gf1 : w2.frozen? ⟨I.kb, (x + a) * 2 + 1, none⟩ = false := by simp [World.frozen?, h2.kn]
        have hW : WkAt I mv2 s' ((w2.setCell ⟨I.kb, (x + a) * 2, none⟩ (.bool true)).setCell ⟨I.kb, (x + a) * 2 + 1, none⟩ (.int .i64 t1)) ∧ Fr I.b0 mv2.ownBlock mv2.ownBlock w2 ((w2.setCell ⟨I.kb, (x + a) * 2, none⟩ (.bool true)).setCell ⟨I.kb, (x + a) * 2 + 1, none⟩ (.int .i64 t1)) := by
          have hkk : Kept (· = I.kb) w2 ((w2.setCell ⟨I.kb, (x + a) * 2, none⟩ (.bool true)).setCell ⟨I.kb, (x + a) * 2 + 1, none⟩ (.int .i64 t1)) := ((Kept.refl (· = I.kb) w2).setCell (p := ⟨I.kb, (x + a) * 2, none⟩) (fun _ => rfl) _).setCell (p := ⟨I.kb, (x + a) * 2 + 1, none⟩) (fun _ => rfl) _
          have hff : Fr I.b0 mv2.ownBlock mv2.ownBlock w2 _ := Fr.of hkk (fun k _ e => by
            have e' : k = I.kb := e
            subst e'
            refine ⟨hI.low.2, fun c t f hc => ?_⟩
            rw [h2.kn] at hc; simp at hc
            exact .inl (.inr (.inl hc.2.1.symm)))
          have hkw : I.wk ≠ I.kb := fun e => by
            have := h2.kn
            rw [← e, h2.blk] at this; simp at this
          obtain ⟨MB, m1, m2⟩ := h2.mt
          refine ⟨h2.turn hkk hff (fun j e => ?_) ?_ (by rw [← HR3]) ⟨MB, own_kept m1 hkk (fun q hq e => ?_), ?_⟩ ?_ ?_ (by rw [← HR3]; simp) (by rw [← HR3]; exact h2.far1) (by rw [← HR3]; exact h2.far2), hff⟩
          · have e' : j = I.kb := e
            subst e'
            exact ⟨_, _, h2.kn, by decide, by decide, by decide, by decide, by decide⟩
          · rw [hkk.block I.wk (objAt_lt (show objAt w2 I.wk = _ from h2.blk)) hkw, h2.blk, ← HR3]
            simp
          · have e' : q = I.kb := e
            obtain ⟨cc, hc⟩ := ownsRow_obj m1 hq
            rw [e', show objAt w2 I.kb = _ from h2.kn] at hc
            simp at hc
          · rw [← HR3]
            exact m2.mono (fun a b _ hr => hr.fr hff)
          · rw [heap_set_at (heap_set_at h2.kn _ _) _ _, knC_set s1.kn (x + a) t1 (by omega), ← HR3]
          · have hbrs := wBr_stp (fun j s t s' hs hx => (wM_stp f j a s t s' ha hs hx).1) h.sane (i := i) (a := a) (t := t) (s' := s') (by
              unfold wBr
              rw [hgd', hc]
              simp only [Option.some.injEq, Prod.mk.injEq]
              exact ⟨HR1.out, HR2.out⟩)
            exact hbrs.sane
        go_wp2
        go_ret
        rw [← HR1.out]
        exact ⟨rfl, mv2, hW.1, hF2.trans hW.2⟩
      · have q : ((s1.cnt : Int) == (s.cnt : Int)) = false := by simp; omega
        have HR3 := HR2.out
        rw [if_neg hcc] at HR3
        subst HR3
        go_wp2
        go_ret
        rw [← HR1.out]
        exact ⟨rfl, mv2, h2, hF2⟩
end Go.Proofs.YtagklnaaoclmhaaGreatDoor

namespace Go.Proofs.YtagklnaaoclmhaaGreatDoor
open Go.RowKit

theorem info147 : (Tryz.prog.info? 147).map (fun i => (i.zero, i.size, i.bytes)) = some (some (.pointer none), 1, 8) := by kernel_rfl
set_option maxRecDepth 100000 in
set_option maxHeartbeats 800000 in
theorem clone0_any (w : World) : Calls Tryz.prog 151 #[.slice none 0 0] w fun e w' => e = .returned (.slice none 0 0) ∧ w' = w := by
  have q : ∀ (w : World) (a : Option Addr) (n c n' c' : Nat), (binOp .eql 157 (.slice a n c) (.slice none n' c')).run Tryz.prog w = .ok (.bool a.isNone) w := fun w a n c n' c' => Lib.run_eql_slice_nil w _ _ a n c n' c' Tryz.underlying157
  go_enter Tryz.func151, Tryz.ntmps151
  go_wp2
  go_ret
  exact ⟨rfl, rfl⟩
set_option maxRecDepth 100000 in
set_option maxHeartbeats 800000 in
theorem clone1_any (g o c : Nat) (IB : List Nat) (w : World) (hg : g < w.heap.size) (hc : ∀ j (h : j < IB.length), w.cell? ⟨g, o + j, none⟩ = some (ptB' IB[j])) (hl : IB.length ≤ 50000) :
    Calls Tryz.prog 151 #[.slice (some ⟨g, o, none⟩) IB.length c] w fun e w' => ∃ v, e = .returned v ∧ InAt w' (some g) v IB ∧ Kept (fun _ => False) w w' := by
  have q : ∀ (w : World) (a : Option Addr) (n c n' c' : Nat), (binOp .eql 157 (.slice a n c) (.slice none n' c')).run Tryz.prog w = .ok (.bool a.isNone) w := fun w a n c n' c' => Lib.run_eql_slice_nil w _ _ a n c n' c' Tryz.underlying157
  obtain ⟨i0, hi0, hz0, hz1, hz2⟩ := info_parts info147
  rcases Nat.eq_zero_or_pos IB.length with h0 | h0
  · have hn : IB = [] := List.eq_nil_of_length_eq_zero h0
    subst hn
    go_enter Tryz.func151, Tryz.ntmps151
    go_wp2
    go_ret
    exact ⟨_, rfl, ⟨some ⟨w.heap.size, 0, none⟩, 0, rfl, .inl rfl⟩, (Kept.refl _ w).alloc _⟩
  · have hown : (w.alloc (.cells #[] 147)).ownsRow w.heap.size 147 1 (.slice (some ⟨w.heap.size, 0, none⟩) 0 0) 0 [] := ⟨rfl, .inr ⟨w.heap.size, 0, #[], rfl, Nat.le_refl _, heap_alloc_new _ _, Nat.le_refl _, by decide, rfl, rfl⟩⟩
    have hnews : ∀ j u, (IB.map ptB')[j]? = some u → (w.alloc (.cells #[] 147)).cell? ((⟨g, o, none⟩ : Addr).add j) = some u := by
      intro j u hu
      have hadd : (⟨g, o, none⟩ : Addr).add j = ⟨g, o + j, none⟩ := by unfold Addr.add; split <;> simp_all
      rw [List.getElem?_map] at hu
      cases hj : IB[j]? with
      | none => rw [hj] at hu; cases hu
      | some b =>
        obtain ⟨hjl, hjb⟩ := List.getElem?_eq_some_iff.1 hj
        rw [hj] at hu
        simp only [Option.map_some, Option.some.injEq] at hu
        rw [hadd, ← hu, ← hjb, ← hc j hjl]
        simp only [World.cell?, Below.heap_alloc _ _ _ hg]
    go_enter Tryz.func151, Tryz.ntmps151
    go_wp2_with (at_builtin; refine wpList_append_lies _ rfl _ _ _ rfl w.heap.size 147 i0 _ 1 8 Tryz.underlying157 hi0 hz0 hz1 hz2 rfl (by omega) (.slice (some ⟨w.heap.size, 0, none⟩) 0 0) 0 [] (by rfl) hown ⟨g, o, none⟩ IB.length c (IB.map ptB') (by rfl) (by simp) hnews (by simp [Value.oneCell', ptB']) h0 (by simp [maxLen]; omega) (by omega) (by simp) (w.heap.size + 1) (by simp) ?_; intro gg cap w9 hown9 hgrow hat hlt)
    go_wp2
    go_ret
    have hk9 : Kept (fun k => (Value.slice (some ⟨w.heap.size, 0, none⟩) 0 0).ownBlock = some k) (w.alloc (.cells #[] 147)) w9 := (Kept.refl _ _).grown hgrow (fun k hk _ => hk)
    have hggn : w.heap.size ≤ gg := by
      rcases hat with h | h
      · have : w.heap.size = gg := Option.some.inj h
        omega
      · omega
    refine ⟨_, rfl, ⟨some ⟨gg, 0, none⟩, cap, rfl, .inr ?_⟩, ?_⟩
    · rcases hown9.2 with ⟨e1, _⟩ | ⟨g2, cap2, cur, e1, e2, e3, e4, e5, e6, e7⟩
      · cases e1
      · have e1' : gg = g2 := by
          have := Value.slice.inj e1
          have := Option.some.inj this.1
          exact congrArg Addr.block this
        subst e1'
        refine ⟨gg, cur, rfl, fun e => by have := Option.some.inj e; omega, e3, fun i hi => ?_⟩
        have hi2 : i < (IB.map ptB').length := by simpa using hi
        have e8 : (cur.toList.take ((0 + IB.length) * 1))[i]? = ([] ++ IB.map ptB')[i]? := by rw [e7]
        rw [List.nil_append, List.getElem?_take_of_lt (by omega), List.getElem?_eq_getElem hi2] at e8
        simpa using e8
    · refine ⟨hk9.os, hk9.tape, hk9.output, by have := hk9.size; simp at this; omega, fun k hk _ => ?_⟩
      rw [hk9.block k (by simp; omega) (fun e => by
        have : w.heap.size = k := Option.some.inj e
        omega)]
      exact Below.heap_alloc _ _ _ hk
theorem WkAt.same {I : Wi} (hI : Ic I) {mv : Value} {s : Wt} {w w' : World} (h : WkAt I mv s w) (hk : Kept (fun _ => False) w w') : WkAt I mv s w' :=
  h.nums hI (hk.mono (fun _ _ x => x.elim)) (by rw [hk.block I.wk (objAt_lt (show objAt w I.wk = _ from h.blk)) (fun x => x)]; exact h.blk) rfl rfl rfl h.sane h.far1 h.far2
theorem InAt.fr {b0 : Nat} {m m' m0 : Option Nat} {w w' : World} (hf : Fr b0 m m' w w') {v : Value} {IB : List Nat} (h : InAt w m0 v IB) (hm : m0 = m) (hm' : ∀ j, m' = some j → m0 = some j) : InAt w' m' v IB := by
  obtain ⟨p, c, hv, hr⟩ := h
  refine ⟨p, c, hv, ?_⟩
  rcases hr with e | ⟨g, cur, e1, e2, e3, e4⟩
  · exact .inl e
  · refine .inr ⟨g, cur, e1, fun e => e2 (hm' g e), ?_, e4⟩
    rw [hf.kept.block g (objAt_lt (show objAt w g = _ from e3)) (fun hw => ?_)]
    · exact e3
    · rcases hw.ty e3 with h1 | ⟨_, h2⟩
      · rcases h1 with h1 | h1 | h1 | h1 | h1 | h1 | h1 <;> exact absurd h1 (by decide)
      · exact e2 (by rw [hm]; exact h2)
/-- What do leaves. -/
structure DoOut (I : Wi) (mv : Value) (r : Rs) (s' : Wt) (w : World) (e : Ending) (w' : World) : Prop where
  ex : ∃ rb mv', e = .returned (ptB' rb) ∧ RsAt w' mv'.ownBlock rb r ∧ WkAt I mv' s' w' ∧ Fr I.b0 mv.ownBlock mv'.ownBlock w w'

set_option maxRecDepth 100000 in
set_option maxHeartbeats 3200000 in
theorem doW_any {I : Wi} (hI : Ic I) {f : Nat} (hS : StepC I f) (rule a : Nat) (t : Int) (s s1 : Wt) (mv : Value) (w : World) (ha : a ≤ I.K.len) (hru : rule < I.K.rs.length) (h : WkAt I mv s w) (hm : s.cnt ≤ I.K.most) (hc : wCh (fun j s => wM I.K f j a s) (nth I.K.ns (isI I.K.rs rule)).subs (wBeg s s.mem) = some (t, s1)) :
    Calls Tryz.prog 104 #[ptB' I.wk, .int .i64 (rule : Int), .int .i64 (a : Int)] w fun e w' => DoOut I mv (wRes rule a s t s1) { s1 with mt := s1.mt.take s.mt.length } w e w' := by
  obtain ⟨c0, _, _, c3, c4, c5, g0, _, _⟩ := h.cells
  have f3 := h.frz 3
  have f4 := h.frz 4
  have hmost := hI.most
  have hsane := h.sane
  have hcb : s.cnt ≤ 20000 := by omega
  have hdn : s.dn ≤ 20000 := by have := h.sane.dn; omega
  -- the rule's choice
  obtain ⟨rg, rcap, hrv, _, _, r2⟩ := rl_cells h.gm.own hru
  have his : I.K.rs[rule].is = isI I.K.rs rule := by unfold isI; simp [List.getD_eq_getElem?_getD, hru]
  rw [his] at r2
  have hil : isI I.K.rs rule < I.K.ns.length := by rw [← his]; exact hI.wf.is _ (List.getElem_mem hru)
  obtain ⟨zg, hgb⟩ := h.gm.gram
  have gb0 : w.cell? ⟨I.gb, 0, none⟩ = some I.rv := by simp only [World.cell?, hgb]; rfl
  have hp := h.part hil
  obtain ⟨z, vR, vP, hb, _, _, _, hPs, _⟩ := hp
  have p6 : w.cell? ⟨I.P.getD (isI I.K.rs rule) 0, 6, none⟩ = some vP := by simp only [World.cell?, hb]; rfl
  have hpl := objAt_lt (show objAt w (I.P.getD (isI I.K.rs rule) 0) = _ from hb)
  have hsub4 : ∀ j ∈ (nth I.K.ns (isI I.K.rs rule)).subs, Pt4 I j := by
    intro j hj
    have hlow := (nth_ok hI.wf.wf hil).low j hj
    refine ⟨by omega, fun h4 => ?_⟩
    have := h.brk.2.sub _ hil j (by rw [nth_get hil] at hj; exact hj)
    exact this h4
  have hsl := gm_sub h.gm _ hil
  obtain ⟨MB, hM1, hM2⟩ := h.mt
  obtain ⟨p0, cp0, hmv⟩ := ownsRow_form hM1
  have hml : MB.length = s.mt.length := hM2.len
  rw [hml] at hmv
  have hmtl : s.mt.length ≤ 20000 := by have := h.sane.mtl; omega
  -- the numbers go up
  have hB : WkAt I mv (wBeg s s.mem) ((w.setCell ⟨I.wk, 3, none⟩ (.int .i64 ((s.cnt : Int) + 1))).setCell ⟨I.wk, 4, none⟩ (.int .i64 ((s.dn : Int) + 1))) := by
    refine h.nums hI (((Kept.refl (· = I.wk) w).setCell (p := ⟨I.wk, 3, none⟩) (fun _ => rfl) _).setCell (p := ⟨I.wk, 4, none⟩) (fun _ => rfl) _) ?_ rfl rfl rfl ?_ h.far1 h.far2
    · rw [heap_set_at (heap_set_at h.blk 3 _) 4 _]
      simp [wBeg]
    · have := hsane.cnt; have := hsane.dn; have := hsane.mtl; have := hsane.hits
      exact ⟨by show s.cnt + 1 ≤ _; omega, by show s.dn + 1 ≤ s.cnt + 1; omega, by show s.mt.length ≤ s.cnt + 1; omega, by show s.mem.hits ≤ s.cnt + 1; omega, hsane.ent, hsane.kn⟩
  have hstp := wCh_stp (fun j s t s' hs hx => (wM_stp f j a s t s' ha hs hx).1) _ _ _ _ hB.sane hc
  obtain ⟨pp, cap, hvf⟩ := ownsRow_form hPs
  subst hvf
  have hFB := h.wkF hI (((Kept.refl (· = I.wk) w).setCell (p := ⟨I.wk, 3, none⟩) (fun _ => rfl) (.int .i64 ((s.cnt : Int) + 1))).setCell (p := ⟨I.wk, 4, none⟩) (fun _ => rfl) (.int .i64 ((s.dn : Int) + 1)))
  have hch := fun n => choice_any hI hS I.bg a (Value.slice pp (nth I.K.ns (isI I.K.rs rule)).subs.length cap) (nth I.K.ns (isI I.K.rs rule)).subs t (wBeg s s.mem) s1 mv _ ha (own_fr (hFB.trans (Fr.new ((Kept.refl _ _).drewN n))) hPs) hsub4 hsl (hB.drewN hI n) hc
  have hwg : I.wk ≠ I.gd := fun e => by have := h.gnd; rw [← e, h.blk] at this; simp at this
  have hwgb : I.wk ≠ I.gb := fun e => by rw [← e, h.blk] at hgb; simp at hgb
  have hwp : I.wk ≠ I.P.getD (isI I.K.rs rule) 0 := fun e => by rw [← e, h.blk] at hb; simp [ptB] at hb
  have hwr : I.wk ≠ rg := fun e => by
    obtain ⟨cc, hcc⟩ := ownsRow_obj h.gm.own (show I.rv.ownBlock = some rg by rw [hrv]; rfl)
    rw [← e, show objAt w I.wk = _ from h.blk] at hcc; simp at hcc
  rw [hrv] at gb0
  have hru8 := hI.wf.len
  unfold ptB' ptrAt at *
  generalize I.P.getD (isI I.K.rs rule) 0 = pq at *
  subst hmv
  have HC := hide hc
  have hscnt := hstp.cnt
  have hscnt2 := hstp.sane.cnt
  clear hc his hM1 hM2 hml
  go_enter Tryz.func104, Tryz.ntmps104
  go_wp2
  go_quiet (fail)
  go_wp2_with fail
  refine (hch nq).mono ?_
  rintro e w2 ⟨rfl, mv2, h2, hF2⟩
  have hF02 : Fr I.b0 (Value.slice p0 s.mt.length cp0).ownBlock mv2.ownBlock w w2 := (hFB.trans (Fr.new ((Kept.refl _ _).drewN nq))).trans hF2
  obtain ⟨l, hl⟩ := hstp.pre
  have hl' : s1.mt = s.mt ++ l := hl
  obtain ⟨_, _, _, d3, _, d5, _, _, _⟩ := h2.cells
  obtain ⟨MB2, m1, m2⟩ := h2.mt
  have hml2 : MB2.length = s1.mt.length := m2.len
  have hbm : s.mt.length ≤ MB2.length := by rw [hml2, hl']; simp
  obtain ⟨p, c, e1, e2, e3, e4, e5, e6, e7⟩ := cut_own m1 hbm
  have hwkl := objAt_lt (show objAt w2 I.wk = _ from h2.blk)
  have hmt1 : s1.mt.length ≤ 50000 := by have := h2.sane.mtl; omega
  have hwr1 : IntKind.i64.wrap ((s1.cnt : Int) - (s.cnt : Int)) = (s1.cnt : Int) - (s.cnt : Int) := wrapZ (by have : s.cnt + 1 ≤ s1.cnt := hscnt; omega)
  unfold maxLen at e4
  -- what comes of it, once the clone is there
  have hfin : ∀ (W3 : World) (v : Value), Kept (fun _ => False) w2 W3 → InAt W3 mv2.ownBlock v (MB2.drop s.mt.length) → ∀ n, DoOut I (Value.slice p0 s.mt.length cp0) (wRes rule a s t s1) { s1 with mt := s1.mt.take s.mt.length } w (.returned (.pointer (some ⟨W3.heap.size, 0, none⟩))) (((W3.alloc (.cells #[.int .i64 (rule : Int), .int .i64 (a : Int), .int .i64 t, .int .i64 ((s1.cnt : Int) - (s.cnt : Int)), v] 229)).drewN n).setCell ⟨I.wk, 5, none⟩ (.slice p s.mt.length c)) := by
    intro W3 v hK3 hin n
    have hKa : Kept (fun _ => False) w2 ((W3.alloc (.cells #[.int .i64 (rule : Int), .int .i64 (a : Int), .int .i64 t, .int .i64 ((s1.cnt : Int) - (s.cnt : Int)), v] 229)).drewN n) := (hK3.alloc _).drewN n
    have h4 := h2.same hI hKa
    obtain ⟨pp', cc', a1, a2, a3, a4, a5, a6, a7, a8⟩ := h4.cut hI (k := s.mt.length) (by rw [hl']; simp)
    have hpc : pp' = p ∧ cc' = c := by
      rw [e1] at a1
      have := Value.slice.inj a1
      exact ⟨this.1.symm, this.2.2.symm⟩
    obtain ⟨rfl, rfl⟩ := hpc
    refine ⟨⟨W3.heap.size, _, rfl, ?_, a6, (hF02.trans (Fr.new hKa)).trans (by rw [a7]; exact a8)⟩⟩
    rw [a7]
    have hf4 : Fr I.b0 mv2.ownBlock mv2.ownBlock W3 _ := (Fr.new (b0 := I.b0) (m := mv2.ownBlock) (((Kept.refl _ W3).alloc (.cells #[.int .i64 (rule : Int), .int .i64 (a : Int), .int .i64 t, .int .i64 ((s1.cnt : Int) - (s.cnt : Int)), v] 229)).drewN n)).trans a8
    have hin5 := hin.fr hf4 rfl (fun j e => e)
    have hcs : ((s1.cnt : Int) - (s.cnt : Int)) = ((s1.cnt - s.cnt : Nat) : Int) := by
      have : s.cnt + 1 ≤ s1.cnt := hscnt
      omega
    have hdl : (MB2.drop s.mt.length).length = (s1.mt.drop s.mt.length).length := by rw [List.length_drop, List.length_drop, hml2]
    unfold wRes
    refine .mk (v := v) (IB := MB2.drop s.mt.length) ?_ hin5 hdl (fun i hi hi' => ?_)
    · rw [Below.heap_setCell _ _ _ _ (show W3.heap.size ≠ I.wk by have := hK3.size; omega)]
      rw [World.drewN_heap', ← hcs]
      exact heap_alloc_new _ _
    · exact (((m2.drop s.mt.length).get i hi hi').fr (Fr.new (b0 := I.b0) hKa)).fr a8
  cases p with
  | none =>
    obtain ⟨k1, k2, k3⟩ := e6 rfl
    subst k3
    subst k2
    have hK0 := clone0_any w2.drew
    have hfin2 := fun n => hfin w2.drew (.slice none 0 0) (Kept.refl _ w2).drew ⟨none, 0, by simp, .inl (by simp)⟩ n
    have d5' : w2.cell? ⟨I.wk, 5, none⟩ = some (.slice none 0 0) := by rw [d5, e1]; rfl
    have f5 := h2.frz 5
    clear d5 e1 hfin hch m1 m2 e2
    rw [k1] at hfin2 ⊢
    have hcn : s.cnt ≤ s1.cnt := by have : s.cnt + 1 ≤ s1.cnt := hscnt; omega
    go_wp2_with fail
    go_region_held3 (fun w' => w'.cell? ⟨I.wk, 3, none⟩ = some (.int .i64 (s1.cnt : Int)) ∧ w'.cell? ⟨I.wk, 5, none⟩ = some (.slice none 0 0)) (go_keep) ((go_at_call 151; refine hK0.mono ?_; rintro e w3 ⟨rfl, rfl⟩))
    obtain ⟨w4, hw4⟩ : ∃ w4, w4 = (w2.alloc (.cells #[.int .i64 (rule : Int), .int .i64 (a : Int), .int .i64 t, .int .i64 ((s1.cnt : Int) - (s.cnt : Int)), .slice none 0 0] 229)).drew := ⟨_, rfl⟩
    rw [← hw4]
    have hx5 : w4.cell? ⟨I.wk, 5, none⟩ = some (.slice none 0 0) := by
      rw [hw4]
      have := Below.heap_alloc w2 (.cells #[.int .i64 (rule : Int), .int .i64 (a : Int), .int .i64 t, .int .i64 ((s1.cnt : Int) - (s.cnt : Int)), .slice none 0 0] 229) I.wk hwkl
      simp only [World.cell?, World.drew_heap', this]
      exact d5'
    have hy5 : w4.frozen? ⟨I.wk, 5, none⟩ = false := by
      rw [hw4]
      have := Below.heap_alloc w2 (.cells #[.int .i64 (rule : Int), .int .i64 (a : Int), .int .i64 t, .int .i64 ((s1.cnt : Int) - (s.cnt : Int)), .slice none 0 0] 229) I.wk hwkl
      simp only [World.frozen?, World.drew_heap', this]
      exact f5
    have HD : Hid (DoOut I (Value.slice p0 s.mt.length cp0) (wRes rule a s t s1) { s1 with mt := s1.mt.take s.mt.length } w (.returned (.pointer (some ⟨w2.heap.size, 0, none⟩))) (w4.setCell ⟨I.wk, 5, none⟩ (.slice none 0 0))) := by
      unfold Hid; rw [hw4]
      have := hfin2 0
      rw [k1]
      exact this
    clear hw4 hfin2
    go_wp2
    go_ret
    exact HD.out
  | some ad =>
    obtain ⟨ab, ao, asp⟩ := ad
    obtain ⟨rfl, rfl⟩ := e7 _ rfl
    have hrow := m1.2
    have hab : ab < w2.heap.size := (m1.lt ab (by rw [e1]; rfl)).2
    have hobk : mv2.ownBlock = some ab := by rw [e1]; rfl
    have f5 := h2.frz 5
    have hlc : s1.mt.length ≤ c := by omega
    have hbl : s.mt.length ≤ s1.mt.length := by omega
    have y1 : (0 : Int) ≤ (s.mt.length : Int) := by omega
    have y3 : (s1.mt.length : Int) ≤ (c : Int) := by omega
    have y5 : ¬ (c : Int) < (s1.mt.length : Int) := by omega
    have y6 : ¬ (c : Int) < (s.mt.length : Int) := by omega
    have hend : ∀ (w3 : World) (v3 : Value), Kept (fun _ => False) w2 w3 → InAt w3 (some ab) v3 (MB2.drop s.mt.length) → ∃ w4, w4 = (w3.alloc (.cells #[.int .i64 (rule : Int), .int .i64 (a : Int), .int .i64 t, .int .i64 ((s1.cnt : Int) - (s.cnt : Int)), v3] 229)) ∧ w4.cell? ⟨I.wk, 5, none⟩ = w2.cell? ⟨I.wk, 5, none⟩ ∧ w4.frozen? ⟨I.wk, 5, none⟩ = false ∧ Hid (DoOut I (Value.slice p0 s.mt.length cp0) (wRes rule a s t s1) { s1 with mt := s1.mt.take s.mt.length } w (.returned (.pointer (some ⟨w3.heap.size, 0, none⟩))) (w4.setCell ⟨I.wk, 5, none⟩ (.slice (some ⟨ab, 0, none⟩) s.mt.length c))) := by
      intro w3 v3 hK3 hin3
      have hKa : Kept (fun _ => False) w2 (w3.alloc (.cells #[.int .i64 (rule : Int), .int .i64 (a : Int), .int .i64 t, .int .i64 ((s1.cnt : Int) - (s.cnt : Int)), v3] 229)) := hK3.alloc _
      refine ⟨_, rfl, hKa.cell (p := ⟨I.wk, 5, none⟩) hwkl (fun x => x), (hKa.frozen (p := ⟨I.wk, 5, none⟩) hwkl (fun x => x)).trans f5, ?_⟩
      have := hfin w3 v3 hK3 (by rw [hobk]; exact hin3) 0
      exact this
    by_cases hcb : c = s.mt.length
    · have hsl1 : s1.mt.length = s.mt.length := by omega
      have hdn : MB2.drop s.mt.length = [] := List.drop_eq_nil_of_le (by omega)
      have hcl := clone1_any ab 0 0 [] w2.drew hab (fun j hj => absurd hj (by simp)) (by simp)
      have d5' : w2.cell? ⟨I.wk, 5, none⟩ = some (.slice (some ⟨ab, 0, none⟩) s.mt.length s.mt.length) := by rw [d5, e1, hml2, hsl1, hcb]
      rw [hdn] at hend
      rw [hcb] at hend
      simp only [List.length_nil] at hcl
      clear d5 hch m1 m2 e2 hrow hfin y3 y5 y6 hl hl' hstp
      go_wp2_with fail
      go_region_held3 (fun w' => w'.cell? ⟨I.wk, 3, none⟩ = some (.int .i64 (s1.cnt : Int)) ∧ w'.cell? ⟨I.wk, 5, none⟩ = some (.slice (some ⟨ab, 0, none⟩) s.mt.length s.mt.length)) (go_keep) ((go_at_call 151; refine hcl.mono ?_; rintro e w3 ⟨v3, rfl, ⟨pv, cv, rfl, hrow3⟩, hK3⟩; have x3 : w3.cell? ⟨I.wk, 3, none⟩ = some (.int .i64 (s1.cnt : Int)) := (hK3.cell (p := ⟨I.wk, 3, none⟩) hwkl (fun x => x)).trans d3; have x5 : w3.cell? ⟨I.wk, 5, none⟩ = some (.slice (some ⟨ab, 0, none⟩) s.mt.length s.mt.length) := (hK3.cell (p := ⟨I.wk, 5, none⟩) hwkl (fun x => x)).trans d5'))
      have hend3 := hend w3 _ ((Kept.refl (fun _ => False) w2).drew.trans hK3) ⟨pv, cv, rfl, .inl rfl⟩
      try simp only [List.length_nil] at hend3
      obtain ⟨w4, hw4, x6, x7, HD⟩ := hend3
      rw [d5'] at x6
      rw [← hw4]
      clear hw4 hend
      go_wp2
      go_ret
      exact HD.out
    · have d5' : w2.cell? ⟨I.wk, 5, none⟩ = some (.slice (some ⟨ab, 0, none⟩) s1.mt.length c) := by rw [d5, e1, hml2]
      have hcl := clone1_any ab s.mt.length (c - s.mt.length) (MB2.drop s.mt.length) w2.drew hab (fun j hj => by
        have hj2 : s.mt.length + j < MB2.length := by rw [List.length_drop] at hj; omega
        have h9 := m1
        rw [e1] at h9
        have := h9.cellAt (s.mt.length + j) (by rw [Nat.mul_one]; exact hj2)
        show w2.cell? _ = _
        rw [this]
        rw [List.getElem_drop]
        simp [hj2]) (by rw [List.length_drop]; omega)
      have hdl : (MB2.drop s.mt.length).length = s1.mt.length - s.mt.length := by rw [List.length_drop, hml2]
      rw [hdl] at hcl
      have hcb' : ¬ s.mt.length = c := fun e => hcb e.symm
      have y2 : (s.mt.length : Int) ≤ (s1.mt.length : Int) := by omega
      clear d5 hch m1 m2 e2 hrow hfin hl hl' hml2 hstp
      go_wp2_with fail
      go_region_held3 (fun w' => w'.cell? ⟨I.wk, 3, none⟩ = some (.int .i64 (s1.cnt : Int)) ∧ w'.cell? ⟨I.wk, 5, none⟩ = some (.slice (some ⟨ab, 0, none⟩) s1.mt.length c)) (go_keep) ((go_at_call 151; refine hcl.mono ?_; rintro e w3 ⟨v3, rfl, ⟨pv, cv, rfl, hrow3⟩, hK3⟩; have x3 : w3.cell? ⟨I.wk, 3, none⟩ = some (.int .i64 (s1.cnt : Int)) := (hK3.cell (p := ⟨I.wk, 3, none⟩) hwkl (fun x => x)).trans d3; have x5 : w3.cell? ⟨I.wk, 5, none⟩ = some (.slice (some ⟨ab, 0, none⟩) s1.mt.length c) := (hK3.cell (p := ⟨I.wk, 5, none⟩) hwkl (fun x => x)).trans d5'))
      have hend3 := hend w3 _ ((Kept.refl (fun _ => False) w2).drew.trans hK3) ⟨pv, cv, rfl, hrow3⟩
      try simp only [List.length_nil] at hend3
      obtain ⟨w4, hw4, x6, x7, HD⟩ := hend3
      rw [d5'] at x6
      rw [hdl] at hw4
      rw [← hw4]
      clear hw4 hend
      go_wp2
      go_ret
      exact HD.out
end Go.Proofs.YtagklnaaoclmhaaGreatDoor
