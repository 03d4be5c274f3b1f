import Derived.Test.YtagklnaaoclmhaaGreatDoorMgAS
set_option linter.unusedSimpArgs false
set_option linter.unusedVariables false
namespace Go.Proofs.YtagklnaaoclmhaaGreatDoor
open Go.RowKit

/-- The walk behind a turn of the memory. -/
theorem WkAt.setMem {I : Wi} (hI : Ic I) {mv : Value} {s : Wt} {w w' : World} {M' : Ms} (h : WkAt I mv s w) (hk : Kept (Mw I.b0 w) w w') (hm : ∃ eb ob EL, MmI w' I.b0 I.mb eb ob EL I.K.mc (RsAt w mv.ownBlock) M') (hs : Sane I.K { s with mem := M' }) :
    WkAt I mv { s with mem := M' } w' ∧ Fr I.b0 mv.ownBlock mv.ownBlock w w' := by
  have hf : Fr I.b0 mv.ownBlock mv.ownBlock w w' := Fr.mem hk
  have hno : ∀ (j : Nat) (c : Array Value) (t : TypeId), w.heap[j]? = some (Obj.cells c t (0, 0)) → (t = 159 ∨ t = 311 ∨ t = 147) → ¬ Mw I.b0 w j := by
    intro j c t hj ht hw
    have := hw.2 _ _ _ hj
    rcases ht with ht | ht | ht <;> subst ht <;> rcases this with h1 | h1 | h1 | h1 | h1 <;> exact absurd h1 (by decide)
  obtain ⟨p1, p2, p3⟩ := h.part_same hf
  obtain ⟨eb, ob, EL, hm⟩ := hm
  obtain ⟨MB, m1, m2⟩ := h.mt
  refine ⟨⟨?_, by rw [p3]; exact h.gnd, h.gm.fr hf, ⟨?_, h.brk.2.cellsKept p1⟩, ⟨eb, ob, EL, hm.rel (fun b r hr => hr.fr hf)⟩, ⟨MB, own_kept m1 hk (fun i hi hw => ?_), m2.mono (fun a b _ hr => hr.fr hf)⟩, ?_, hs, h.knl, h.far1, h.far2⟩, hf⟩
  · rw [hk.block I.wk (objAt_lt (show objAt w I.wk = _ from h.blk)) (hno _ _ _ h.blk (.inl rfl))]; exact h.blk
  · have := h.brk.1
    simp only [World.cell?, p2] at this ⊢
    exact this
  · obtain ⟨c, hc⟩ := ownsRow_obj m1 hi
    exact hno _ _ _ hc (.inr (.inr rfl)) hw
  · rw [hk.block I.kb (objAt_lt (show objAt w I.kb = _ from h.kn)) (hno _ _ _ h.kn (.inr (.inl rfl)))]; exact h.kn

/-- .. and of the walk's numbers. -/
theorem WkAt.setMemN {I : Wi} (hI : Ic I) {mv : Value} {s s' : Wt} {w w1 w2 : World} (h : WkAt I mv s w) (hk : Kept (Mw I.b0 w) w w1) (hm : ∃ eb ob EL, MmI w1 I.b0 I.mb eb ob EL I.K.mc (RsAt w mv.ownBlock) s'.mem) (hk2 : Kept (· = I.wk) w1 w2)
    (hblk : w2.heap[I.wk]? = some (.cells #[ptB' I.gd, .int .i64 (I.K.inp : Int), .string I.inp, .int .i64 (s'.cnt : Int), .int .i64 (s'.dn : Int), mv, .int .i64 s'.far.1, .int .u64 (s'.far.2 : Int), .slice (some ⟨I.kb, 0, none⟩) s'.kn.length s'.kn.length] 159 (0, 0)))
    (hmt : s'.mt = s.mt) (hkn : s'.kn = s.kn) (hfar : s'.far = s.far) (hs : Sane I.K s') : WkAt I mv s' w2 ∧ Fr I.b0 mv.ownBlock mv.ownBlock w w2 := by
  have hf1 : Fr I.b0 mv.ownBlock mv.ownBlock w w1 := Fr.mem hk
  have hno : ∀ (j : Nat) (c : Array Value) (t : TypeId), w.heap[j]? = some (Obj.cells c t (0, 0)) → (t = 159 ∨ t = 311 ∨ t = 147) → ¬ Mw I.b0 w j := by
    intro j c t hj ht hw
    have := hw.2 _ _ _ hj
    rcases ht with ht | ht | ht <;> subst ht <;> rcases this with h1 | h1 | h1 | h1 | h1 <;> exact absurd h1 (by decide)
  have hb1 : w1.heap[I.wk]? = _ := (hk.block I.wk (objAt_lt (show objAt w I.wk = _ from h.blk)) (hno _ _ _ h.blk (.inl rfl))).trans h.blk
  have hf2 : Fr I.b0 mv.ownBlock mv.ownBlock w1 w2 := Fr.of hk2 (fun k _ e => by
    have e' : k = I.wk := e
    subst e'
    refine ⟨hI.low.1, fun c t f hc => ?_⟩
    rw [hb1] at hc; simp at hc
    exact .inl (.inl hc.2.1.symm))
  have hf := hf1.trans hf2
  obtain ⟨p1, p2, p3⟩ := h.part_same hf
  obtain ⟨eb, ob, EL, hm⟩ := hm
  obtain ⟨MB, m1, m2⟩ := h.mt
  have hnm : NoM w1 (· = I.wk) := fun j e => by
    have e' : j = I.wk := e
    subst e'
    exact ⟨_, _, hb1, by decide, by decide, by decide, by decide, by decide⟩
  refine ⟨⟨hblk, by rw [p3]; exact h.gnd, h.gm.fr hf, ⟨?_, h.brk.2.cellsKept p1⟩, ⟨eb, ob, EL, (hm.kept hk2 hnm).rel (fun b r hr => hr.fr hf)⟩, ⟨MB, ?_, by rw [hmt]; exact m2.mono (fun a b _ hr => hr.fr hf)⟩, ?_, hs, by rw [hkn]; exact h.knl, by rw [hfar]; exact h.far1, by rw [hfar]; exact h.far2⟩, hf⟩
  · have := h.brk.1
    simp only [World.cell?, p2] at this ⊢
    exact this
  · refine own_kept (own_kept m1 hk (fun i hi hw => ?_)) hk2 (fun i hi e => ?_)
    · obtain ⟨c, hc⟩ := ownsRow_obj m1 hi
      exact hno _ _ _ hc (.inr (.inr rfl)) hw
    · obtain ⟨c, hc⟩ := ownsRow_obj m1 hi
      have e' : i = I.wk := e
      have hc2 : w.heap[i]? = _ := hc
      rw [e', h.blk] at hc2; simp at hc2
  · rw [hkn, hk2.block I.kb (by have := objAt_lt (show objAt w I.kb = _ from h.kn); have := hk.size; omega) (fun e => by
      have e' : I.kb = I.wk := e
      have := h.kn
      rw [e', h.blk] at this; simp at this), hk.block I.kb (objAt_lt (show objAt w I.kb = _ from h.kn)) (hno _ _ _ h.kn (.inr (.inl rfl)))]
    exact h.kn

structure KpW (I : Wi) (mv : Value) (s' : Wt) (w : World) (e : Ending) (w' : World) : Prop where
  res : e = .returned (.tuple #[])
  st : WkAt I mv s' w'
  fr : Fr I.b0 mv.ownBlock mv.ownBlock w w'
set_option maxRecDepth 100000 in
set_option maxHeartbeats 1600000 in
theorem keepW_any {I : Wi} (hI : Ic I) {mv : Value} {s : Wt} {w : World} (h : WkAt I mv s w) (k : Ky) (hk : KyIn k) (rb : Nat) (r : Rs) (hr : RsAt w mv.ownBlock rb r) (hs : Sane I.K { s with mem := if I.K.most < s.cnt then s.mem else mKeep I.K.mc s.mem k r }) :
    Calls Tryz.prog 105 #[ptB' I.wk, kyV k, ptB' rb] w fun e w' => KpW I mv { s with mem := if I.K.most < s.cnt then s.mem else mKeep I.K.mc s.mem k r } w e w' := by
  have hKa : ∀ o, Kept (fun _ => False) w (w.alloc o) := fun o => (Kept.refl _ w).alloc o
  have hA := fun o => h.same hI (hKa o)
  have hsp := fun o => spent_any hI (hA o)
  unfold ptB' kyV at *
  by_cases hs' : I.K.most < s.cnt
  · rw [if_pos hs']
    rw [decide_eq_true hs'] at hsp
    go_enter Tryz.func105, Tryz.ntmps105
    go_wp2_with fail
    refine (hsp _).mono ?_
    rintro e w1 ⟨rfl, n, rfl⟩
    go_wp2
    go_end0
    exact ⟨rfl, (hA _).drewN hI n, Fr.new ((hKa _).drewN n)⟩
  · rw [if_neg hs'] at hs ⊢
    rw [decide_eq_false hs'] at hsp
    obtain ⟨c0, _, _, _, _, _, _, _, d2⟩ := h.cells
    unfold ptB' at *
    have hwl := lt_cell c0
    have hgl := lt_cell d2
    go_enter Tryz.func105, Tryz.ntmps105
    go_wp2_with fail
    refine (hsp _).mono ?_
    rintro e w1 ⟨rfl, n, rfl⟩
    obtain ⟨w2, hw2⟩ : ∃ w2, w2 = ((w.alloc (.cells #[.int .i64 (k.inp : Int), .int .i64 (k.rule : Int), .int .i64 (k.place : Int)] 225)).drewN n) := ⟨_, rfl⟩
    rw [← hw2]
    have hK2 : Kept (fun _ => False) w w2 := by rw [hw2]; exact (hKa _).drewN n
    have h2 := h.same hI hK2
    have hkb : w2.heap[w.heap.size]? = some (.cells #[.int .i64 (k.inp : Int), .int .i64 (k.rule : Int), .int .i64 (k.place : Int)] 225 (0, 0)) := by rw [hw2, World.drewN_heap']; exact heap_alloc_new _ _
    have q0 : w2.cell? ⟨w.heap.size, 0, none⟩ = some (.int .i64 (k.inp : Int)) := by simp [World.cell?, hkb]
    have q1 : w2.cell? ⟨w.heap.size, 1, none⟩ = some (.int .i64 (k.rule : Int)) := by simp [World.cell?, hkb]
    have q2 : w2.cell? ⟨w.heap.size, 2, none⟩ = some (.int .i64 (k.place : Int)) := by simp [World.cell?, hkb]
    obtain ⟨x0, _, _, _, _, _, _, _, x2⟩ := h2.cells
    unfold ptB' at x0 x2
    have h2d := h2.drewN hI 1
    obtain ⟨eb, ob, EL, hm⟩ := h2d.mem
    have hkp := keep_any I.b0 I.mb eb ob EL I.K.mc _ s.mem k rb r (w2.drewN 1) hm hk ((hr.fr (Fr.new (b0 := I.b0) (m := mv.ownBlock) hK2)).fr (Fr.new (b0 := I.b0) (m := mv.ownBlock) ((Kept.refl _ w2).drewN 1)))
    unfold kyV ptB' at hkp
    clear hw2 c0 d2 hsp hA
    go_wp2_with fail
    go_region_with (go_at_call 152; refine hkp.mono ?_; rintro e w3 ⟨rfl, hst3, hk3⟩)
    all_goals
      go_end0
      have hfin := h2d.setMem hI hk3 hst3 hs
      exact ⟨rfl, hfin.1, ((Fr.new hK2).trans (Fr.new ((Kept.refl _ w2).drewN 1))).trans hfin.2⟩
/-- One more is matched. -/
theorem WkAt.push {I : Wi} (hI : Ic I) {mv : Value} {s : Wt} {w w9 : World} (h : WkAt I mv s w) {rb gg cap : Nat} {r : Rs} {o : Obj} {MB : List Nat} (hr : RsAt w mv.ownBlock rb r) (m1 : w.ownsRow I.b0 147 1 mv MB.length (MB.map ptB')) (m2 : F2 (RsAt w mv.ownBlock) MB s.mt)
    (hown : w9.ownsRow I.b0 147 1 (.slice (some ⟨gg, 0, none⟩) (MB.length + 1) cap) (MB.length + 1) (MB.map ptB' ++ [ptB' rb])) (hgrow : (w.alloc o).grownBy w9 mv.ownBlock) (hat : mv.ownBlock = some gg ∨ gg = w.heap.size + 1) (hs : Sane I.K { s with mt := s.mt ++ [r] }) :
    WkAt I (.slice (some ⟨gg, 0, none⟩) (MB.length + 1) cap) { s with mt := s.mt ++ [r] } (w9.setCell ⟨I.wk, 5, none⟩ (.slice (some ⟨gg, 0, none⟩) (MB.length + 1) cap)) ∧ Fr I.b0 mv.ownBlock (some gg) w (w9.setCell ⟨I.wk, 5, none⟩ (.slice (some ⟨gg, 0, none⟩) (MB.length + 1) cap)) ∧ RsAt (w9.setCell ⟨I.wk, 5, none⟩ (.slice (some ⟨gg, 0, none⟩) (MB.length + 1) cap)) (some gg) rb r := by
  have hk9 : Kept (fun k => mv.ownBlock = some k) w w9 := ((Kept.refl _ w).alloc _).grown hgrow (fun k hk _ => hk)
  have hk10 : Kept (fun k => mv.ownBlock = some k ∨ k = I.wk) w (w9.setCell ⟨I.wk, 5, none⟩ (.slice (some ⟨gg, 0, none⟩) (MB.length + 1) cap)) := (hk9.mono (T := fun k => mv.ownBlock = some k ∨ k = I.wk) (fun k _ e => Or.inl e)).setCell (p := ⟨I.wk, 5, none⟩) (fun _ => Or.inr rfl) _
  have hwl := objAt_lt (show objAt w I.wk = _ from h.blk)
  have hf : Fr I.b0 mv.ownBlock (some gg) w (w9.setCell ⟨I.wk, 5, none⟩ (.slice (some ⟨gg, 0, none⟩) (MB.length + 1) cap)) := by
    refine ⟨hk10.mono (fun k hk e => ?_), fun k e => ?_⟩
    · rcases e with e | e
      · obtain ⟨c, hc⟩ := ownsRow_obj m1 e
        refine ⟨(m1.lt k e).1, fun c' t f hc' => .inr ⟨?_, e⟩⟩
        have hc2 : w.heap[k]? = _ := hc
        rw [hc2] at hc'; simp at hc'
        exact hc'.2.1.symm
      · subst e
        refine ⟨hI.low.1, fun c t f hc => ?_⟩
        rw [h.blk] at hc; simp at hc
        exact .inl (.inl hc.2.1.symm)
    · have e' : gg = k := Option.some.inj e
      subst e'
      rcases hat with h1 | h1
      · exact .inl h1
      · right; omega
  have hwg : gg ≠ I.wk := by
    intro e
    rcases hat with h1 | h1
    · obtain ⟨c, hc⟩ := ownsRow_obj m1 h1
      have hc2 : w.heap[gg]? = _ := hc
      rw [e, h.blk] at hc2; simp at hc2
    · omega
  have hmw : mv.ownBlock ≠ some I.wk := fun e => by
    obtain ⟨c, hc⟩ := ownsRow_obj m1 e
    have hc2 : w.heap[I.wk]? = _ := hc
    rw [h.blk] at hc2; simp at hc2
  have hrr := hr.fr hf
  refine ⟨?_, hf, hrr⟩
  refine h.turn (mv' := .slice (some ⟨gg, 0, none⟩) (MB.length + 1) cap) hk10 hf (fun j e => ?_) ?_ rfl ⟨MB ++ [rb], ?_, ?_⟩ ?_ hs rfl h.far1 h.far2
  · rcases e with e | e
    · obtain ⟨c, hc⟩ := ownsRow_obj m1 e
      exact ⟨c, 147, hc, by decide, by decide, by decide, by decide, by decide⟩
    · subst e
      exact ⟨_, _, h.blk, by decide, by decide, by decide, by decide, by decide⟩
  · exact heap_set_at ((hk9.block I.wk hwl hmw).trans h.blk) 5 _
  · rw [List.length_append, List.map_append]
    exact own_kept hown ((Kept.refl (· = I.wk) w9).setCell (p := ⟨I.wk, 5, none⟩) (fun _ => rfl) _) (fun i hi e => by
      have h1 : gg = i := Option.some.inj hi
      exact hwg (h1.trans e))
  · exact (m2.mono (fun a b _ hab => hab.fr hf)).app (.cons hrr .nil)
  · rw [hk10.block I.kb (objAt_lt (show objAt w I.kb = _ from h.kn)) (fun e => by
      rcases e with e | e
      · obtain ⟨c, hc⟩ := ownsRow_obj m1 e
        have hc2 : w.heap[I.kb]? = _ := hc
        rw [h.kn] at hc2; simp at hc2
      · have := h.kn
        rw [e, h.blk] at this; simp at this)]
    exact h.kn

set_option maxRecDepth 100000 in
set_option maxHeartbeats 3200000 in
theorem runW_any {I : Wi} (hI : Ic I) {f : Nat} (hS : StepC I f) (rule a : Nat) (t : Int) (s s' : Wt) (mv : Value) (w : World) (ha : a ≤ I.K.len) (hru : rule < I.K.rs.length) (h : WkAt I mv s w) (hm : s.cnt ≤ I.K.most) (hr : wRun I.K (fun j s => wM I.K f j a s) rule a s = some (t, s')) :
    Calls Tryz.prog 72 #[ptB' I.wk, .int .i64 (rule : Int), .int .i64 (a : Int)] w fun e w' => WkOut I mv t s' w e w' := by
  have hstp := wRun_stp (fun j s t s' hs hx => (wM_stp f j a s t s' ha hs hx).1) h.sane hm hr
  have hl60 := hI.l60
  have hlen := hI.len
  have hru8 := hI.wf.len
  have hmost := hI.most
  have hky : KyIn ⟨I.K.inp, rule, a⟩ := ⟨hI.num, by show rule < 8; omega, by show a ≤ 60; omega⟩
  obtain ⟨c0, c1, _, _, _, _, _, _, d2⟩ := h.cells
  have hwl := lt_cell c0
  have hgl := lt_cell d2
  obtain ⟨i0, hi0, hz0, hz1, hz2⟩ := info_parts info147
  obtain ⟨wa, hwa⟩ : ∃ wa, wa = w.alloc (.cells #[.int .i64 (I.K.inp : Int), .int .i64 (rule : Int), .int .i64 (a : Int)] 225) := ⟨_, rfl⟩
  have hKa : Kept (fun _ => False) w wa := by rw [hwa]; exact (Kept.refl _ w).alloc _
  have h1 := (h.same hI hKa).drewN hI 1
  have hkb : wa.heap[w.heap.size]? = some (.cells #[.int .i64 (I.K.inp : Int), .int .i64 (rule : Int), .int .i64 (a : Int)] 225 (0, 0)) := by rw [hwa]; exact heap_alloc_new _ _
  have q0 : wa.cell? ⟨w.heap.size, 0, none⟩ = some (.int .i64 (I.K.inp : Int)) := by simp [World.cell?, hkb]
  have q1 : wa.cell? ⟨w.heap.size, 1, none⟩ = some (.int .i64 (rule : Int)) := by simp [World.cell?, hkb]
  have q2 : wa.cell? ⟨w.heap.size, 2, none⟩ = some (.int .i64 (a : Int)) := by simp [World.cell?, hkb]
  have x0 : wa.cell? ⟨I.wk, 0, none⟩ = some (ptB' I.gd) := (hKa.cell (p := ⟨I.wk, 0, none⟩) hwl (fun x => x)).trans c0
  have x2 : wa.cell? ⟨I.gd, 2, none⟩ = some (ptB' I.mb) := (hKa.cell (p := ⟨I.gd, 2, none⟩) hgl (fun x => x)).trans d2
  obtain ⟨eb, ob, EL, hmm⟩ := h1.mem
  have hfd := find_any I.b0 I.mb eb ob EL I.K.mc _ s.mem ⟨I.K.inp, rule, a⟩ (wa.drewN 1) hmm (by have := h.sane.hits; omega)
  have hent := mFind_ent I.K.mc s.mem ⟨I.K.inp, rule, a⟩
  unfold wRun at hr
  have hnoM : ∀ (j : Nat) (c : Array Value) (t : TypeId), wa.heap[j]? = some (Obj.cells c t (0, 0)) → (t = 159 ∨ t = 152 ∨ t = 225) → ¬ Mw I.b0 (wa.drewN 1) j := by
    intro j c t hj ht hw
    have := hw.2 _ _ _ hj
    rcases ht with ht | ht | ht <;> subst ht <;> rcases this with h1 | h1 | h1 | h1 | h1 <;> exact absurd h1 (by decide)
  have hwka : wa.heap[I.wk]? = _ := (hKa.block I.wk hwl (fun x => x)).trans h.blk
  have hgda : wa.heap[I.gd]? = _ := (hKa.block I.gd hgl (fun x => x)).trans h.gnd
  have hcells : ∀ w2, Kept (Mw I.b0 (wa.drewN 1)) (wa.drewN 1) w2 → w2.cell? ⟨I.wk, 0, none⟩ = some (ptB' I.gd) ∧ w2.cell? ⟨I.gd, 2, none⟩ = some (ptB' I.mb) ∧ w2.cell? ⟨w.heap.size, 0, none⟩ = some (.int .i64 (I.K.inp : Int)) ∧ w2.cell? ⟨w.heap.size, 1, none⟩ = some (.int .i64 (rule : Int)) ∧ w2.cell? ⟨w.heap.size, 2, none⟩ = some (.int .i64 (a : Int)) ∧ w2.heap[I.wk]? = w.heap[I.wk]? := by
    intro w2 hk2
    have e1 : w2.heap[I.wk]? = wa.heap[I.wk]? := hk2.block I.wk (objAt_lt (show objAt wa I.wk = _ from hwka)) (hnoM _ _ _ hwka (.inl rfl))
    have e2 : w2.heap[I.gd]? = wa.heap[I.gd]? := hk2.block I.gd (objAt_lt (show objAt wa I.gd = _ from hgda)) (hnoM _ _ _ hgda (.inr (.inl rfl)))
    have e3 : w2.heap[w.heap.size]? = wa.heap[w.heap.size]? := hk2.block _ (objAt_lt (show objAt wa w.heap.size = _ from hkb)) (hnoM _ _ _ hkb (.inr (.inr rfl)))
    refine ⟨?_, ?_, ?_, ?_, ?_, e1.trans (hKa.block I.wk hwl (fun x => x))⟩
    · simp only [World.cell?, e1] at x0 ⊢; exact x0
    · simp only [World.cell?, e2] at x2 ⊢; exact x2
    · simp only [World.cell?, e3] at q0 ⊢; exact q0
    · simp only [World.cell?, e3] at q1 ⊢; exact q1
    · simp only [World.cell?, e3] at q2 ⊢; exact q2
  unfold kyV at hfd
  unfold ptB' at *
  have hFa : Fr I.b0 mv.ownBlock mv.ownBlock w (wa.drewN 1) := (Fr.new hKa).trans (Fr.new ((Kept.refl _ wa).drewN 1))
  obtain ⟨MB, m1, m2⟩ := h.mt
  obtain ⟨p0, cp0, hmv⟩ := ownsRow_form m1
  have hml : MB.length = s.mt.length := m2.len
  clear c0 d2
  cases hf : mFind I.K.mc s.mem ⟨I.K.inp, rule, a⟩ with
  | mk o M =>
    rw [hf] at hfd hr hent
    cases o with
    | some r =>
      simp only [Option.some.injEq, Prod.mk.injEq] at hr
      obtain ⟨rfl, rfl⟩ := hr
      have hes := (hent.2.1 r rfl).1
      have hrc := h.sane.ent _ hes
      dsimp only at hrc
      have hsane1 : Sane I.K { s with mem := M, cnt := s.cnt + r.cnt } := ⟨hstp.sane.cnt, hstp.sane.dn, by have := h.sane.mtl; show s.mt.length ≤ s.cnt + r.cnt; omega, hstp.sane.hits, hstp.sane.ent, hstp.sane.kn⟩
      have hcb : s.cnt ≤ 20000 ∧ r.cnt ≤ 20000 := by omega
      have x0' : wa.cell? ⟨I.wk, 0, none⟩ = some (.pointer (some ⟨I.gd, 0, none⟩)) := x0
      have x2' : wa.cell? ⟨I.gd, 2, none⟩ = some (.pointer (some ⟨I.mb, 0, none⟩)) := x2
      go_enter Tryz.func72, Tryz.ntmps72
      go_wp2_with fail
      rw [← hwa]
      clear hwa
      go_region_held3 (fun w' => w'.cell? ⟨I.wk, 0, none⟩ = some (.pointer (some ⟨I.gd, 0, none⟩)) ∧ w'.cell? ⟨I.gd, 2, none⟩ = some (.pointer (some ⟨I.mb, 0, none⟩)) ∧ w'.cell? ⟨w.heap.size, 0, none⟩ = some (.int .i64 (I.K.inp : Int)) ∧ w'.cell? ⟨w.heap.size, 1, none⟩ = some (.int .i64 (rule : Int)) ∧ w'.cell? ⟨w.heap.size, 2, none⟩ = some (.int .i64 (a : Int))) (go_keep) ((go_at_call 103; refine hfd.mono ?_; rintro e w2 hO; obtain ⟨rb, rfl, hRr⟩ := hO.yes r rfl; have hcc := hcells w2 hO.kept; obtain ⟨y1, y2, y3, y4, y5, y6⟩ := hcc))
      have hrb2 : RsAt w2 mv.ownBlock rb r := hRr.fr (Fr.mem (m := mv.ownBlock) hO.kept)
      obtain ⟨_, _, rto, rcn⟩ := hrb2.cells
      have hb2 := y6.trans h.blk
      have n3 : w2.cell? ⟨I.wk, 3, none⟩ = some (.int .i64 (s.cnt : Int)) := by simp only [World.cell?, hb2]; rfl
      have nf3 : w2.frozen? ⟨I.wk, 3, none⟩ = false := by simp [World.frozen?, hb2]
      unfold ptB'
      go_wp2_with fail
      go_region
      obtain ⟨w3, hw3⟩ : ∃ w3, w3 = (w2.setCell ⟨I.wk, 3, none⟩ (.int .i64 ((s.cnt : Int) + (r.cnt : Int)))).drew := ⟨_, rfl⟩
      rw [← hw3]
      have hk23 : Kept (· = I.wk) w2 w3 := by rw [hw3]; exact ((Kept.refl (· = I.wk) w2).setCell (p := ⟨I.wk, 3, none⟩) (fun _ => rfl) _).drew
      have h3b : w3.heap[I.wk]? = some (.cells #[ptB' I.gd, .int .i64 (I.K.inp : Int), .string I.inp, .int .i64 ((s.cnt + r.cnt : Nat) : Int), .int .i64 (s.dn : Int), mv, .int .i64 s.far.1, .int .u64 (s.far.2 : Int), .slice (some ⟨I.kb, 0, none⟩) s.kn.length s.kn.length] 159 (0, 0)) := by
        rw [hw3, World.drew_heap', heap_set_at hb2 3 _]
        simp [ptB']
      obtain ⟨h3, hF3⟩ := h1.setMemN (s' := { s with mem := M, cnt := s.cnt + r.cnt }) hI hO.kept hO.st hk23 h3b rfl rfl rfl hsane1
      have hrb3 : RsAt w3 mv.ownBlock rb r := hRr.fr hF3
      obtain ⟨MB3, m13, m23⟩ := h3.mt
      obtain ⟨_, _, _, _, _, z5, _, _, _⟩ := h3.cells
      have zf5 := h3.frz 5
      have hml3 : MB3.length = s.mt.length := m23.len
      have hmtl : MB3.length ≤ 50000 := by have := h.sane.mtl; omega
      have hb03 : I.b0 ≤ w3.heap.size := by have := hI.low.1; have := objAt_lt (show objAt w3 I.wk = _ from h3b); omega
      obtain ⟨p3, cp3, hmv3⟩ := ownsRow_form m13
      have hpush := fun (gg cap : Nat) (w9 : World) (o : Obj) hown hgrow hat => h3.push hI (r := r) (rb := rb) (gg := gg) (cap := cap) (w9 := w9) (o := o) hrb3 m13 m23 hown hgrow hat hstp.sane
      have hwl3 := objAt_lt (show objAt w3 I.wk = _ from h3b)
      have hK39 : ∀ w9 o, (w3.alloc o).grownBy w9 mv.ownBlock → w9.heap[I.wk]? = w3.heap[I.wk]? := fun w9 o hg => by
        have hk9 : Kept (fun k => mv.ownBlock = some k) w3 w9 := ((Kept.refl _ w3).alloc _).grown hg (fun k hk _ => hk)
        refine hk9.block I.wk hwl3 (fun e => ?_)
        obtain ⟨c, hc⟩ := ownsRow_obj m13 e
        have hc2 : w3.heap[I.wk]? = _ := hc
        rw [h3b] at hc2; simp at hc2
      have hrbw : ¬ rb = I.wk := fun e => by
        cases hrb3 with
        | mk blk _ _ _ => rw [e, h3b] at blk; simp at blk
      have hrbw' : ¬ I.wk = rb := fun e => hrbw e.symm
      have hto9 : ∀ (gg cap : Nat) (w9 : World), RsAt (w9.setCell ⟨I.wk, 5, none⟩ (.slice (some ⟨gg, 0, none⟩) (MB3.length + 1) cap)) (some gg) rb r → w9.cell? ⟨rb, 2, none⟩ = some (.int .i64 r.to) := fun gg cap w9 hP => by
        obtain ⟨_, _, rto9, _⟩ := hP.cells
        rw [World.cell?_setCell_other _ ⟨I.wk, 5, none⟩ ⟨rb, 2, none⟩ _ (by simp [hrbw'])] at rto9
        exact rto9
      subst hmv3
      clear hw3 hmv hml3 hml
      go_wp2_with (at_builtin; refine wpList_append_lies _ rfl _ _ _ rfl I.b0 147 i0 _ 1 8 Tryz.underlying157 hi0 hz0 hz1 hz2 rfl (by omega) (.slice p3 MB3.length cp3) MB3.length (MB3.map ptB') (by rfl) (m13.alloc _) ⟨w3.heap.size, 0, none⟩ 1 1 [.pointer (some ⟨rb, 0, none⟩)] (by rfl) rfl (World.news_of_block (cs := #[.pointer (some ⟨rb, 0, none⟩)]) (t := 147) (fr := (0, 0)) (heap_alloc_new w3 _)) (by simp [Value.oneCell']) (by omega) (by simp [maxLen]; omega) (by omega) (by simp; omega) (w3.heap.size + 1) (by simp) ?_; intro gg cap w9 hown hgrow hat hlt; have hx9 := (hK39 w9 _ hgrow).trans h3b; have v5 : w9.cell? ⟨I.wk, 5, none⟩ = some (.slice p3 MB3.length cp3) := (by simp [World.cell?, hx9]); have vf5 : w9.frozen? ⟨I.wk, 5, none⟩ = false := (by simp [World.frozen?, hx9]); have rto9 := hto9 gg cap w9 (hpush gg cap w9 _ hown hgrow hat).2.2)
      obtain ⟨hP1, hP2, hP3⟩ := hpush gg cap w9 _ hown hgrow hat
      go_ret
      exact ⟨rfl, _, hP1, hFa.trans (hF3.trans hP2)⟩
    | none =>
      have hM : M = s.mem := hent.2.2 rfl
      subst hM
      simp only at hr
      cases hc : wCh (fun j s => wM I.K f j a s) (nth I.K.ns (isI I.K.rs rule)).subs (wBeg s s.mem) with
      | none => rw [hc] at hr; cases hr
      | some x =>
        obtain ⟨t1, s1⟩ := x
        rw [hc] at hr
        simp only [Option.some.injEq, Prod.mk.injEq] at hr
        obtain ⟨rfl, rfl⟩ := hr
        have x0' : wa.cell? ⟨I.wk, 0, none⟩ = some (.pointer (some ⟨I.gd, 0, none⟩)) := x0
        have x2' : wa.cell? ⟨I.gd, 2, none⟩ = some (.pointer (some ⟨I.mb, 0, none⟩)) := x2
        go_enter Tryz.func72, Tryz.ntmps72
        go_wp2_with fail
        rw [← hwa]
        clear hwa
        go_region_held3 (fun w' => w'.cell? ⟨I.wk, 0, none⟩ = some (.pointer (some ⟨I.gd, 0, none⟩)) ∧ w'.cell? ⟨I.gd, 2, none⟩ = some (.pointer (some ⟨I.mb, 0, none⟩)) ∧ w'.cell? ⟨w.heap.size, 0, none⟩ = some (.int .i64 (I.K.inp : Int)) ∧ w'.cell? ⟨w.heap.size, 1, none⟩ = some (.int .i64 (rule : Int)) ∧ w'.cell? ⟨w.heap.size, 2, none⟩ = some (.int .i64 (a : Int))) (go_keep) ((go_at_call 103; refine hfd.mono ?_; rintro e w2 hO; obtain rfl := hO.no rfl; have hcc := hcells w2 hO.kept; obtain ⟨y1, y2, y3, y4, y5, y6⟩ := hcc))
        go_wp2_with fail
        have h2 : WkAt I mv s w2 := (h1.setMem hI hO.kept hO.st h.sane).1
        have hF2 : Fr I.b0 mv.ownBlock mv.ownBlock (wa.drewN 1) w2 := (h1.setMem hI hO.kept hO.st h.sane).2
        have hk2b : w2.heap[w.heap.size]? = wa.heap[w.heap.size]? := hO.kept.block _ (objAt_lt (show objAt wa w.heap.size = _ from hkb)) (hnoM _ _ _ hkb (.inr (.inr rfl)))
        have hdo := doW_any hI hS rule a t1 s s1 mv w2 ha hru h2 hm hc
        unfold ptB' at hdo
        refine hdo.mono ?_
        rintro e w3 ⟨rb, mv3, rfl, hrb3, h3, hF3⟩
        have hk3b : w3.heap[w.heap.size]? = w2.heap[w.heap.size]? := hF3.kept.block _ (objAt_lt (show objAt w2 w.heap.size = _ from hk2b.trans hkb)) (fun hw => by
          rcases hw.ty (hk2b.trans hkb) with h5 | ⟨h5, _⟩
          · exact absurd h5 (by decide)
          · exact absurd h5 (by decide))
        have k3b := (hk3b.trans hk2b).trans hkb
        have u0 : w3.cell? ⟨w.heap.size, 0, none⟩ = some (.int .i64 (I.K.inp : Int)) := by simp [World.cell?, k3b]
        have u1 : w3.cell? ⟨w.heap.size, 1, none⟩ = some (.int .i64 (rule : Int)) := by simp [World.cell?, k3b]
        have u2 : w3.cell? ⟨w.heap.size, 2, none⟩ = some (.int .i64 (a : Int)) := by simp [World.cell?, k3b]
        have hsaneK : Sane I.K { ({ s1 with mt := s1.mt.take s.mt.length } : Wt) with mem := if I.K.most < s1.cnt then s1.mem else mKeep I.K.mc s1.mem ⟨I.K.inp, rule, a⟩ (wRes rule a s t1 s1) } := ⟨hstp.sane.cnt, hstp.sane.dn, by have h5 : (s1.mt.take s.mt.length ++ [wRes rule a s t1 s1]).length ≤ s1.cnt := hstp.sane.mtl; simp at h5; show (s1.mt.take s.mt.length).length ≤ s1.cnt; simp; omega, hstp.sane.hits, hstp.sane.ent, hstp.sane.kn⟩
        have hkp := keepW_any hI h3 ⟨I.K.inp, rule, a⟩ hky rb _ hrb3 hsaneK
        unfold ptB' kyV at hkp
        unfold ptB'
        go_wp2_with fail
        refine hkp.mono ?_
        rintro e w4 ⟨rfl, h4, hF4⟩
        have hrb4 := hrb3.fr hF4
        obtain ⟨MB3, m13, m23⟩ := h4.mt
        obtain ⟨_, _, _, _, _, z5, _, _, _⟩ := h4.cells
        have zf5 := h4.frz 5
        have h3b := h4.blk
        have hmtl : MB3.length ≤ 50000 := by have h5 := m23.len; have h6 := hsaneK.mtl; have h7 := hsaneK.cnt; rw [h5]; simp only at h6 h7 ⊢; omega
        have hb03 : I.b0 ≤ w4.heap.size := by have := hI.low.1; have := objAt_lt (show objAt w4 I.wk = _ from h3b); omega
        obtain ⟨p3, cp3, hmv3⟩ := ownsRow_form m13
        have hpush := fun (gg cap : Nat) (w9 : World) (o : Obj) hown hgrow hat => h4.push hI (r := wRes rule a s t1 s1) (rb := rb) (gg := gg) (cap := cap) (w9 := w9) (o := o) hrb4 m13 m23 hown hgrow hat hstp.sane
        have hwl3 := objAt_lt (show objAt w4 I.wk = _ from h3b)
        have hK39 : ∀ w9 o, (w4.alloc o).grownBy w9 mv3.ownBlock → w9.heap[I.wk]? = w4.heap[I.wk]? := fun w9 o hg => by
          have hk9 : Kept (fun k => mv3.ownBlock = some k) w4 w9 := ((Kept.refl _ w4).alloc _).grown hg (fun k hk _ => hk)
          refine hk9.block I.wk hwl3 (fun e => ?_)
          obtain ⟨c, hc⟩ := ownsRow_obj m13 e
          have hc2 : w4.heap[I.wk]? = _ := hc
          rw [h3b] at hc2; simp at hc2
        have hrbw : ¬ rb = I.wk := fun e => by
          cases hrb4 with
          | mk blk _ _ _ => rw [e, h3b] at blk; simp at blk
        have hrbw' : ¬ I.wk = rb := fun e => hrbw e.symm
        have hto9 : ∀ (gg cap : Nat) (w9 : World), RsAt (w9.setCell ⟨I.wk, 5, none⟩ (.slice (some ⟨gg, 0, none⟩) (MB3.length + 1) cap)) (some gg) rb (wRes rule a s t1 s1) → w9.cell? ⟨rb, 2, none⟩ = some (.int .i64 t1) := fun gg cap w9 hP => by
          obtain ⟨_, _, rto9, _⟩ := hP.cells
          rw [World.cell?_setCell_other _ ⟨I.wk, 5, none⟩ ⟨rb, 2, none⟩ _ (by simp [hrbw'])] at rto9
          exact rto9
        subst hmv3
        clear hmv hml
        go_wp2_with (at_builtin; refine wpList_append_lies _ rfl _ _ _ rfl I.b0 147 i0 _ 1 8 Tryz.underlying157 hi0 hz0 hz1 hz2 rfl (by omega) (.slice p3 MB3.length cp3) MB3.length (MB3.map ptB') (by rfl) (m13.alloc _) ⟨w4.heap.size, 0, none⟩ 1 1 [.pointer (some ⟨rb, 0, none⟩)] (by rfl) rfl (World.news_of_block (cs := #[.pointer (some ⟨rb, 0, none⟩)]) (t := 147) (fr := (0, 0)) (heap_alloc_new w4 _)) (by simp [Value.oneCell']) (by omega) (by simp [maxLen]; omega) (by omega) (by simp; omega) (w4.heap.size + 1) (by simp) ?_; intro gg cap w9 hown hgrow hat hlt; have hx9 := (hK39 w9 _ hgrow).trans h3b; have v5 : w9.cell? ⟨I.wk, 5, none⟩ = some (.slice p3 MB3.length cp3) := (by simp [World.cell?, hx9]); have vf5 : w9.frozen? ⟨I.wk, 5, none⟩ = false := (by simp [World.frozen?, hx9]); have rto9 := hto9 gg cap w9 (hpush gg cap w9 _ hown hgrow hat).2.2)
        obtain ⟨hP1, hP2, hP3⟩ := hpush gg cap w9 _ hown hgrow hat
        go_ret
        exact ⟨rfl, _, hP1, hFa.trans (hF2.trans (hF3.trans (hF4.trans hP2)))⟩
end Go.Proofs.YtagklnaaoclmhaaGreatDoor
