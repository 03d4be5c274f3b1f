import Derived.Test.YtagklnaaoclmhaaGreatDoorMgAQ
import Derived.Deep.RegionWith
set_option linter.unusedSimpArgs false
set_option linter.unusedVariables false
namespace Go.Proofs.YtagklnaaoclmhaaGreatDoor
open Go.RowKit

theorem cut_own {w : World} {b0 : Nat} {mv : Value} {MB : List Nat} (h : w.ownsRow b0 147 1 mv MB.length (MB.map ptB')) {k : Nat} (hk : k ≤ MB.length) :
    ∃ p c, mv = .slice p MB.length c ∧ w.ownsRow b0 147 1 (.slice p k c) (MB.take k).length ((MB.take k).map ptB') ∧ MB.length ≤ c ∧ c ≤ maxLen ∧ (Value.slice p k c).ownBlock = mv.ownBlock ∧ (p = none → k = 0 ∧ c = 0 ∧ MB = []) ∧ (∀ a, p = some a → a.off = 0 ∧ a.spot = none) := by
  have hlt : (MB.take k).length = k := by rw [List.length_take]; omega
  rcases h.2 with ⟨h1, h2⟩ | ⟨g, cap, cur, h1, h2, h3, h4, h5, h6, h7⟩
  · have hk0 : k = 0 := by omega
    subst hk0
    refine ⟨none, 0, by rw [h1, h2], ?_, by omega, by decide, by rw [h1], fun _ => ⟨rfl, rfl, List.eq_nil_of_length_eq_zero h2⟩, fun a e => (by cases e)⟩
    simp
    exact World.ownsRow_nil _ _ _ _
  · refine ⟨some ⟨g, 0, none⟩, cap, h1, ⟨by rw [List.length_map, hlt, Nat.mul_one], .inr ⟨g, cap, cur, by rw [hlt], h2, h3, by omega, h5, h6, ?_⟩⟩, h4, h5, by rw [h1]; rfl, fun e => (by cases e), fun a e => (by cases e; exact ⟨rfl, rfl⟩)⟩
    rw [hlt, Nat.mul_one]
    rw [Nat.mul_one] at h7
    rw [List.map_take, ← h7, List.take_take, Nat.min_eq_left hk]
theorem F2.take {α β : Type} {P : α → β → Prop} {l : List α} {m : List β} (h : F2 P l m) : ∀ k, F2 P (l.take k) (m.take k) := by
  induction h with
  | nil => intro k; simp; exact .nil
  | cons hp hr ih =>
    intro k
    cases k with
    | zero => exact .nil
    | succ k => exact .cons hp (ih k)
theorem F2.drop {α β : Type} {P : α → β → Prop} {l : List α} {m : List β} (h : F2 P l m) : ∀ k, F2 P (l.drop k) (m.drop k) := by
  induction h with
  | nil => intro k; simp; exact .nil
  | cons hp hr ih =>
    intro k
    cases k with
    | zero => exact .cons hp hr
    | succ k => exact ih k
theorem ptCell3 {I : Wi} {mv : Value} {s : Wt} {w : World} (h : WkAt I mv s w) (v : Value) (q : Nat) : Kept (· = I.wk) w (w.setCell ⟨I.wk, q, none⟩ v) := (Kept.refl (· = I.wk) w).setCell (p := ⟨I.wk, q, none⟩) (fun _ => rfl) _
/-- What is matched is cut off. -/
theorem WkAt.cut {I : Wi} (hI : Ic I) {mv : Value} {s : Wt} {w : World} (h : WkAt I mv s w) {k : Nat} (hk : k ≤ s.mt.length) :
    ∃ p c, mv = .slice p s.mt.length c ∧ s.mt.length ≤ c ∧ c ≤ maxLen ∧ (p = none → k = 0 ∧ c = 0 ∧ s.mt = []) ∧ (∀ a, p = some a → a.off = 0 ∧ a.spot = none) ∧ WkAt I (.slice p k c) { s with mt := s.mt.take k } (w.setCell ⟨I.wk, 5, none⟩ (.slice p k c)) ∧ (Value.slice p k c).ownBlock = mv.ownBlock ∧ Fr I.b0 mv.ownBlock mv.ownBlock w (w.setCell ⟨I.wk, 5, none⟩ (.slice p k c)) := by
  obtain ⟨MB, h1, h2⟩ := h.mt
  have hl : MB.length = s.mt.length := h2.len
  obtain ⟨p, c, e1, e2, e3, e4, e5, e6, e7⟩ := cut_own h1 (show k ≤ MB.length by omega)
  have hk' := ptCell3 h (.slice p k c) 5
  have hf := h.wkF hI hk'
  refine ⟨p, c, by rw [← hl]; exact e1, by omega, e4, fun e => ?_, e7, ?_, e5, hf⟩
  · obtain ⟨a1, a2, a3⟩ := e6 e
    refine ⟨a1, a2, ?_⟩
    rw [a3] at hl
    exact List.eq_nil_of_length_eq_zero hl.symm
  · refine h.turn (mv' := .slice p k c) hk' (by rw [e5]; exact hf) h.wkK (heap_set_at h.blk 5 _) rfl ⟨MB.take k, own_kept e2 hk' (fun i hi e => ?_), ?_⟩ ?_ ?_ rfl h.far1 h.far2
    · have e' : i = I.wk := e
      obtain ⟨cc, hc⟩ := ownsRow_obj e2 hi
      rw [e', show objAt w I.wk = _ from h.blk] at hc
      simp at hc
    · rw [e5]
      exact (h2.take k).mono (fun a b _ hr => hr.fr hf)
    · rw [hk'.block I.kb (objAt_lt (show objAt w I.kb = _ from h.kn)) (fun e => by
        have e' : I.kb = I.wk := e
        have := h.kn
        rw [e', h.blk] at this; simp at this)]
      exact h.kn
    · refine ⟨h.sane.cnt, h.sane.dn, ?_, h.sane.hits, h.sane.ent, h.sane.kn⟩
      have := h.sane.mtl
      show (s.mt.take k).length ≤ s.cnt
      rw [List.length_take]; omega

set_option maxRecDepth 100000 in
set_option maxHeartbeats 800000 in
theorem spent_any {I : Wi} (hI : Ic I) {mv : Value} {s : Wt} {w : World} (h : WkAt I mv s w) : Calls Tryz.prog 73 #[ptB' I.wk] w fun e w' => e = .returned (.bool (decide (I.K.most < s.cnt))) ∧ ∃ n, w' = w.drewN n := by
  obtain ⟨c0, _, _, c3, _, _, _, d1, _⟩ := h.cells
  unfold ptB' at *
  by_cases hs : I.K.most < s.cnt
  · have q : (s.cnt : Int) > (I.K.most : Int) := by omega
    have q' : decide (I.K.most < s.cnt) = true := by simpa using hs
    go_enter Tryz.func73, Tryz.ntmps73
    go_wp2
    go_quiet (fail)
    go_wp2
    go_ret
    exact ⟨by rw [q']; rfl, _, rfl⟩
  · have q : ¬ (s.cnt : Int) > (I.K.most : Int) := by omega
    have q' : decide (I.K.most < s.cnt) = false := by simpa using hs
    go_enter Tryz.func73, Tryz.ntmps73
    go_wp2
    go_quiet (fail)
    go_wp2
    go_ret
    exact ⟨by rw [q']; rfl, _, rfl⟩
/-- What one kind or another asks for. -/
def KindC (I : Wi) (f : Nat) : Prop := ∀ i a s t s' mv w, Pt4 I i → a ≤ I.K.len → WkAt I mv s w → s.cnt ≤ I.K.most → wKd I.K (wM I.K f) f i a s = some (t, s') →
  Calls Tryz.prog 179 #[ptB' I.wk, ptrAt I.P i, .int .i64 (a : Int)] w fun e w' => WkOut I mv t s' w e w'
theorem wKd_stp {K : Wc} {f i a : Nat} {s : Wt} {t : Int} {s' : Wt} (ha : a ≤ K.len) (h : Sane K s) (hm : s.cnt ≤ K.most) (hk : wKd K (wM K f) f i a s = some (t, s')) : ∃ l, s'.mt = s.mt ++ l := by
  have h2 : wM K (f + 1) i a s = some (wCut s.mt.length (t, s')) := by
    rw [wM, if_neg (by omega), hk]; rfl
  by_cases ht : t = -1
  · have hx : Wsp K s t s' ∨ True := .inr trivial
    -- what is left over of a part that fails is cut off
    unfold wKd at hk
    have ih : ∀ j b s t s', b ≤ K.len → Sane K s → wM K f j b s = some (t, s') → Wsp K s t s' := fun j b s t s' hb hs hx => (wM_stp f j b s t s' hb hs hx).1
    split at hk
    · simp only [Option.some.injEq] at hk
      unfold wTm at hk
      cases htm : tmT K.b K.len (nth K.ns i) a with
      | some u => rw [htm] at hk; simp only [Prod.mk.injEq] at hk; rw [← hk.2]; exact ⟨[], by simp⟩
      | none => rw [htm] at hk; simp only [Prod.mk.injEq] at hk; rw [← hk.2]; exact ⟨[], by simp⟩
    · split at hk
      · exact (wRun_stp (fun j s t s' hs hx => ih j a s t s' ha hs hx) h hm hk).pre
      · split at hk
        · exact (wBr_stp (fun j s t s' hs hx => ih j a s t s' ha hs hx) h hk).pre
        · split at hk
          · exact (wSq_stp (fun j b s t s' hb hs hx => ih j b s t s' hb hs hx) _ _ _ _ _ ha h hk).pre
          · split at hk
            · cases hx : wM K f ((nth K.ns i).subs.getD 0 0) a s with
              | none => rw [hx] at hk; cases hk
              | some y =>
                obtain ⟨t2, s2⟩ := y
                rw [hx] at hk
                simp only [Option.map_some, Option.some.injEq] at hk
                have h1 := ih _ _ _ _ _ ha h hx
                split at hk
                · simp only [Prod.mk.injEq] at hk
                  rw [← hk.2]; exact h1.pre
                · simp only [Prod.mk.injEq] at hk
                  rw [← hk.2]; exact h1.pre
            · split at hk
              · exact (wSt_stp (fun b s t s' hb hs hx => ih _ b s t s' hb hs hx) _ _ _ _ _ ha h hk).pre
              · split at hk
                · cases hx : wM K f ((nth K.ns i).subs.getD 0 0) a s with
                  | none => rw [hx] at hk; cases hk
                  | some y =>
                    obtain ⟨t2, s2⟩ := y
                    rw [hx] at hk
                    simp only at hk
                    have h1 := ih _ _ _ _ _ ha h hx
                    split at hk
                    · simp only [Option.some.injEq, Prod.mk.injEq] at hk
                      rw [← hk.2]; exact h1.pre
                    · next hn => exact (h1.then (wSt_stp (fun b s t s' hb hs hx => ih _ b s t s' hb hs hx) _ _ _ _ _ (h1.rng.nat hn).1 h1.sane hk)).pre
                · cases hx : wM K f ((nth K.ns i).subs.getD 0 0) a s with
                  | none => rw [hx] at hk; cases hk
                  | some y =>
                    obtain ⟨t2, s2⟩ := y
                    rw [hx] at hk
                    simp only [Option.map_some, Option.some.injEq, wLk, Prod.mk.injEq] at hk
                    have h1 := ih _ _ _ _ _ ha h hx
                    rw [← hk.2]; exact h1.cut.pre
  · have hw : wCut s.mt.length (t, s') = (t, s') := by unfold wCut; rw [if_neg ht]
    rw [hw] at h2
    exact (wM_stp (f + 1) i a s t s' ha h h2).1.pre

set_option maxRecDepth 100000 in
set_option maxHeartbeats 1600000 in
theorem match_any {I : Wi} (hI : Ic I) {f : Nat} (hK : KindC I f) : StepC I (f + 1) := by
  intro i a s t s' mv w hi ha h hr
  have hsp := spent_any hI h
  rw [wM] at hr
  unfold ptB' ptrAt at *
  by_cases hs : I.K.most < s.cnt
  · rw [if_pos hs] at hr
    simp only [Option.some.injEq, Prod.mk.injEq] at hr
    obtain ⟨rfl, rfl⟩ := hr
    rw [decide_eq_true hs] at hsp
    generalize I.P.getD i 0 = pq at *
    clear hK hi
    go_enter Tryz.func171, Tryz.ntmps171
    go_wp2_with fail
    refine hsp.mono ?_
    rintro e w1 ⟨rfl, n, rfl⟩
    go_wp2
    go_ret
    exact ⟨rfl, mv, h.drewN hI n, Fr.new ((Kept.refl _ w).drewN n)⟩
  · rw [if_neg hs] at hr
    rw [decide_eq_false hs] at hsp
    cases hk : wKd I.K (wM I.K f) f i a s with
    | none => rw [hk] at hr; cases hr
    | some y =>
      obtain ⟨t1, s1⟩ := y
      rw [hk] at hr
      simp only [Option.map_some, Option.some.injEq] at hr
      have hpre := wKd_stp ha h.sane (by omega) hk
      have hC := fun n => hK i a s t1 s1 mv (w.drewN n) hi ha (h.drewN hI n) (by omega) hk
      have hcl := fun n => (h.drewN hI n).cells.2.2.2.2.2.1
      obtain ⟨MB, hM1, hM2⟩ := h.mt
      obtain ⟨p0, cp0, hmv⟩ := ownsRow_form hM1
      have hml : MB.length = s.mt.length := hM2.len
      rw [hml] at hmv
      have hmtl : s.mt.length ≤ 50000 := by have := h.sane.mtl; have := h.sane.cnt; have := hI.most; omega
      unfold ptB' ptrAt at hC
      generalize I.P.getD i 0 = pq at *
      by_cases ht : t1 = -1
      · have hr' : t = -1 ∧ s' = { s1 with mt := s1.mt.take s.mt.length } := by
          unfold wCut at hr
          rw [if_pos ht] at hr
          simp only [Prod.mk.injEq] at hr
          exact ⟨by rw [← hr.1]; exact ht, hr.2.symm⟩
        obtain ⟨rfl, rfl⟩ := hr'
        subst ht
        subst hmv
        clear hk hr hM1 hM2 hml
        go_enter Tryz.func171, Tryz.ntmps171
        go_wp2_with fail
        refine hsp.mono ?_
        rintro e w1 ⟨rfl, n, rfl⟩
        have hcl' := hcl n
        go_wp2_with fail
        refine (hC n).mono ?_
        rintro e w2 ⟨rfl, mv2, h2, hF2⟩
        obtain ⟨l, hl⟩ := hpre
        obtain ⟨p, c, e1, e2, e3, e4, e4', e5, e6, e7⟩ := h2.cut hI (k := s.mt.length) (by rw [hl]; simp)
        have c5 := h2.cells.2.2.2.2.2.1
        have f5 := h2.frz 5
        subst e1
        have hFz := hF2.trans e7
        rw [← e6] at hFz
        have hlc : s.mt.length ≤ c := by rw [hl] at e2; simp at e2; omega
        have q1 : ¬ (c : Int) < (s.mt.length : Int) := by omega
        unfold maxLen at e3
        cases p with
        | none =>
          obtain ⟨k1, k2, k3⟩ := e4 rfl
          have hFz' : Fr I.b0 (Value.slice p0 s.mt.length cp0).ownBlock (Value.slice none 0 0).ownBlock (w.drewN n) (w2.setCell ⟨I.wk, 5, none⟩ (Value.slice none 0 0)) := by
            have := hFz
            rw [show Value.slice none s.mt.length c = Value.slice none 0 0 by rw [k1, k2]] at this
            exact this
          have e5' : WkAt I (.slice none 0 0) { s1 with mt := s1.mt.take s.mt.length } (w2.setCell ⟨I.wk, 5, none⟩ (.slice none 0 0)) := by
            have := e5
            rw [show Value.slice none s.mt.length c = Value.slice none 0 0 by rw [k1, k2]] at this
            exact this
          rw [k1]
          subst k2
          rw [k3] at c5
          go_wp2
          go_ret
          exact ⟨rfl, _, e5', (Fr.new ((Kept.refl _ w).drewN n)).trans hFz'⟩
        | some ad =>
          obtain ⟨ab, ao, asp⟩ := ad
          obtain ⟨rfl, rfl⟩ := e4' _ rfl
          go_wp2
          go_ret
          exact ⟨rfl, _, e5, (Fr.new ((Kept.refl _ w).drewN n)).trans hFz⟩
      · have hr' : t = t1 ∧ s' = s1 := by
          unfold wCut at hr
          rw [if_neg ht] at hr
          simp only [Prod.mk.injEq] at hr
          exact ⟨hr.1.symm, hr.2.symm⟩
        obtain ⟨rfl, rfl⟩ := hr'
        have q : (t == -1) = false := by simpa using ht
        subst hmv
        clear hk hr hM1 hM2 hml
        go_enter Tryz.func171, Tryz.ntmps171
        go_wp2_with fail
        refine hsp.mono ?_
        rintro e w1 ⟨rfl, n, rfl⟩
        have hcl' := hcl n
        go_wp2_with fail
        refine (hC n).mono ?_
        rintro e w2 ⟨rfl, mv2, h2, hF2⟩
        go_wp2
        go_ret
        exact ⟨rfl, mv2, h2, (Fr.new ((Kept.refl _ w).drewN n)).trans hF2⟩
end Go.Proofs.YtagklnaaoclmhaaGreatDoor

namespace Go.Proofs.YtagklnaaoclmhaaGreatDoor
open Go.RowKit

set_option maxRecDepth 100000 in
set_option maxHeartbeats 1600000 in
theorem lookW_any {I : Wi} (hI : Ic I) {f : Nat} (hS : StepC I f) (i a : Nat) (want : Bool) (t : Int) (s s' : Wt) (mv : Value) (w : World) (ha : a ≤ I.K.len) (hi : Pt4 I i) (h : WkAt I mv s w) (hr : (wM I.K f i a s).map (wLk s.mt.length a want) = some (t, s')) :
    Calls Tryz.prog 196 #[ptB' I.wk, ptrAt I.P i, .int .i64 (a : Int), .bool want] w fun e w' => WkOut I mv t s' w e w' := by
  cases hk : wM I.K f i a s with
  | none => rw [hk] at hr; cases hr
  | some y =>
    obtain ⟨t1, s1⟩ := y
    rw [hk] at hr
    simp only [Option.map_some, Option.some.injEq, wLk, Prod.mk.injEq] at hr
    obtain ⟨hr1, rfl⟩ := hr
    have hpre := (wM_stp f i a s t1 s1 ha h.sane hk).1.pre
    have hC := hS i a s t1 s1 mv w hi ha h hk
    have hcl := h.cells.2.2.2.2.2.1
    obtain ⟨MB, hM1, hM2⟩ := h.mt
    obtain ⟨p0, cp0, hmv⟩ := ownsRow_form hM1
    have hml : MB.length = s.mt.length := hM2.len
    rw [hml] at hmv
    have hmtl : s.mt.length ≤ 50000 := by have := h.sane.mtl; have := h.sane.cnt; have := hI.most; omega
    unfold ptB' ptrAt at *
    generalize I.P.getD i 0 = pq at *
    subst hmv
    have HT : Hid (t = if (t1 != -1) = want then (a : Int) else -1) := by
      unfold Hid
      rw [← hr1]
      congr 1
      simp [bne, BEq.beq, instBEqOfDecidableEq]
    clear hk hr1 hM1 hM2 hml
    go_enter Tryz.func196, Tryz.ntmps196
    go_wp2_with fail
    refine hC.mono ?_
    rintro e w2 ⟨rfl, mv2, h2, hF2⟩
    obtain ⟨l, hl⟩ := hpre
    obtain ⟨p, c, e1, e2, e3, e4, e4', e5, e6, e7⟩ := h2.cut hI (k := s.mt.length) (by rw [hl]; simp)
    have c5 := h2.cells.2.2.2.2.2.1
    have f5 := h2.frz 5
    subst e1
    have hFz := hF2.trans e7
    rw [← e6] at hFz
    have hlc : s.mt.length ≤ c := by rw [hl] at e2; simp at e2; omega
    have q1 : ¬ (c : Int) < (s.mt.length : Int) := by omega
    unfold maxLen at e3
    obtain ⟨b1, hb1⟩ : ∃ b1, b1 = (t1 != -1) := ⟨_, rfl⟩
    rw [← hb1] at HT
    cases p with
    | none =>
      obtain ⟨k1, k2, k3⟩ := e4 rfl
      have hFz' : Fr I.b0 (Value.slice p0 s.mt.length cp0).ownBlock (Value.slice none 0 0).ownBlock w (w2.setCell ⟨I.wk, 5, none⟩ (Value.slice none 0 0)) := by
        have := hFz
        rw [show Value.slice none s.mt.length c = Value.slice none 0 0 by rw [k1, k2]] at this
        exact this
      have e5' : WkAt I (.slice none 0 0) { s1 with mt := s1.mt.take s.mt.length } (w2.setCell ⟨I.wk, 5, none⟩ (.slice none 0 0)) := by
        have := e5
        rw [show Value.slice none s.mt.length c = Value.slice none 0 0 by rw [k1, k2]] at this
        exact this
      rw [k1]
      subst k2
      rw [k3] at c5
      cases b1 <;> cases want
      all_goals
        have HT2 := HT.out
        simp only [if_true, if_false, Bool.false_eq_true, Bool.true_eq_false, reduceCtorEq] at HT2
        rw [eq_comm] at hb1
        subst HT2
        clear HT
        go_wp2
        go_ret
        exact ⟨rfl, _, e5', hFz'⟩
    | some ad =>
      obtain ⟨ab, ao, asp⟩ := ad
      obtain ⟨rfl, rfl⟩ := e4' _ rfl
      cases b1 <;> cases want
      all_goals
        have HT2 := HT.out
        simp only [if_true, if_false, Bool.false_eq_true, Bool.true_eq_false, reduceCtorEq] at HT2
        rw [eq_comm] at hb1
        subst HT2
        clear HT
        go_wp2
        go_ret
        exact ⟨rfl, _, e5, hFz⟩

theorem WkAt.part {I : Wi} {mv : Value} {s : Wt} {w : World} (h : WkAt I mv s w) {i : Nat} (hi : i < I.K.ns.length) : PartIs w I.bg (fun _ => True) I.P (I.ρ i) (nth I.K.ns i) (I.P.getD i 0) := by
  have := h.gm.ar.part i hi
  rw [nth_get hi]; exact this

set_option maxRecDepth 100000 in
set_option maxHeartbeats 1600000 in
theorem termW_any {I : Wi} (hI : Ic I) (i a : Nat) (s : Wt) (mv : Value) (w : World) (ha : a ≤ I.K.len) (hi : i < I.K.ns.length) (hk : (nth I.K.ns i).kind ≤ 2) (htx : (nth I.K.ns i).text.length ≤ 1000) (hrl : (nth I.K.ns i).rng.length ≤ 5000) (h : WkAt I mv s w) :
    Calls Tryz.prog 197 #[ptB' I.wk, ptrAt I.P i, .int .i64 (a : Int)] w fun e w' => WkOut I mv (wTm I.K (nth I.K.ns i) a s).1 (wTm I.K (nth I.K.ns i) a s).2 w e w' := by
  have hp := h.part hi
  have hl60 := hI.l60
  have hlen := hI.len
  have hst := stretch_any I.inp a w hp hk (by omega) hl60 htx hrl
  obtain ⟨z, vR, vP, hb, _⟩ := hp
  have ct : w.cell? ⟨I.P.getD i 0, 2, none⟩ = some (.int .i64 ((nth I.K.ns i).term : Int)) := by simp only [World.cell?, hb]; rfl
  have hpl := objAt_lt (show objAt w (I.P.getD i 0) = _ from hb)
  obtain ⟨_, _, c2, _, _, _, _, _, _⟩ := h.cells
  have ht := hI.term i hi
  unfold ptB' ptrAt at *
  generalize I.P.getD i 0 = pq at *
  generalize nth I.K.ns i = N at *
  have HW : Hid (wTm I.K N a s = match tmT (byteAt I.inp) I.inp.size N a with | some t => ((t : Int), s) | none => (-1, { s with far := fAdd s.far (a, N.term) })) := by
    unfold Hid wTm; rw [hI.bt, hI.len]; rfl
  unfold strI at hst
  have hale : a ≤ I.inp.size := by omega
  cases htm : tmT (byteAt I.inp) I.inp.size N a with
  | some t =>
    rw [htm] at hst HW
    simp only at hst
    have hle : a ≤ t ∧ t ≤ 60 := by
      unfold tmT at htm
      split at htm
      · split at htm
        · next hl => cases htm; have := litB_le hl; omega
        · cases htm
      · split at htm
        · next hl => cases htm; omega
        · cases htm
    have q : (((t : Int) - (a : Int)) == -1) = false := by simp; omega
    clear htm
    go_enter Tryz.func197, Tryz.ntmps197
    go_wp2_with fail
    refine hst.mono ?_
    rintro e w1 ⟨rfl, hK1⟩
    go_wp2
    go_ret
    rw [HW.out]
    refine ⟨?_, mv, ?_, Fr.new hK1⟩
    · show Ending.returned (.int .i64 ((a : Int) + ((t : Int) - a))) = .returned (.int .i64 (t : Int))
      congr 2; omega
    · exact h.nums hI (hK1.mono (fun _ _ x => x.elim)) (by rw [hK1.block I.wk (objAt_lt (show objAt w I.wk = _ from h.blk)) (fun x => x)]; exact h.blk) rfl rfl rfl h.sane h.far1 h.far2
  | none =>
    rw [htm] at hst HW
    simp only at hst
    clear htm
    go_enter Tryz.func197, Tryz.ntmps197
    go_wp2_with fail
    refine hst.mono ?_
    rintro e w1 ⟨rfl, hK1⟩
    have h1 : WkAt I mv s w1 := h.nums hI (hK1.mono (fun _ _ x => x.elim)) (by rw [hK1.block I.wk (objAt_lt (show objAt w I.wk = _ from h.blk)) (fun x => x)]; exact h.blk) rfl rfl rfl h.sane h.far1 h.far2
    have ct1 : w1.cell? ⟨pq, 2, none⟩ = some (.int .i64 (N.term : Int)) := (hK1.cell (p := ⟨pq, 2, none⟩) hpl (fun x => x)).trans ct
    have hf1 := h.far1
    have hfa := farAdd_any I.wk N.term a s.far.1 s.far.2 _ _ _ _ _ _ _ w1.drew h1.blk ht h.far2 (by omega) ⟨hf1.1, by omega⟩
    go_wp2_with fail
    go_region_with (go_at_call 201; refine hfa.mono ?_; rintro e w2 ⟨rfl, hb2, hK2⟩)
    go_wp2
    go_ret
    rw [HW.out]
    have h2 : WkAt I mv { s with far := fAdd s.far (a, N.term) } w2 := by
      refine h1.nums hI ((Kept.refl (· = I.wk) w1).drew.trans hK2) hb2 rfl rfl rfl ⟨h.sane.cnt, h.sane.dn, h.sane.mtl, h.sane.hits, h.sane.ent, h.sane.kn⟩ ?_ (fAdd_lt h.far2 ht)
      show -1 ≤ (fAdd s.far (a, N.term)).1 ∧ _
      unfold fAdd
      split
      · dsimp only; omega
      · split <;> (dsimp only; omega)
    exact ⟨rfl, mv, h2, (Fr.new hK1).trans (h1.wkF hI ((Kept.refl (· = I.wk) w1).drew.trans hK2))⟩
end Go.Proofs.YtagklnaaoclmhaaGreatDoor
