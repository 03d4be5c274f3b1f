import Derived.Test.YtagklnaaoclmhaaGreatDoorMgBA
set_option linter.unusedSimpArgs false
set_option linter.unusedVariables false
namespace Go.Proofs.YtagklnaaoclmhaaGreatDoor
open Go.RowKit

def zAns : Value := .agg #[.bool false, .int .i64 0, .slice none 0 0, .int .i64 0, .slice none 0 0]
/-- What Walk leaves. -/
structure WlOut (I : Wi) (s' : Wt) (r : Rs) (w : World) (e : Ending) (w' : World) : Prop where
  sp : I.K.most < s'.cnt → e = .returned (.tuple #[zAns, .int .i64 0, .bool false])
  ok : s'.cnt ≤ I.K.most → ∃ (B : Bool) (T : Int) (tp fp : Option Addr) (tn tc fn fc : Nat), e = .returned (.tuple #[.agg #[.bool B, .int .i64 T, .slice tp tn tc, .int .i64 s'.far.1, .slice fp fn fc], .int .i64 (s'.dn : Int), .bool true]) ∧ AnsX w' w.heap.size r.to (flR 0 r) s'.far.2 B T (.slice tp tn tc) (.slice fp fn fc)
  mem : ∃ R eb ob EL, MmI w' I.b0 I.mb eb ob EL I.K.mc R s'.mem
  gnd : w'.heap[I.gd]? = some (.cells #[ptB' I.gb, .int .i64 (I.K.most : Int), ptB' I.mb] 152 (0, 0))
  kept : Kept (fun k => I.b0 ≤ k) w w'
/-- A ground in memory, and a walk that begins. -/
structure Grd (I : Wi) (bud : Nat) (w : World) : Prop where
  ic : Ic I
  ix : Ix I
  wk : I.wk = w.heap.size + 2
  kb : I.kb = w.heap.size + 1
  low : I.b0 ≤ w.heap.size
  gnd : w.heap[I.gd]? = some (.cells #[ptB' I.gb, .int .i64 (I.K.most : Int), ptB' I.mb] 152 (0, 0))
  gm : Gm w I.bg I.gb I.rv I.P I.ρ I.K.rs I.K.ns
  brk : w.cell? ⟨I.gb, 1, none⟩ = some (.int .i64 (I.L.length : Int)) ∧ Bk w I.P I.L I.K.ns
  mem : ∃ eb ob, MmI w I.b0 I.mb eb ob [] I.K.mc (RsAt w none) (ms0 bud)
theorem Grd.first {I : Wi} {bud : Nat} {w : World} (h : Grd I bud w) (o : Obj) :
    WkAt I (.slice none 0 0) (wStart (I.L.length * (I.inp.size + 1)) (ms0 bud)) (((w.alloc o).alloc (.cells (knC (List.replicate (I.L.length * (I.inp.size + 1)) none)) 311)).alloc (.cells #[ptB' I.gd, .int .i64 (I.K.inp : Int), .string I.inp, .int .i64 0, .int .i64 0, .slice none 0 0, .int .i64 (-1), .int .u64 0, .slice (some ⟨I.kb, 0, none⟩) (I.L.length * (I.inp.size + 1)) (I.L.length * (I.inp.size + 1))] 159)) := by
  have hK : Kept (fun _ => False) w (((w.alloc o).alloc (.cells (knC (List.replicate (I.L.length * (I.inp.size + 1)) none)) 311)).alloc (.cells #[ptB' I.gd, .int .i64 (I.K.inp : Int), .string I.inp, .int .i64 0, .int .i64 0, .slice none 0 0, .int .i64 (-1), .int .u64 0, .slice (some ⟨I.kb, 0, none⟩) (I.L.length * (I.inp.size + 1)) (I.L.length * (I.inp.size + 1))] 159)) := (((Kept.refl _ w).alloc _).alloc _).alloc _
  have hF : Fr I.b0 (Value.slice none 0 0).ownBlock (Value.slice none 0 0).ownBlock w _ := Fr.new hK
  obtain ⟨eb, ob, hM⟩ := h.mem
  refine ⟨?_, ?_, h.gm.fr hF, ⟨?_, ?_⟩, ⟨eb, ob, [], ?_⟩, ⟨[], World.ownsRow_nil _ _ _ _, .nil⟩, ?_, ?_, ?_, ?_, ?_⟩
  · rw [h.wk]
    have := heap_alloc_new ((w.alloc o).alloc (.cells (knC (List.replicate (I.L.length * (I.inp.size + 1)) none)) 311)) (.cells #[ptB' I.gd, .int .i64 (I.K.inp : Int), .string I.inp, .int .i64 0, .int .i64 0, .slice none 0 0, .int .i64 (-1), .int .u64 0, .slice (some ⟨I.kb, 0, none⟩) (I.L.length * (I.inp.size + 1)) (I.L.length * (I.inp.size + 1))] 159)
    simpa [wStart] using this
  · rw [hK.block I.gd (objAt_lt (show objAt w I.gd = _ from h.gnd)) (fun x => x)]; exact h.gnd
  · rw [hK.cell (p := ⟨I.gb, 1, none⟩) (lt_cell h.brk.1) (fun x => x)]; exact h.brk.1
  · exact h.brk.2.kept h.gm.ar hK (fun _ _ _ x => x)
  · exact (hM.kept hK (fun j x => x.elim)).rel (fun b r hr => hr.fr hF)
  · rw [h.kb]
    show (((w.alloc o).alloc _).alloc _).heap[w.heap.size + 1]? = _
    rw [Below.heap_alloc _ _ _ (by simp)]
    have := heap_alloc_new (w.alloc o) (.cells (knC (List.replicate (I.L.length * (I.inp.size + 1)) none)) 311)
    simpa [wStart] using this
  · refine ⟨Nat.zero_le _, Nat.le_refl _, Nat.le_refl _, Nat.le_refl _, fun e he => absurd he (by simp [wStart, ms0]), fun q t hq => ?_⟩
    simp [wStart, List.getElem?_replicate] at hq
  · rw [h.ic.len]; simp [wStart]
  · exact ⟨by show (-1 : Int) ≤ -1; decide, by show (-1 : Int) ≤ (I.K.len : Int); omega⟩
  · show (0 : Nat) < 2 ^ 40; decide

set_option maxRecDepth 100000 in
set_option maxHeartbeats 6400000 in
theorem walk_any {I : Wi} {bud : Nat} {w : World} (h : Grd I bud w) (hT : Tab w) {t : Int} {s' : Wt} {r : Rs} {g : Nat} (hW : wRun I.K (fun j s => wM I.K g j 0 s) 0 0 (wStart (I.L.length * (I.inp.size + 1)) (ms0 bud)) = some (t, s')) (hone : s'.mt = [r]) (hr0 : 0 < I.K.rs.length) (hfl : s'.cnt ≤ I.K.most → ¬ r.to = -1 → (flR 0 r).length ≤ 100000) (hb00 : 0 < I.b0) :
    Calls Tryz.prog 49 #[ptB' I.gd, .int .i64 (I.K.inp : Int), .string I.inp] w fun e w' => WlOut I s' r w e w' := by
  have hI := h.ic
  have d0 : w.cell? ⟨I.gd, 0, none⟩ = some (ptB' I.gb) := by simp [World.cell?, h.gnd]
  have g1 := h.brk.1
  have hgl := lt_cell d0
  have hgb := lt_cell g1
  have hl60 := hI.l60
  have hLl : I.L.length ≤ 5000 := by have := h.brk.2.len; have := h.gm.ar.len; have := hI.nsl; omega
  obtain ⟨n, hn⟩ : ∃ n, n = I.L.length * (I.inp.size + 1) := ⟨_, rfl⟩
  have hnb : n ≤ 305000 := by rw [hn]; exact Nat.le_trans (Nat.mul_le_mul hLl (show I.inp.size + 1 ≤ 61 by omega)) (by decide)
  have hxi : ((I.L.length : Nat) : Int) * ((I.inp.size : Int) + 1) = (n : Int) := by rw [hn]; push_cast; rfl
  have hmk := fun W => mkK W n (by omega)
  obtain ⟨w3, hw3⟩ : ∃ w3, w3 = (((w.alloc (.cells #[.bool false, .int .i64 0, .slice none 0 0, .int .i64 0, .slice none 0 0] 31)).alloc (.cells (knC (List.replicate n none)) 311)).alloc (.cells #[ptB' I.gd, .int .i64 (I.K.inp : Int), .string I.inp, .int .i64 0, .int .i64 0, .slice none 0 0, .int .i64 (-1), .int .u64 0, .slice (some ⟨w.heap.size + 1, 0, none⟩) n n] 159)) := ⟨_, rfl⟩
  have hF := h.first (.cells #[.bool false, .int .i64 0, .slice none 0 0, .int .i64 0, .slice none 0 0] 31)
  rw [h.kb, ← hn, ← hw3] at hF
  rw [← hn] at hW
  have hK3 : Kept (fun _ => False) w w3 := by rw [hw3]; exact (((Kept.refl _ w).alloc _).alloc _).alloc _
  have hrun := runW_any hI (step_all hI h.ix g) 0 0 t _ s' (.slice none 0 0) w3 (Nat.zero_le _) hr0 hF (Nat.zero_le _) hW
  have hq3 : w3.heap[w.heap.size]? = some (.cells #[.bool false, .int .i64 0, .slice none 0 0, .int .i64 0, .slice none 0 0] 31 (0, 0)) := by
    rw [hw3, Below.heap_alloc _ _ _ (by simp; omega), Below.heap_alloc _ _ _ (by simp)]
    exact heap_alloc_new _ _
  have hlow := h.low
  have hwk : Hid (I.wk = w.heap.size + 2) := h.wk
  have hsz3 : w3.heap.size = w.heap.size + 3 := by rw [hw3]; simp
  unfold ptB' at *
  clear hn hF hW
  go_enter Tryz.func49, Tryz.ntmps49
  go_wp2_with fail
  rw [← hw3, show w.heap.size + 1 + 1 = I.wk by have := hwk.out; omega]
  clear hw3 hmk hxi
  refine hrun.mono ?_
  rintro e w4 ⟨rfl, mv4, h4, hF4⟩
  have hsp := spent_any hI h4
  unfold ptB' at hsp
  have hq4 : w4.heap[w.heap.size]? = some (.cells #[.bool false, .int .i64 0, .slice none 0 0, .int .i64 0, .slice none 0 0] 31 (0, 0)) := by
    rw [hF4.kept.block w.heap.size (objAt_lt (show objAt w3 w.heap.size = _ from hq3)) (fun hw => by
      rcases hw.ty hq3 with h5 | ⟨h5, _⟩
      · exact absurd h5 (by decide)
      · exact absurd h5 (by decide))]
    exact hq3
  have hK4 : Kept (fun k => I.b0 ≤ k) w w4 := (hK3.mono (fun _ _ x => x.elim)).trans (hF4.kept.mono (fun _ _ x => x.1))
  clear hrun
  go_wp2_with fail
  refine hsp.mono ?_
  rintro e w5 ⟨rfl, m5, rfl⟩
  have h5 := h4.drewN hI m5
  obtain ⟨w5, hw5⟩ : ∃ w5, w5 = w4.drewN m5 := ⟨_, rfl⟩
  rw [← hw5] at h5 ⊢
  have hK5 : Kept (fun k => I.b0 ≤ k) w w5 := by rw [hw5]; exact hK4.drewN m5
  have hF45 : Kept (fun _ => False) w4 w5 := by rw [hw5]; exact (Kept.refl _ w4).drewN m5
  have hq5 : w5.heap[w.heap.size]? = some (.cells #[.bool false, .int .i64 0, .slice none 0 0, .int .i64 0, .slice none 0 0] 31 (0, 0)) := by
    rw [hF45.block w.heap.size (objAt_lt (show objAt w4 w.heap.size = _ from hq4)) (fun x => x)]; exact hq4
  have hT5 : Tab w5 := hT.kept hK5 (by omega)
  clear hw5 hsp hq4
  by_cases hs : I.K.most < s'.cnt
  · rw [decide_eq_true hs]
    have fq : ∀ k, w5.frozen? ⟨w.heap.size, k, none⟩ = false := fun k => by simp [World.frozen?, hq5]
    have fq0 := fq 0
    have fq1 := fq 1
    have fq2 := fq 2
    have fq3 := fq 3
    have fq4 := fq 4
    obtain ⟨y0, y1, y2, y3, y4⟩ := cells5 hq5
    go_wp2
    obtain ⟨w6, hw6⟩ : ∃ w6, w6 = set5 w5 w.heap.size (.bool false) (.int .i64 0) (.slice none 0 0) (.int .i64 0) (.slice none 0 0) := ⟨_, rfl⟩
    have hw6' := hw6
    unfold set5 at hw6'
    rw [← hw6']
    have h6 : w6.heap[w.heap.size]? = some (.cells #[.bool false, .int .i64 0, .slice none 0 0, .int .i64 0, .slice none 0 0] 31 (0, 0)) := by rw [hw6]; exact set5_at hq5 _ _ _ _ _
    have K6 : Kept (fun k => k = w.heap.size) w5 w6 := by rw [hw6]; exact set5_kept _ _ _ _ _ _ _
    obtain ⟨x0, x1, x2, x3, x4⟩ := cells5 h6
    clear hw6 hw6'
    obtain ⟨eb, ob, EL, hM⟩ := h5.mem
    refine bodyPost_ret (v := .tuple #[zAns, .int .i64 0, .bool false]) (by simp [results, Tryz.results49, go_sem, x0, x1, x2, x3, x4, zAns]) rfl ⟨fun _ => rfl, fun x => absurd x (by omega), ⟨_, eb, ob, EL, hM.kept K6 (fun j e => by
      have e' : j = w.heap.size := e
      subst e'
      exact ⟨_, _, hq5, by decide, by decide, by decide, by decide, by decide⟩)⟩, ?_, ?_⟩
    · rw [K6.block I.gd (objAt_lt (show objAt w5 I.gd = _ from h5.gnd)) (fun e => by
        have e' : I.gd = w.heap.size := e
        omega)]
      exact h5.gnd
    · exact hK5.then K6 (fun i hi e => by have e' : i = w.heap.size := e; omega)
  · rw [decide_eq_false hs]
    obtain ⟨MB, m1, m2⟩ := h5.mt
    rw [hone] at m2
    obtain ⟨rb, hMB, hrb⟩ : ∃ rb, MB = [rb] ∧ RsAt w5 mv4.ownBlock rb r := by
      cases m2 with
      | cons h1 h2 => cases h2 with | nil => exact ⟨_, rfl, h1⟩
    subst hMB
    obtain ⟨gm, cm, hmv, _, _⟩ := m1.form (by simp)
    have hgm : w5.cell? ⟨gm, 0, none⟩ = some (.pointer (some ⟨rb, 0, none⟩)) := by
      subst hmv
      have := m1.cellAt 0 (by simp)
      simpa [ptB'] using this
    have hans := answer_any hI (h5.drewN hI 1) (hT5.kept ((Kept.refl (fun _ => False) w5).drewN 1) (fun x => x)) rb r (hrb.fr (b0 := I.b0) (Fr.new ((Kept.refl _ w5).drewN 1))) (hfl (by omega))
    obtain ⟨_, _, _, _, z4, z5, _, _, _⟩ := h5.cells
    have hmv' : mv4 = .slice (some ⟨gm, 0, none⟩) 1 cm := hmv
    rw [hmv'] at z5
    unfold ptB' at hans
    have hck : ∀ W, Kept (fun _ => False) (w5.drewN 1) W → W.cell? ⟨I.wk, 5, none⟩ = some (.slice (some ⟨gm, 0, none⟩) 1 cm) ∧ W.cell? ⟨I.wk, 4, none⟩ = some (.int .i64 (s'.dn : Int)) ∧ W.cell? ⟨gm, 0, none⟩ = some (.pointer (some ⟨rb, 0, none⟩)) ∧ W.heap[w.heap.size]? = some (.cells #[.bool false, .int .i64 0, .slice none 0 0, .int .i64 0, .slice none 0 0] 31 (0, 0)) := fun W hW => by
      have hW' := ((Kept.refl (fun _ => False) w5).drewN 1).trans hW
      exact ⟨(hW'.cell (p := ⟨I.wk, 5, none⟩) (lt_cell z5) (fun x => x)).trans z5, (hW'.cell (p := ⟨I.wk, 4, none⟩) (lt_cell z4) (fun x => x)).trans z4, (hW'.cell (p := ⟨gm, 0, none⟩) (lt_cell hgm) (fun x => x)).trans hgm, (hW'.block w.heap.size (objAt_lt (show objAt w5 w.heap.size = _ from hq5)) (fun x => x)).trans hq5⟩
    have hfzq : ∀ W : World, W.heap[w.heap.size]? = some (.cells #[.bool false, .int .i64 0, .slice none 0 0, .int .i64 0, .slice none 0 0] 31 (0, 0)) → W.frozen? ⟨w.heap.size, 0, none⟩ = false ∧ W.frozen? ⟨w.heap.size, 1, none⟩ = false ∧ W.frozen? ⟨w.heap.size, 2, none⟩ = false ∧ W.frozen? ⟨w.heap.size, 3, none⟩ = false ∧ W.frozen? ⟨w.heap.size, 4, none⟩ = false := fun W hW => by
      refine ⟨?_, ?_, ?_, ?_, ?_⟩ <;> simp [World.frozen?, hW]
    have hwq : ¬ I.wk = w.heap.size := by have := hwk.out; omega
    have hgq : ¬ gm = w.heap.size := fun e => by
      subst hmv
      obtain ⟨c2, hc⟩ := ownsRow_obj m1 (k := gm) rfl
      have hc2 : w5.heap[gm]? = _ := hc
      rw [e, hq5] at hc2; simp at hc2
    have hwq' : ¬ w.heap.size = I.wk := fun e => hwq e.symm
    have hgq' : ¬ w.heap.size = gm := fun e => hgq e.symm
    clear hmv hmv' hq3 d0 g1 hgl hgb hl60 hLl hnb hfl
    go_wp2_with fail
    go_region_held3 (fun w' => w'.cell? ⟨I.wk, 5, none⟩ = some (.slice (some ⟨gm, 0, none⟩) 1 cm) ∧ w'.cell? ⟨I.wk, 4, none⟩ = some (.int .i64 (s'.dn : Int)) ∧ w'.cell? ⟨gm, 0, none⟩ = some (.pointer (some ⟨rb, 0, none⟩))) (go_keep) ((go_at_call 74; refine hans.mono ?_; rintro e w6 ⟨⟨B, T, tp, fp, tn, tc, fn, fc, rfl, hA⟩, hK6⟩; obtain ⟨k5, k4, kg, hq6⟩ := hck w6 hK6; obtain ⟨y0, y1, y2, y3, y4⟩ := cells5 hq6; obtain ⟨fq0, fq1, fq2, fq3, fq4⟩ := hfzq w6 hq6))
    obtain ⟨w7, hw7⟩ : ∃ w7, w7 = set5 w6 w.heap.size (.bool B) (.int .i64 T) (.slice tp tn tc) (.int .i64 s'.far.1) (.slice fp fn fc) := ⟨_, rfl⟩
    have hw7' := hw7
    unfold set5 at hw7'
    rw [← hw7']
    have h7 : w7.heap[w.heap.size]? = some (.cells #[.bool B, .int .i64 T, .slice tp tn tc, .int .i64 s'.far.1, .slice fp fn fc] 31 (0, 0)) := by rw [hw7]; exact set5_at hq6 _ _ _ _ _
    have K7 : Kept (fun k => k = w.heap.size) w6 w7 := by rw [hw7]; exact set5_kept _ _ _ _ _ _ _
    obtain ⟨x0, x1, x2, x3, x4⟩ := cells5 h7
    have K56 : Kept (fun _ => False) w5 w6 := ((Kept.refl (fun _ => False) w5).drewN 1).trans hK6
    have K57 : Kept (fun k => k = w.heap.size) w5 w7 := (K56.mono (fun _ _ x => x.elim)).trans K7
    clear hw7 hw7' y0 y1 y2 y3 y4 fq0 fq1 fq2 fq3 fq4 k5 k4 kg
    go_wp2
    obtain ⟨eb, ob, EL, hM⟩ := h5.mem
    have hsz5 : w.heap.size ≤ w5.heap.size := hK5.size
    refine bodyPost_ret (v := .tuple #[.agg #[.bool B, .int .i64 T, .slice tp tn tc, .int .i64 s'.far.1, .slice fp fn fc], .int .i64 (s'.dn : Int), .bool true]) (by simp [results, Tryz.results49, go_sem, x0, x1, x2, x3, x4]) rfl ⟨fun x => absurd x hs, fun _ => ⟨_, _, _, _, _, _, _, _, rfl, ⟨hA.b, hA.t, ?_, ?_⟩⟩, ⟨_, eb, ob, EL, hM.kept K57 (fun j e => by
      have e' : j = w.heap.size := e
      subst e'
      exact ⟨_, _, hq5, by decide, by decide, by decide, by decide, by decide⟩)⟩, ?_, ?_⟩
    · exact own_kept (own_base hA.tr hsz5) K7 (fun i hi e => by
        have e' : i = w.heap.size := e
        have := (hA.tr.lt i hi).1
        have h8 : (w5.drewN 1).heap.size = w5.heap.size := rfl
        have h9 := objAt_lt (show objAt w5 w.heap.size = _ from hq5)
        omega)
    · exact own_kept (own_base hA.fl hsz5) K7 (fun i hi e => by
        have e' : i = w.heap.size := e
        have := (hA.fl.lt i hi).1
        have h8 : (w5.drewN 1).heap.size = w5.heap.size := rfl
        have h9 := objAt_lt (show objAt w5 w.heap.size = _ from hq5)
        omega)
    · rw [K57.block I.gd (objAt_lt (show objAt w5 I.gd = _ from h5.gnd)) (fun e => by
        have e' : I.gd = w.heap.size := e
        have h10 := objAt_lt (show objAt w I.gd = _ from h.gnd)
        omega)]
      exact h5.gnd
    · exact hK5.then K57 (fun i hi e => by have e' : i = w.heap.size := e; omega)
end Go.Proofs.YtagklnaaoclmhaaGreatDoor

namespace Go.Proofs.YtagklnaaoclmhaaGreatDoor
open Go.RowKit

set_option maxRecDepth 100000 in
theorem isLong_any (s : ByteArray) (w : World) (hs : s.size ≤ maxLen) : Calls Tryz.prog 47 #[.string s] w fun e w' => e = .returned (.bool (decide (60 < s.size))) ∧ w' = w := by
  unfold maxLen at hs
  by_cases h : 60 < s.size
  · have hq : decide ((60 : Int) < (s.size : Int)) = true := by simp; omega
    rw [decide_eq_true h]
    go_enter Tryz.func47, Tryz.ntmps47
    go_wp2
    go_ret
    exact ⟨rfl, rfl⟩
  · have hq : decide ((60 : Int) < (s.size : Int)) = false := by simp; omega
    rw [decide_eq_false h]
    go_enter Tryz.func47, Tryz.ntmps47
    go_wp2
    go_ret
    exact ⟨rfl, rfl⟩
set_option maxRecDepth 100000 in
theorem within_any (n lo hi : Int) (w : World) : Calls Tryz.prog 70 #[.int .i64 n, .int .i64 lo, .int .i64 hi] w fun e w' => e = .returned (.bool (decide (lo ≤ n ∧ n ≤ hi))) ∧ w' = w := by
  by_cases h1 : lo ≤ n
  · by_cases h2 : n ≤ hi
    · rw [decide_eq_true ⟨h1, h2⟩]
      go_enter Tryz.func70, Tryz.ntmps70
      go_wp2
      go_ret
      exact ⟨rfl, rfl⟩
    · rw [decide_eq_false (fun x => h2 x.2)]
      go_enter Tryz.func70, Tryz.ntmps70
      go_wp2
      go_ret
      exact ⟨rfl, rfl⟩
  · rw [decide_eq_false (fun x => h1 x.1)]
    go_enter Tryz.func70, Tryz.ntmps70
    go_wp2
    go_ret
    exact ⟨rfl, rfl⟩
/-- A configuration that may be. -/
def CfM (p b m r : Int) : Prop := (0 ≤ p ∧ p ≤ 2) ∧ (0 ≤ b ∧ b ≤ 1000) ∧ (0 ≤ m ∧ m ≤ 255) ∧ (1 ≤ r ∧ r ≤ 20000)
instance (p b m r : Int) : Decidable (CfM p b m r) := by unfold CfM; infer_instance
set_option maxRecDepth 100000 in
set_option maxHeartbeats 1600000 in
theorem mayBe_any (p b m r : Int) (w : World) : Calls Tryz.prog 46 #[.agg #[.int .i64 p, .int .i64 b, .int .i64 m, .int .i64 r]] w fun e w' => e = .returned (.bool (decide (CfM p b m r))) ∧ Kept (fun _ => False) w w' := by
  have hw1 := within_any p 0 2
  have hw2 := within_any b 0 1000
  have hw3 := within_any m 0 255
  have hw4 := within_any r 1 20000
  have HC : Hid (decide (CfM p b m r) = (decide (0 ≤ p ∧ p ≤ 2) && (decide (0 ≤ b ∧ b ≤ 1000) && (decide (0 ≤ m ∧ m ≤ 255) && decide (1 ≤ r ∧ r ≤ 20000))))) := by
    unfold Hid
    rw [Bool.eq_iff_iff]
    simp only [decide_eq_true_eq, Bool.and_eq_true]
    exact Iff.rfl
  generalize decide (CfM p b m r) = C at *
  generalize decide (0 ≤ p ∧ p ≤ 2) = b1 at *
  generalize decide (0 ≤ b ∧ b ≤ 1000) = b2 at *
  generalize decide (0 ≤ m ∧ m ≤ 255) = b3 at *
  generalize decide (1 ≤ r ∧ r ≤ 20000) = b4 at *
  have hK : Kept (fun _ => False) w (w.alloc (.cells #[.int .i64 p, .int .i64 b, .int .i64 m, .int .i64 r] 23)) := (Kept.refl _ w).alloc _
  go_enter Tryz.func46, Tryz.ntmps46
  go_wp2_with fail
  refine (hw1 _).mono ?_
  rintro e w1 ⟨rfl, rfl⟩
  cases b1
  · go_wp2
    go_ret
    exact ⟨by rw [HC.out]; rfl, hK⟩
  · go_wp2_with fail
    refine (hw2 _).mono ?_
    rintro e w2 ⟨rfl, rfl⟩
    cases b2
    · go_wp2
      go_ret
      exact ⟨by rw [HC.out]; rfl, hK⟩
    · go_wp2_with fail
      refine (hw3 _).mono ?_
      rintro e w3 ⟨rfl, rfl⟩
      cases b3
      · go_wp2
        go_ret
        exact ⟨by rw [HC.out]; rfl, hK⟩
      · go_wp2_with fail
        refine (hw4 _).mono ?_
        rintro e w4 ⟨rfl, rfl⟩
        cases b4
        · go_wp2
          go_ret
          exact ⟨by rw [HC.out]; rfl, hK⟩
        · go_wp2
          go_ret
          exact ⟨by rw [HC.out]; rfl, hK⟩
set_option maxRecDepth 100000 in
set_option maxHeartbeats 1600000 in
theorem memStats_any (b0 gd mb eb ob : Nat) (EL : List (Ky × Nat)) (C : Mc) (R : Nat → Rs → Prop) (M : Ms) (w : World) (a b : Value) (hg : w.heap[gd]? = some (.cells #[a, b, ptB' mb] 152 (0, 0))) (h : MmI w b0 mb eb ob EL C R M) :
    Calls Tryz.prog 50 #[.pointer (some ⟨gd, 0, none⟩)] w fun e w' => e = .returned (.agg #[.int .i64 (M.ent.length : Int), .int .i64 (M.ent.length : Int), .int .i64 (M.hits : Int), .int .i64 0]) ∧ Kept (fun _ => False) w w' := by
  have d2 : w.cell? ⟨gd, 2, none⟩ = some (ptB' mb) := by simp [World.cell?, hg]
  have hgl := lt_cell d2
  have hst := stats_any b0 mb eb ob EL C R M (w.alloc (.cells #[.int .i64 0, .int .i64 0, .int .i64 0, .int .i64 0] 73)) (h.kept ((Kept.refl (fun _ => False) w).alloc _) (fun j x => x.elim))
  unfold ptB' at *
  go_enter Tryz.func50, Tryz.ntmps50
  go_wp2_with fail
  refine hst.mono ?_
  rintro e w2 ⟨rfl, hK2⟩
  have hq2 : w2.heap[w.heap.size]? = some (.cells #[.int .i64 0, .int .i64 0, .int .i64 0, .int .i64 0] 73 (0, 0)) := by
    rw [hK2.block w.heap.size (by simp) (fun x => x)]; exact heap_alloc_new _ _
  have fq : ∀ k, w2.frozen? ⟨w.heap.size, k, none⟩ = false := fun k => by simp [World.frozen?, hq2]
  have fq0 := fq 0
  have fq1 := fq 1
  have fq2 := fq 2
  have fq3 := fq 3
  have y0 : w2.cell? ⟨w.heap.size, 0, none⟩ = some (.int .i64 0) := by simp [World.cell?, hq2]
  have y1 : w2.cell? ⟨w.heap.size, 1, none⟩ = some (.int .i64 0) := by simp [World.cell?, hq2]
  have y2 : w2.cell? ⟨w.heap.size, 2, none⟩ = some (.int .i64 0) := by simp [World.cell?, hq2]
  have y3 : w2.cell? ⟨w.heap.size, 3, none⟩ = some (.int .i64 0) := by simp [World.cell?, hq2]
  clear hst
  go_wp2
  obtain ⟨w3, hw3⟩ : ∃ w3, w3 = (((w2.setCell ⟨w.heap.size, 0, none⟩ (.int .i64 (M.ent.length : Int))).setCell ⟨w.heap.size, 1, none⟩ (.int .i64 (M.ent.length : Int))).setCell ⟨w.heap.size, 2, none⟩ (.int .i64 (M.hits : Int))).setCell ⟨w.heap.size, 3, none⟩ (.int .i64 0) := ⟨_, rfl⟩
  rw [← hw3]
  have K3 : Kept (fun k => k = w.heap.size) w2 w3 := by
    rw [hw3]
    exact ((((Kept.refl (fun k => k = w.heap.size) w2).setCell (p := ⟨w.heap.size, 0, none⟩) (fun _ => rfl) _).setCell (p := ⟨w.heap.size, 1, none⟩) (fun _ => rfl) _).setCell (p := ⟨w.heap.size, 2, none⟩) (fun _ => rfl) _).setCell (p := ⟨w.heap.size, 3, none⟩) (fun _ => rfl) _
  have hq3 : w3.heap[w.heap.size]? = some (.cells #[.int .i64 (M.ent.length : Int), .int .i64 (M.ent.length : Int), .int .i64 (M.hits : Int), .int .i64 0] 73 (0, 0)) := by
    rw [hw3]
    have e1 := heap_set_at hq2 0 (.int .i64 (M.ent.length : Int))
    have e2 := heap_set_at e1 1 (.int .i64 (M.ent.length : Int))
    have e3 := heap_set_at e2 2 (.int .i64 (M.hits : Int))
    have e4 := heap_set_at e3 3 (.int .i64 0)
    simpa using e4
  have x0 : w3.cell? ⟨w.heap.size, 0, none⟩ = some (.int .i64 (M.ent.length : Int)) := by simp [World.cell?, hq3]
  have x1 : w3.cell? ⟨w.heap.size, 1, none⟩ = some (.int .i64 (M.ent.length : Int)) := by simp [World.cell?, hq3]
  have x2 : w3.cell? ⟨w.heap.size, 2, none⟩ = some (.int .i64 (M.hits : Int)) := by simp [World.cell?, hq3]
  have x3 : w3.cell? ⟨w.heap.size, 3, none⟩ = some (.int .i64 0) := by simp [World.cell?, hq3]
  clear hw3
  refine bodyPost_ret (v := .agg #[.int .i64 (M.ent.length : Int), .int .i64 (M.ent.length : Int), .int .i64 (M.hits : Int), .int .i64 0]) (by simp [results, Tryz.results50, go_sem, x0, x1, x2, x3]) rfl ⟨rfl, ?_⟩
  exact (((Kept.refl (fun _ => False) w).alloc _).trans hK2).then K3 (fun i hi e => by have e' : i = w.heap.size := e; omega)
end Go.Proofs.YtagklnaaoclmhaaGreatDoor

namespace Go.Proofs.YtagklnaaoclmhaaGreatDoor
open Go.RowKit

/-- A configuration. -/
structure Cf where
  pol : Nat
  bud : Nat
  mask : Nat
  runs : Nat
structure CfOk (c : Cf) : Prop where
  pol : c.pol ≤ 2
  bud : c.bud ≤ 1000
  mask : c.mask ≤ 255
  runs : 1 ≤ c.runs ∧ c.runs ≤ 20000
/-- What a walk over a text goes by. -/
def kOf (G s : ByteArray) (c : Cf) (br : Nat → Nat) : Wc := ⟨byteAt s, s.size, (read G).2, (read G).1.ns, br, c.runs, 0, mcOf c.pol c.bud c.mask (read G).2.length⟩
def brOf (P L : List Nat) (i : Nat) : Nat := L.idxOf (P.getD i 0)
theorem br_at {P L : List Nat} {i : Nat} (h : P.getD i 0 ∈ L) : L[brOf P L i]? = some (P.getD i 0) := by
  unfold brOf
  rw [List.getElem?_eq_getElem (List.idxOf_lt_length_of_mem h), List.getElem_idxOf]
theorem nodup_getD {P : List Nat} (h : P.Nodup) {i j : Nat} (hi : i < P.length) (hj : j < P.length) (e : P.getD i 0 = P.getD j 0) : i = j := by
  rw [List.getD_eq_getElem?_getD, List.getD_eq_getElem?_getD, List.getElem?_eq_getElem hi, List.getElem?_eq_getElem hj] at e
  have e' : P[i] = P[j] := e
  have hp := List.pairwise_iff_getElem.1 h
  rcases Nat.lt_trichotomy i j with h1 | h1 | h1
  · exact absurd e' (hp i j hi hj h1)
  · exact h1
  · exact absurd e'.symm (hp j i hj hi h1)
theorem nodup_le : ∀ (n : Nat) (l : List Nat), l.Nodup → (∀ x ∈ l, x < n) → l.length ≤ n
  | 0, l, _, h => by
    cases l with
    | nil => simp
    | cons x l => exact absurd (h x (List.mem_cons_self ..)) (by omega)
  | n + 1, l, hn, h => by
    have h1 := nodup_le n (l.erase n) (hn.erase n) (fun x hx => by
      have h2 := (List.Nodup.mem_erase_iff hn).1 hx
      have h3 := h x h2.2
      have := h2.1
      omega)
    have h4 : l.length ≤ (l.erase n).length + 1 := by
      rw [List.length_erase]
      split <;> omega
    omega
theorem kc_of {G s : ByteArray} {c : Cf} (hG : refChk G = (0, 0)) {w : World} {bg gb : Nat} {rv : Value} {P L : List Nat} {ρ : Nat → Int} (hgm : Gm w bg gb rv P ρ (read G).2 (read G).1.ns) (hB : Bk w P L (read G).1.ns) : Kc (kOf G s c (brOf P L)) (fun i => P.getD i 0 ∈ L) := by
  obtain ⟨h400, hbad, S, hE⟩ := ended_of hG
  have hq := read_q h400 hbad
  refine ⟨hE.wf, fun i hi hk => ruI_lt hE.nm hi hk, fun r hr => ?_, fun i hi j hj h4 => ?_, fun i j hi hj h1 h2 e => ?_, fun f i a dp o t hi ha h ho => ?_⟩
  · have hr' : r < (read G).2.length := hr
    have h1 := (hq.ch _ (List.getElem_mem hr')).1
    have h2 : isI (read G).2 r = (read G).2[r].is := by unfold isI; simp [List.getD_eq_getElem?_getD, hr']
    show (nth (read G).1.ns (isI (read G).2 r)).kind = 4
    rw [h2]; exact h1
  · refine hB.sub i hi j ?_ h4
    rw [nth_get hi] at hj; exact hj
  · have e1 := br_at h1
    have e2 := br_at h2
    have e' : brOf P L i = brOf P L j := e
    rw [e', e2] at e1
    have hl := hgm.ar.len
    have hi' : i < (read G).1.ns.length := hi
    have hj' : j < (read G).1.ns.length := hj
    exact nodup_getD hgm.ar.nd (by omega) (by omega) (Option.some.inj e1).symm
  · exact ⟨(mtc_at hE.wf hE.nm hE.ls f i a dp o t hi ha h ho).1, (mtc_at hE.wf hE.nm hE.ls f i a dp o t hi ha h ho).2.1⟩
theorem rules_pos {G : ByteArray} (hG : refChk G = (0, 0)) : 0 < (read G).2.length := by
  obtain ⟨h400, hbad, S, hE⟩ := ended_of hG
  have hne : (read G).2 ≠ [] := by
    intro he
    have h1 : ∀ f X rs, rs ≠ [] → (readF G f X rs).2 ≠ [] := by
      intro f
      induction f with
      | zero => intro X rs h; exact h
      | succ f ih =>
        intro X rs h
        rw [readF]
        split
        · split
          · exact h
          · exact ih _ _ (by simp)
        · exact h
    unfold read at he
    rw [readF, if_pos ⟨by decide, .inr rfl⟩, if_neg (by decide)] at he
    exact h1 _ _ _ (by simp) he
  exact List.length_pos_iff.2 hne
/-- What parts of the memory's numbers a walk's state tells. -/
theorem MmI.bound {w : World} {b0 mb eb ob : Nat} {EL : List (Ky × Nat)} {C : Mc} {R : Nat → Rs → Prop} {M : Ms} (h : MmI w b0 mb eb ob EL C R M) : M.ent.length ≤ C.bud := by
  have hl : EL.length = M.ent.length := by have := congrArg List.length h.keys; simpa using this
  rcases h.ok.pol with ⟨h0, _⟩ | ⟨h1 | h2, hb⟩
  · have := h.no0 h0
    rw [this] at hl
    simp at hl; omega
  · have hd := h.dir h1
    have hnd : (EL.map (fun e => kN C.nr e.1 % C.bud)).Nodup := by
      have hn := h.nd
      have hmap : EL.map (fun e => kN C.nr e.1 % C.bud) = (EL.map (·.1)).map (fun k => kN C.nr k % C.bud) := by rw [List.map_map]; rfl
      rw [hmap]
      refine List.pairwise_map.2 (List.Pairwise.imp_of_mem ?_ hn)
      intro a b ha hb' hab e
      obtain ⟨ea, hea, rfl⟩ := List.mem_map.1 ha
      obtain ⟨eb', heb, rfl⟩ := List.mem_map.1 hb'
      have q1 := hd.at_ ea hea
      have q2 := hd.at_ eb' heb
      rw [e, q2] at q1
      exact hab (Option.some.inj q1).symm
    have := nodup_le C.bud _ hnd (fun x hx => by
      obtain ⟨e, _, rfl⟩ := List.mem_map.1 hx
      exact Nat.mod_lt _ hb)
    rw [List.length_map] at this
    omega
  · obtain ⟨fr, hfr, _⟩ := (h.old h2).free
    omega
end Go.Proofs.YtagklnaaoclmhaaGreatDoor
