import Derived.Test.YtagklnaaoclmhaaCoeC
set_option linter.unusedSimpArgs false
set_option linter.unusedVariables false
namespace Go.Proofs.Ytagklnaaoclmhaa
open Go.RowKit
attribute [local go_sem ↓] exec_load83 exec_alloc83 exec_store83
attribute [local go_sem] load83At_ptr load83Of_some store83At_ptr store83Of_some objAt_drew objAt_drewN objAt_new objAt_old

theorem z83_mat : z83 = mat (fun _ _ => false) := by kernel_rfl
/-- What the first rules begin with. -/
def m1 (rs : List Rl) (ns : List Nd) (S : Nat → Bool) (k a b : Nat) : Bool := decide (a < k) && (aB rs ns S ns.length (isI rs a) (List.replicate 8 false)).getD b false
theorem m1_zero (rs : List Rl) (ns : List Nd) (S : Nat → Bool) : m1 rs ns S 0 = fun _ _ => false := by funext a b; simp [m1]
theorem m1_all (rs : List Rl) (ns : List Nd) (S : Nat → Bool) : m1 rs ns S rs.length = m0 rs ns S := rfl
theorem rep8 (b : Nat) : rw8 (List.replicate 8 false) b = false := by
  unfold rw8
  simp only [List.getD, List.getElem?_replicate]
  split <;> rfl
theorem m1_pre (rs : List Rl) (ns : List Nd) (S : Nat → Bool) (k : Nat) : mat (m1 rs ns S k) = mat (stR (m1 rs ns S k) k (rw8 (List.replicate 8 false))) := by
  refine mat_congr (fun a b _ _ => ?_)
  unfold stR
  by_cases h : a = k
  · rw [if_pos h, rep8, h]; simp [m1]
  · rw [if_neg h]
theorem m1_next (rs : List Rl) (ns : List Nd) (S : Nat → Bool) (k : Nat) : mat (stR (m1 rs ns S k) k (rw8 (aB rs ns S ns.length (isI rs k) (List.replicate 8 false)))) = mat (m1 rs ns S (k + 1)) := by
  refine mat_congr (fun a b _ _ => ?_)
  unfold stR m1
  by_cases h : a = k
  · rw [if_pos h, h, decide_eq_true (by omega), Bool.true_and]; rfl
  · rw [if_neg h]
    by_cases h2 : a < k
    · rw [decide_eq_true h2, decide_eq_true (by omega)]
    · rw [decide_eq_false h2, decide_eq_false (by omega)]
theorem cw_yes {M : Nat → Nat → Bool} {k i : Nat} (h : M i k = true) : mat (stR M i (fun b => M i b || M k b)) = mat (cw M k i) := by
  refine mat_congr (fun a b _ _ => ?_)
  unfold stR cw
  rw [h]; simp
theorem cw_no {M : Nat → Nat → Bool} {k i : Nat} (h : M i k = false) : mat M = mat (cw M k i) := by
  refine mat_congr (fun a b _ _ => ?_)
  unfold cw
  rw [h]
  by_cases ha : a = i
  · rw [if_pos ha, ha]; simp
  · rw [if_neg ha]

/-- While leads goes on. -/
structure LdI (base gb : Nat) (rv : Value) (P : List Nat) (ρ : Nat → Int) (rs : List Rl) (ns : List Nd) (S : Nat → Bool) (w : World) (M : Nat → Nat → Bool) (wx : World) : Prop where
  gm : Gm wx base gb rv P ρ rs ns
  box : wx.heap[w.heap.size]? = some (.cells (bl8 S) 81)
  res : wx.heap[w.heap.size + 1]? = some (.cells z83 83)
  row : wx.heap[w.heap.size + 2]? = some (.cells (mat M) 83)
  kept : Kept (fun _ => False) w wx
theorem LdI.same {base gb : Nat} {rv : Value} {P : List Nat} {ρ : Nat → Int} {rs : List Rl} {ns : List Nd} {S : Nat → Bool} {w wx w' : World} {M : Nat → Nat → Bool} (h : LdI base gb rv P ρ rs ns S w M wx) (hk : Kept (fun _ => False) wx w') : LdI base gb rv P ρ rs ns S w M w' :=
  ⟨h.gm.same hk, by rw [hk.block _ (objAt_lt (show objAt wx _ = _ from h.box)) (fun x => x)]; exact h.box, by rw [hk.block _ (objAt_lt (show objAt wx _ = _ from h.res)) (fun x => x)]; exact h.res, by rw [hk.block _ (objAt_lt (show objAt wx _ = _ from h.row)) (fun x => x)]; exact h.row, h.kept.trans hk⟩
theorem LdI.turn {base gb : Nat} {rv : Value} {P : List Nat} {ρ : Nat → Int} {rs : List Rl} {ns : List Nd} {S : Nat → Bool} {w wx w' : World} {M M' : Nat → Nat → Bool} (h : LdI base gb rv P ρ rs ns S w M wx) (hk : Kept (· = w.heap.size + 2) wx w') (hr : w'.heap[w.heap.size + 2]? = some (.cells (mat M') 83)) : LdI base gb rv P ρ rs ns S w M' w' :=
  ⟨h.gm.mat h.row hk, by rw [hk.block _ (objAt_lt (show objAt wx _ = _ from h.box)) (by omega)]; exact h.box, by rw [hk.block _ (objAt_lt (show objAt wx _ = _ from h.res)) (by omega)]; exact h.res, hr, h.kept.new hk (by omega)⟩

theorem row8 {w : World} {k i : Nat} {M : Nat → Nat → Bool} (h : w.heap[k]? = some (.cells (mat M) 83)) (hi : i < 8) : w.cell? ⟨k, i * 8, none⟩ = some (.bool (M i 0)) ∧ w.cell? ⟨k, i * 8 + 1, none⟩ = some (.bool (M i 1)) ∧ w.cell? ⟨k, i * 8 + 2, none⟩ = some (.bool (M i 2)) ∧ w.cell? ⟨k, i * 8 + 3, none⟩ = some (.bool (M i 3)) ∧ w.cell? ⟨k, i * 8 + 4, none⟩ = some (.bool (M i 4)) ∧ w.cell? ⟨k, i * 8 + 5, none⟩ = some (.bool (M i 5)) ∧ w.cell? ⟨k, i * 8 + 6, none⟩ = some (.bool (M i 6)) ∧ w.cell? ⟨k, i * 8 + 7, none⟩ = some (.bool (M i 7)) :=
  ⟨matcell (j := 0) h hi (by omega), matcell h hi (by omega), matcell h hi (by omega), matcell h hi (by omega), matcell h hi (by omega), matcell h hi (by omega), matcell h hi (by omega), matcell h hi (by omega)⟩

set_option maxRecDepth 100000 in
set_option maxHeartbeats 6400000 in
theorem leads_code {base gb : Nat} {rv : Value} {P : List Nat} {ρ : Nat → Int} {rs : List Rl} {ns : List Nd} {S : Nat → Bool} (hW : WfR ns rs) (AB : AbSaid base gb rv P ρ rs ns S ns.length) (w : World) (hG : Gm w base gb rv P ρ rs ns) :
    Calls Try.prog 27 #[.pointer (some ⟨gb, 0, none⟩), .agg (bl8 S)] w fun e w' => e = .returned (.agg (mat (cK (m0 rs ns S) 8))) ∧ Kept (fun _ => False) w w' := by
  have hl8 := hW.len
  obtain ⟨rp, rc, hrv⟩ := ownsRow_form hG.own
  obtain ⟨z, hz⟩ := hG.gram
  obtain ⟨g0, g1, gf0, gf1⟩ := cells2 hz
  have hgl := cell_lt g0
  have hgn1 : gb ≠ w.heap.size := fun e => by subst e; exact Nat.lt_irrefl _ hgl
  have hgn2 : gb ≠ w.heap.size + 1 := fun e => by have : gb < w.heap.size := hgl; omega
  have hgn3 : gb ≠ w.heap.size + 1 + 1 := fun e => by have : gb < w.heap.size := hgl; omega
  have hI0 : LdI base gb rv P ρ rs ns S w (m1 rs ns S 0) (((w.alloc (.cells (bl8 S) 81)).alloc (.cells z83 83)).alloc (.cells z83 83)) := by
    refine ⟨hG.same ((((Kept.refl _ w).alloc _).alloc _).alloc _), ?_, ?_, ?_, (((Kept.refl _ w).alloc _).alloc _).alloc _⟩
    · rw [Below.heap_alloc _ _ _ (by simp; omega), Below.heap_alloc _ _ _ (by simp)]; exact heap_alloc_new _ _
    · rw [Below.heap_alloc _ _ _ (by simp)]
      have := heap_alloc_new (w.alloc (.cells (bl8 S) 81)) (.cells z83 83)
      rw [show (w.alloc (.cells (bl8 S) 81)).heap.size = w.heap.size + 1 by simp] at this
      exact this
    · have := heap_alloc_new ((w.alloc (.cells (bl8 S) 81)).alloc (.cells z83 83)) (.cells z83 83)
      rw [show ((w.alloc (.cells (bl8 S) 81)).alloc (.cells z83 83)).heap.size = w.heap.size + 2 by simp] at this
      rw [this, m1_zero, z83_mat]
  subst hrv
  unfold bl8 at hI0 ⊢
  obtain ⟨z', hz'⟩ := hI0.gm.gram
  obtain ⟨e0, e1, ef0, ef1⟩ := cells2 hz'
  clear hz' g0 g1 gf0 gf1
  go_enter Try.func27, Try.ntmps27
  go_wp2
  go_loopg [15] rs.length (fun n v wx => ∃ k : Nat, Hid (k + n = rs.length) ∧ v = .int .i64 k ∧ LdI base gb (.slice rp rs.length rc) P ρ rs ns S w (m1 rs ns S k) wx)
  case atStart => exact ⟨0, Nat.zero_add _, rfl, hI0⟩
  case round =>
    obtain ⟨k, hkn, rfl, hI⟩ := hrel
    obtain ⟨m, hm⟩ : ∃ m, m = gk := ⟨gk, rfl⟩
    subst hm
    by_cases hlt : k < rs.length
    · obtain ⟨rb, rcap, hrv, r0, r1, r2⟩ := rl_cells hI.gm.own hlt
      simp only [Value.slice.injEq] at hrv
      obtain ⟨hp, _, hcap⟩ := hrv
      subst hp hcap
      unfold ptrAt at r2
      have hisl : rs[k].is < ns.length := hW.is _ (List.getElem_mem hlt)
      have hisI : isI rs k = rs[k].is := map_getD _ _ _ _ hlt
      have hk8 : k < 8 := by omega
      have hk8' : (k : Int) < 8 := by omega
      have hI6 := fun (X : World) (hK : Kept (fun _ => False) wr X) => hI.same hK
      have hrow := fun (X : World) (hK : Kept (fun _ => False) wr X) => (m1_pre rs ns S k) ▸ (hI6 X hK).row
      have hcall := fun (X : World) (hK : Kept (fun _ => False) wr X) => AB rs[k].is k (w.heap.size + 2) (m1 rs ns S k) (List.replicate 8 false) X hisl hisl hk8 (by simp) (hI6 X hK).gm (hrow X hK)
      have HST := hide (fun (X X' : World) (hK : Kept (fun _ => False) wr X) (hK' : Kept (· = w.heap.size + 2) X X') (hr : X'.heap[w.heap.size + 2]? = some (.cells (mat (stR (m1 rs ns S k) k (rw8 (aB rs ns S ns.length rs[k].is (List.replicate 8 false))))) 83)) => (hI6 X hK).turn (M' := m1 rs ns S (k + 1)) hK' (by rw [hr, ← hisI, m1_next]))
      obtain ⟨d0, d1, d2, d3, d4, d5, d6, d7⟩ := cells8 hI.box
      have hbl := objAt_lt (show objAt wr _ = _ from hI.box)
      have hbn : w.heap.size ≠ wr.heap.size := by omega
      generalize aB rs ns S ns.length rs[k].is (List.replicate 8 false) = Wn at *
      obtain ⟨pq, hpq⟩ : ∃ pq, pq = P.getD rs[k].is 0 := ⟨_, rfl⟩
      rw [← hpq] at r2
      have hcall' : ∀ X, Kept (fun _ => False) wr X → Calls Try.prog 43 #[.pointer (some ⟨pq, 0, none⟩), .pointer (some ⟨w.heap.size + 2, k * 8, none⟩), .agg (bl8 S)] X fun e w' => e = .returned (.tuple #[]) ∧ w'.heap[w.heap.size + 2]? = some (.cells (mat (stR (m1 rs ns S k) k (rw8 Wn))) 83) ∧ Kept (· = w.heap.size + 2) X w' := fun X hK => by rw [hpq]; exact hcall X hK
      unfold bl8 at hcall'
      clear hcall hrow hI6 hisI hisl hI
      generalize rs[k].name = rn at *
      generalize rs[k].at_ = ra at *
      clear hpq
      go_wp2
      go_region_with (first | (go_at_call 43; refine (hcall' _ (by first | exact ((Kept.refl _ _).alloc _) | exact ((Kept.refl _ _).alloc _).drew | exact ((Kept.refl _ _).alloc _).drewN _)).mono ?_; rintro e w7 ⟨rfl, hr7, hK7⟩))
      all_goals
        go_wp2
        go_roundg (m - 1)
        case measure => have := hkn.out; omega
        case rel => exact ⟨k + 1, by have := hkn.out; unfold Hid; omega, by go_num, HST.out _ _ (((Kept.refl _ _).alloc _).drew) hK7 hr7⟩
    · have hkl : k = rs.length := by have := hkn.out; omega
      rw [hkl, m1_all] at hI
      clear hkn hkl
      obtain ⟨w5, hw5⟩ : ∃ w5, w5 = wr := ⟨wr, rfl⟩
      subst hw5
      go_wp2
      go_loopg [27] 8 (fun n v wx => ∃ t : Nat, Hid (t + n = 8) ∧ v = .int .i64 t ∧ LdI base gb (.slice rp rs.length rc) P ρ rs ns S w (cK (m0 rs ns S) t) wx)
      case atStart => exact ⟨0, rfl, rfl, hI⟩
      case round =>
        obtain ⟨t, htn, rfl, hT⟩ := hrel
        obtain ⟨m2, hm2⟩ : ∃ m, m = gk := ⟨gk, rfl⟩
        subst hm2
        obtain ⟨w6, hw6⟩ : ∃ w6, w6 = wr := ⟨wr, rfl⟩
        subst hw6
        by_cases ht : t < 8
        · have ht' : (t : Int) < 8 := by omega
          have HKK : Hid (cI (cK (m0 rs ns S) t) t 8 = cK (m0 rs ns S) (t + 1)) := rfl
          generalize hMt : cK (m0 rs ns S) t = Mt at *
          clear hMt
          go_wp2
          go_loopg [30] 8 (fun n v wx => ∃ i : Nat, Hid (i + n = 8) ∧ v = .int .i64 i ∧ LdI base gb (.slice rp rs.length rc) P ρ rs ns S w (cI Mt t i) wx)
          case atStart => exact ⟨0, rfl, rfl, hT⟩
          case round =>
            obtain ⟨i, hin, rfl, hE⟩ := hrel
            obtain ⟨m3, hm3⟩ : ∃ m, m = gk := ⟨gk, rfl⟩
            subst hm3
            by_cases hi : i < 8
            · have hi' : (i : Int) < 8 := by omega
              have HCW : Hid (cw (cI Mt t i) t i = cI Mt t (i + 1)) := rfl
              generalize cI Mt t i = Mi at *
              have hc := matcell hE.row hi ht
              cases hb : Mi i t
              · rw [hb] at hc
                have HN : Hid (mat Mi = mat (cI Mt t (i + 1))) := by unfold Hid; rw [← HCW.out]; exact cw_no hb
                clear hb HCW
                go_wp2
                go_roundg (m3 - 1)
                case measure => have := hin.out; omega
                case rel => exact ⟨i + 1, by have := hin.out; unfold Hid; omega, by go_num, ⟨hE.gm, hE.box, hE.res, by rw [hE.row, HN.out], hE.kept⟩⟩
              · rw [hb] at hc
                have HN : Hid (mat (stR Mi i (fun b => Mi i b || Mi t b)) = mat (cI Mt t (i + 1))) := by unfold Hid; rw [← HCW.out]; exact cw_yes hb
                obtain ⟨d0, d1, d2, d3, d4, d5, d6, d7⟩ := row8 hE.row ht
                have hself : mat Mi = mat (stR Mi i (Mi i)) := mat_congr (fun a b _ _ => by
                  unfold stR
                  by_cases ha : a = i
                  · rw [if_pos ha, ha]
                  · rw [if_neg ha])
                have hadd := fun (X : World) (hK : Kept (fun _ => False) wr X) => add_code (w.heap.size + 2) i Mi (Mi i) (Mi t) X hi (by rw [← hself]; exact (hE.same hK).row)
                have HST := hide (fun (X X' : World) (hK : Kept (fun _ => False) wr X) (hK' : Kept (· = w.heap.size + 2) X X') (hr : X'.heap[w.heap.size + 2]? = some (.cells (mat (stR Mi i (fun b => Mi i b || Mi t b))) 83)) => (hE.same hK).turn (M' := cI Mt t (i + 1)) hK' (by rw [hr, HN.out]))
                unfold bl8 at hadd
                clear hself hb HCW HN hE
                go_wp2
                go_region_with (first | (go_at_call 44; refine (hadd _ (by first | exact (Kept.refl _ _) | exact (Kept.refl _ _).drew | exact (Kept.refl _ _).drewN _)).mono ?_; rintro e w7 ⟨rfl, hr7, hK7⟩))
                all_goals
                  go_wp2
                  go_roundg (m3 - 1)
                  case measure => have := hin.out; omega
                  case rel => exact ⟨i + 1, by have := hin.out; unfold Hid; omega, by go_num, HST.out _ _ ((Kept.refl _ _).drew) hK7 hr7⟩
            · have hi8 : i = 8 := by have := hin.out; omega
              rw [hi8, HKK.out] at hE
              clear hin hi8
              go_wp2
              go_roundg (m2 - 1)
              case measure => have := htn.out; omega
              case rel => exact ⟨t + 1, by have := htn.out; unfold Hid; omega, by go_num, hE⟩
        · have ht8 : t = 8 := by have := htn.out; omega
          rw [ht8] at hT
          clear htn ht8 hI
          obtain ⟨MF, hMF⟩ : ∃ MF, MF = cK (m0 rs ns S) 8 := ⟨_, rfl⟩
          rw [← hMF] at hT
          have HMF := hide hMF
          clear hMF
          have ho1 : objAt w6 (w.heap.size + 2) = some (.cells (mat MF) 83 (0, 0)) := hT.row
          have ho2 : objAt w6 (w.heap.size + 1) = some (.cells z83 83 (0, 0)) := hT.res
          have hms : 0 + 64 ≤ (mat MF).size := by rw [mat_size]; omega
          have hms2 : (mat MF).size = 64 := mat_size MF
          have hex : (mat MF).extract 0 (0 + 64) = mat MF := by rw [← hms2, Nat.zero_add]; simp
          have hone : ones (mat MF) = true := by
            unfold ones mat
            simp
            intro x _
            rfl
          have hz64 := z83_size
          have hkept := hT.kept
          clear hI0 e0 e1 ef0 ef1 hG AB
          have hrow : (w6.setRow (w.heap.size + 1) (mat MF)).heap[w.heap.size + 1]? = some (.cells (mat MF) 83 (0, 0)) := setRow_heap _ _ _ _ 83 (0, 0) ho2
          have hld := run_loadVar_row (P := Try.prog) (w6.setRow (w.heap.size + 1) (mat MF)) (w.heap.size + 1) 83 83 (mat MF) (0, 0) _ hrow Try.underlying83 rfl (by rw [hms2]; exact size83)
          have hkR : Kept (fun _ => False) w (w6.setRow (w.heap.size + 1) (mat MF)) := hkept.new ⟨rfl, rfl, rfl, by simp, fun k _ hk => setRow_other _ _ _ _ hk⟩ (by omega)
          go_wp2
          refine bodyPost_ret (v := .agg (mat MF)) ?_ rfl ⟨by rw [HMF.out], hkR⟩
          simp [results, Try.results27, asAddr, hld]
end Go.Proofs.Ytagklnaaoclmhaa
