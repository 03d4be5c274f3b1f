import Derived.Test.YtagklnaaoclmhaaGreatDoorMgAO
import Derived.Test.YtagklnaaoclmhaaGreatDoorMgAA
set_option linter.unusedSimpArgs false
set_option linter.unusedVariables false
namespace Go.Proofs.YtagklnaaoclmhaaGreatDoor
open Go.RowKit
attribute [local go_sem ↓] exec_load83 exec_alloc83 exec_store83
attribute [local go_sem] load83At_ptr load83Of_some store83At_ptr store83Of_some objAt_drew objAt_drewN objAt_new objAt_old

theorem z83_mat : z83 = mat (fun _ _ => false) := by kernel_rfl
/-- What the first rules begin with. -/
def m1 (rs : List Rl) (ns : List Nd) (S : Nat → Bool) (k a b : Nat) : Bool := decide (a < k) && (aB rs ns S ns.length (isI rs a) (List.replicate 8 false)).getD b false
theorem m1_zero (rs : List Rl) (ns : List Nd) (S : Nat → Bool) : m1 rs ns S 0 = fun _ _ => false := by funext a b; simp [m1]
theorem m1_all (rs : List Rl) (ns : List Nd) (S : Nat → Bool) : m1 rs ns S rs.length = m0 rs ns S := rfl
theorem rep8 (b : Nat) : rw8 (List.replicate 8 false) b = false := by
  unfold rw8
  simp only [List.getD, List.getElem?_replicate]
  split <;> rfl
theorem m1_pre (rs : List Rl) (ns : List Nd) (S : Nat → Bool) (k : Nat) : mat (m1 rs ns S k) = mat (stR (m1 rs ns S k) k (rw8 (List.replicate 8 false))) := by
  refine mat_congr (fun a b _ _ => ?_)
  unfold stR
  by_cases h : a = k
  · rw [if_pos h, rep8, h]; simp [m1]
  · rw [if_neg h]
theorem m1_next (rs : List Rl) (ns : List Nd) (S : Nat → Bool) (k : Nat) : mat (stR (m1 rs ns S k) k (rw8 (aB rs ns S ns.length (isI rs k) (List.replicate 8 false)))) = mat (m1 rs ns S (k + 1)) := by
  refine mat_congr (fun a b _ _ => ?_)
  unfold stR m1
  by_cases h : a = k
  · rw [if_pos h, h, decide_eq_true (by omega), Bool.true_and]; rfl
  · rw [if_neg h]
    by_cases h2 : a < k
    · rw [decide_eq_true h2, decide_eq_true (by omega)]
    · rw [decide_eq_false h2, decide_eq_false (by omega)]
theorem cw_yes {M : Nat → Nat → Bool} {k i : Nat} (h : M i k = true) : mat (stR M i (fun b => M i b || M k b)) = mat (cw M k i) := by
  refine mat_congr (fun a b _ _ => ?_)
  unfold stR cw
  rw [h]; simp
theorem cw_no {M : Nat → Nat → Bool} {k i : Nat} (h : M i k = false) : mat M = mat (cw M k i) := by
  refine mat_congr (fun a b _ _ => ?_)
  unfold cw
  rw [h]
  by_cases ha : a = i
  · rw [if_pos ha, ha]; simp
  · rw [if_neg ha]

/-- While leads goes on. -/
structure LdI (base gb : Nat) (rv : Value) (P : List Nat) (ρ : Nat → Int) (rs : List Rl) (ns : List Nd) (S : Nat → Bool) (w : World) (M : Nat → Nat → Bool) (wx : World) : Prop where
  gm : Gm wx base gb rv P ρ rs ns
  box : wx.heap[w.heap.size]? = some (.cells (bl8 S) 205)
  res : wx.heap[w.heap.size + 1]? = some (.cells z83 207)
  row : wx.heap[w.heap.size + 2]? = some (.cells (mat M) 207)
  kept : Kept (fun _ => False) w wx
theorem LdI.same {base gb : Nat} {rv : Value} {P : List Nat} {ρ : Nat → Int} {rs : List Rl} {ns : List Nd} {S : Nat → Bool} {w wx w' : World} {M : Nat → Nat → Bool} (h : LdI base gb rv P ρ rs ns S w M wx) (hk : Kept (fun _ => False) wx w') : LdI base gb rv P ρ rs ns S w M w' :=
  ⟨h.gm.same hk, by rw [hk.block _ (objAt_lt (show objAt wx _ = _ from h.box)) (fun x => x)]; exact h.box, by rw [hk.block _ (objAt_lt (show objAt wx _ = _ from h.res)) (fun x => x)]; exact h.res, by rw [hk.block _ (objAt_lt (show objAt wx _ = _ from h.row)) (fun x => x)]; exact h.row, h.kept.trans hk⟩
theorem LdI.turn {base gb : Nat} {rv : Value} {P : List Nat} {ρ : Nat → Int} {rs : List Rl} {ns : List Nd} {S : Nat → Bool} {w wx w' : World} {M M' : Nat → Nat → Bool} (h : LdI base gb rv P ρ rs ns S w M wx) (hk : Kept (· = w.heap.size + 2) wx w') (hr : w'.heap[w.heap.size + 2]? = some (.cells (mat M') 207)) : LdI base gb rv P ρ rs ns S w M' w' :=
  ⟨h.gm.mat h.row hk, by rw [hk.block _ (objAt_lt (show objAt wx _ = _ from h.box)) (by omega)]; exact h.box, by rw [hk.block _ (objAt_lt (show objAt wx _ = _ from h.res)) (by omega)]; exact h.res, hr, h.kept.new hk (by omega)⟩

theorem row8 {w : World} {k i : Nat} {M : Nat → Nat → Bool} (h : w.heap[k]? = some (.cells (mat M) 207)) (hi : i < 8) : w.cell? ⟨k, i * 8, none⟩ = some (.bool (M i 0)) ∧ w.cell? ⟨k, i * 8 + 1, none⟩ = some (.bool (M i 1)) ∧ w.cell? ⟨k, i * 8 + 2, none⟩ = some (.bool (M i 2)) ∧ w.cell? ⟨k, i * 8 + 3, none⟩ = some (.bool (M i 3)) ∧ w.cell? ⟨k, i * 8 + 4, none⟩ = some (.bool (M i 4)) ∧ w.cell? ⟨k, i * 8 + 5, none⟩ = some (.bool (M i 5)) ∧ w.cell? ⟨k, i * 8 + 6, none⟩ = some (.bool (M i 6)) ∧ w.cell? ⟨k, i * 8 + 7, none⟩ = some (.bool (M i 7)) :=
  ⟨matcell (j := 0) h hi (by omega), matcell h hi (by omega), matcell h hi (by omega), matcell h hi (by omega), matcell h hi (by omega), matcell h hi (by omega), matcell h hi (by omega), matcell h hi (by omega)⟩

set_option maxRecDepth 100000 in
set_option maxHeartbeats 6400000 in
theorem leads_code {base gb : Nat} {rv : Value} {P : List Nat} {ρ : Nat → Int} {rs : List Rl} {ns : List Nd} {S : Nat → Bool} (hW : WfR ns rs) (AB : AbSaid base gb rv P ρ rs ns S ns.length) (w : World) (hG : Gm w base gb rv P ρ rs ns) :
    Calls Tryz.prog 99 #[.pointer (some ⟨gb, 0, none⟩), .agg (bl8 S)] w fun e w' => e = .returned (.agg (mat (cK (m0 rs ns S) 8))) ∧ Kept (fun _ => False) w w' := by
  have hl8 := hW.len
  obtain ⟨rp, rc, hrv⟩ := ownsRow_form hG.own
  obtain ⟨z, hz⟩ := hG.gram
  obtain ⟨g0, g1, gf0, gf1⟩ := cells2 hz
  have hgl := cell_lt g0
  have hgn1 : gb ≠ w.heap.size := fun e => by subst e; exact Nat.lt_irrefl _ hgl
  have hgn2 : gb ≠ w.heap.size + 1 := fun e => by have : gb < w.heap.size := hgl; omega
  have hgn3 : gb ≠ w.heap.size + 1 + 1 := fun e => by have : gb < w.heap.size := hgl; omega
  have hI0 : LdI base gb rv P ρ rs ns S w (m1 rs ns S 0) (((w.alloc (.cells (bl8 S) 205)).alloc (.cells z83 207)).alloc (.cells z83 207)) := by
    refine ⟨hG.same ((((Kept.refl _ w).alloc _).alloc _).alloc _), ?_, ?_, ?_, (((Kept.refl _ w).alloc _).alloc _).alloc _⟩
    · rw [Below.heap_alloc _ _ _ (by simp; omega), Below.heap_alloc _ _ _ (by simp)]; exact heap_alloc_new _ _
    · rw [Below.heap_alloc _ _ _ (by simp)]
      have := heap_alloc_new (w.alloc (.cells (bl8 S) 205)) (.cells z83 207)
      rw [show (w.alloc (.cells (bl8 S) 205)).heap.size = w.heap.size + 1 by simp] at this
      exact this
    · have := heap_alloc_new ((w.alloc (.cells (bl8 S) 205)).alloc (.cells z83 207)) (.cells z83 207)
      rw [show ((w.alloc (.cells (bl8 S) 205)).alloc (.cells z83 207)).heap.size = w.heap.size + 2 by simp] at this
      rw [this, m1_zero, z83_mat]
  subst hrv
  unfold bl8 at hI0 ⊢
  obtain ⟨z', hz'⟩ := hI0.gm.gram
  obtain ⟨e0, e1, ef0, ef1⟩ := cells2 hz'
  clear hz' g0 g1 gf0 gf1
  go_enter Tryz.func99, Tryz.ntmps99
  go_wp2
  go_loopg [15] rs.length (fun n v wx => ∃ k : Nat, Hid (k + n = rs.length) ∧ v = .int .i64 k ∧ LdI base gb (.slice rp rs.length rc) P ρ rs ns S w (m1 rs ns S k) wx)
  case atStart => exact ⟨0, Nat.zero_add _, rfl, hI0⟩
  case round =>
    obtain ⟨k, hkn, rfl, hI⟩ := hrel
    obtain ⟨m, hm⟩ : ∃ m, m = gk := ⟨gk, rfl⟩
    subst hm
    by_cases hlt : k < rs.length
    · obtain ⟨rb, rcap, hrv, r0, r1, r2⟩ := rl_cells hI.gm.own hlt
      simp only [Value.slice.injEq] at hrv
      obtain ⟨hp, _, hcap⟩ := hrv
      subst hp hcap
      unfold ptrAt at r2
      have hisl : rs[k].is < ns.length := hW.is _ (List.getElem_mem hlt)
      have hisI : isI rs k = rs[k].is := map_getD _ _ _ _ hlt
      have hk8 : k < 8 := by omega
      have hk8' : (k : Int) < 8 := by omega
      have hI6 := fun (X : World) (hK : Kept (fun _ => False) wr X) => hI.same hK
      have hrow := fun (X : World) (hK : Kept (fun _ => False) wr X) => (m1_pre rs ns S k) ▸ (hI6 X hK).row
      have hcall := fun (X : World) (hK : Kept (fun _ => False) wr X) => AB rs[k].is k (w.heap.size + 2) (m1 rs ns S k) (List.replicate 8 false) X hisl hisl hk8 (by simp) (hI6 X hK).gm (hrow X hK)
      have HST := hide (fun (X X' : World) (hK : Kept (fun _ => False) wr X) (hK' : Kept (· = w.heap.size + 2) X X') (hr : X'.heap[w.heap.size + 2]? = some (.cells (mat (stR (m1 rs ns S k) k (rw8 (aB rs ns S ns.length rs[k].is (List.replicate 8 false))))) 207)) => (hI6 X hK).turn (M' := m1 rs ns S (k + 1)) hK' (by rw [hr, ← hisI, m1_next]))
      obtain ⟨d0, d1, d2, d3, d4, d5, d6, d7⟩ := cells8 hI.box
      have hbl := objAt_lt (show objAt wr _ = _ from hI.box)
      have hbn : w.heap.size ≠ wr.heap.size := by omega
      generalize aB rs ns S ns.length rs[k].is (List.replicate 8 false) = Wn at *
      obtain ⟨pq, hpq⟩ : ∃ pq, pq = P.getD rs[k].is 0 := ⟨_, rfl⟩
      rw [← hpq] at r2
      have hcall' : ∀ X, Kept (fun _ => False) wr X → Calls Tryz.prog 146 #[.pointer (some ⟨pq, 0, none⟩), .pointer (some ⟨w.heap.size + 2, k * 8, none⟩), .agg (bl8 S)] X fun e w' => e = .returned (.tuple #[]) ∧ w'.heap[w.heap.size + 2]? = some (.cells (mat (stR (m1 rs ns S k) k (rw8 Wn))) 207) ∧ Kept (· = w.heap.size + 2) X w' := fun X hK => by rw [hpq]; exact hcall X hK
      unfold bl8 at hcall'
      clear hcall hrow hI6 hisI hisl hI
      generalize rs[k].name = rn at *
      generalize rs[k].at_ = ra at *
      clear hpq
      go_wp2
      go_region_with (first | (go_at_call 146; refine (hcall' _ (by first | exact ((Kept.refl _ _).alloc _) | exact ((Kept.refl _ _).alloc _).drew | exact ((Kept.refl _ _).alloc _).drewN _)).mono ?_; rintro e w7 ⟨rfl, hr7, hK7⟩))
      all_goals
        go_wp2
        go_roundg (m - 1)
        case measure => have := hkn.out; omega
        case rel => exact ⟨k + 1, by have := hkn.out; unfold Hid; omega, by go_num, HST.out _ _ (((Kept.refl _ _).alloc _).drew) hK7 hr7⟩
    · have hkl : k = rs.length := by have := hkn.out; omega
      rw [hkl, m1_all] at hI
      clear hkn hkl
      obtain ⟨w5, hw5⟩ : ∃ w5, w5 = wr := ⟨wr, rfl⟩
      subst hw5
      go_wp2
      go_loopg [27] 8 (fun n v wx => ∃ t : Nat, Hid (t + n = 8) ∧ v = .int .i64 t ∧ LdI base gb (.slice rp rs.length rc) P ρ rs ns S w (cK (m0 rs ns S) t) wx)
      case atStart => exact ⟨0, rfl, rfl, hI⟩
      case round =>
        obtain ⟨t, htn, rfl, hT⟩ := hrel
        obtain ⟨m2, hm2⟩ : ∃ m, m = gk := ⟨gk, rfl⟩
        subst hm2
        obtain ⟨w6, hw6⟩ : ∃ w6, w6 = wr := ⟨wr, rfl⟩
        subst hw6
        by_cases ht : t < 8
        · have ht' : (t : Int) < 8 := by omega
          have HKK : Hid (cI (cK (m0 rs ns S) t) t 8 = cK (m0 rs ns S) (t + 1)) := rfl
          generalize hMt : cK (m0 rs ns S) t = Mt at *
          clear hMt
          go_wp2
          go_loopg [30] 8 (fun n v wx => ∃ i : Nat, Hid (i + n = 8) ∧ v = .int .i64 i ∧ LdI base gb (.slice rp rs.length rc) P ρ rs ns S w (cI Mt t i) wx)
          case atStart => exact ⟨0, rfl, rfl, hT⟩
          case round =>
            obtain ⟨i, hin, rfl, hE⟩ := hrel
            obtain ⟨m3, hm3⟩ : ∃ m, m = gk := ⟨gk, rfl⟩
            subst hm3
            by_cases hi : i < 8
            · have hi' : (i : Int) < 8 := by omega
              have HCW : Hid (cw (cI Mt t i) t i = cI Mt t (i + 1)) := rfl
              generalize cI Mt t i = Mi at *
              have hc := matcell hE.row hi ht
              cases hb : Mi i t
              · rw [hb] at hc
                have HN : Hid (mat Mi = mat (cI Mt t (i + 1))) := by unfold Hid; rw [← HCW.out]; exact cw_no hb
                clear hb HCW
                go_wp2
                go_roundg (m3 - 1)
                case measure => have := hin.out; omega
                case rel => exact ⟨i + 1, by have := hin.out; unfold Hid; omega, by go_num, ⟨hE.gm, hE.box, hE.res, by rw [hE.row, HN.out], hE.kept⟩⟩
              · rw [hb] at hc
                have HN : Hid (mat (stR Mi i (fun b => Mi i b || Mi t b)) = mat (cI Mt t (i + 1))) := by unfold Hid; rw [← HCW.out]; exact cw_yes hb
                obtain ⟨d0, d1, d2, d3, d4, d5, d6, d7⟩ := row8 hE.row ht
                have hself : mat Mi = mat (stR Mi i (Mi i)) := mat_congr (fun a b _ _ => by
                  unfold stR
                  by_cases ha : a = i
                  · rw [if_pos ha, ha]
                  · rw [if_neg ha])
                have hadd := fun (X : World) (hK : Kept (fun _ => False) wr X) => add_code (w.heap.size + 2) i Mi (Mi i) (Mi t) X hi (by rw [← hself]; exact (hE.same hK).row)
                have HST := hide (fun (X X' : World) (hK : Kept (fun _ => False) wr X) (hK' : Kept (· = w.heap.size + 2) X X') (hr : X'.heap[w.heap.size + 2]? = some (.cells (mat (stR Mi i (fun b => Mi i b || Mi t b))) 207)) => (hE.same hK).turn (M' := cI Mt t (i + 1)) hK' (by rw [hr, HN.out]))
                unfold bl8 at hadd
                clear hself hb HCW HN hE
                go_wp2
                go_region_with (first | (go_at_call 147; refine (hadd _ (by first | exact (Kept.refl _ _) | exact (Kept.refl _ _).drew | exact (Kept.refl _ _).drewN _)).mono ?_; rintro e w7 ⟨rfl, hr7, hK7⟩))
                all_goals
                  go_wp2
                  go_roundg (m3 - 1)
                  case measure => have := hin.out; omega
                  case rel => exact ⟨i + 1, by have := hin.out; unfold Hid; omega, by go_num, HST.out _ _ ((Kept.refl _ _).drew) hK7 hr7⟩
            · have hi8 : i = 8 := by have := hin.out; omega
              rw [hi8, HKK.out] at hE
              clear hin hi8
              go_wp2
              go_roundg (m2 - 1)
              case measure => have := htn.out; omega
              case rel => exact ⟨t + 1, by have := htn.out; unfold Hid; omega, by go_num, hE⟩
        · have ht8 : t = 8 := by have := htn.out; omega
          rw [ht8] at hT
          clear htn ht8 hI
          obtain ⟨MF, hMF⟩ : ∃ MF, MF = cK (m0 rs ns S) 8 := ⟨_, rfl⟩
          rw [← hMF] at hT
          have HMF := hide hMF
          clear hMF
          have ho1 : objAt w6 (w.heap.size + 2) = some (.cells (mat MF) 207 (0, 0)) := hT.row
          have ho2 : objAt w6 (w.heap.size + 1) = some (.cells z83 207 (0, 0)) := hT.res
          have hms : 0 + 64 ≤ (mat MF).size := by rw [mat_size]; omega
          have hms2 : (mat MF).size = 64 := mat_size MF
          have hex : (mat MF).extract 0 (0 + 64) = mat MF := by rw [← hms2, Nat.zero_add]; simp
          have hone : ones (mat MF) = true := by
            unfold ones mat
            simp
            intro x _
            rfl
          have hz64 := z83_size
          have hkept := hT.kept
          clear hI0 e0 e1 ef0 ef1 hG AB
          have hrow : (w6.setRow (w.heap.size + 1) (mat MF)).heap[w.heap.size + 1]? = some (.cells (mat MF) 207 (0, 0)) := setRow_heap _ _ _ _ 207 (0, 0) ho2
          have hld := run_loadVar_row (P := Tryz.prog) (w6.setRow (w.heap.size + 1) (mat MF)) (w.heap.size + 1) 207 207 (mat MF) (0, 0) _ hrow Tryz.underlying207 rfl (by rw [hms2]; exact size83)
          have hkR : Kept (fun _ => False) w (w6.setRow (w.heap.size + 1) (mat MF)) := hkept.new ⟨rfl, rfl, rfl, by simp, fun k _ hk => setRow_other _ _ _ _ hk⟩ (by omega)
          go_wp2
          refine bodyPost_ret (v := .agg (mat MF)) ?_ rfl ⟨by rw [HMF.out], hkR⟩
          simp [results, Tryz.results99, asAddr, hld]
end Go.Proofs.YtagklnaaoclmhaaGreatDoor

namespace Go.Proofs.YtagklnaaoclmhaaGreatDoor
open Go.RowKit
attribute [local go_sem ↓] exec_load83 exec_alloc83 exec_store83
attribute [local go_sem] load83At_ptr load83Of_some store83At_ptr store83Of_some objAt_drew objAt_drewN objAt_new objAt_old

/-- What ends leaves. -/
structure EnOut (rs : List Rl) (ns : List Nd) (w : World) (e : Ending) (w' : World) : Prop where
  ok : endless rs ns < 0 → e = .returned (.tuple #[.int .i64 0, .bool true])
  no : 0 ≤ endless rs ns → e = .returned (.tuple #[.int .i64 (endless rs ns), .bool false])
  kept : Kept (fun _ => False) w w'

/-- While ends goes over the rules. -/
structure EnI (base gb : Nat) (rv : Value) (P : List Nat) (ρ : Nat → Int) (rs : List Rl) (ns : List Nd) (S : Nat → Bool) (M : Nat → Nat → Bool) (k4 k5 : Nat) (w wx : World) : Prop where
  gm : Gm wx base gb rv P ρ rs ns
  set : wx.heap[k4]? = some (.cells (bl8 S) 205)
  row : wx.heap[k5]? = some (.cells (mat M) 207)
  kept : Kept (fun _ => False) w wx
theorem EnI.same {base gb k4 k5 : Nat} {rv : Value} {P : List Nat} {ρ : Nat → Int} {rs : List Rl} {ns : List Nd} {S : Nat → Bool} {w wx w' : World} {M : Nat → Nat → Bool} (h : EnI base gb rv P ρ rs ns S M k4 k5 w wx) (hk : Kept (fun _ => False) wx w') : EnI base gb rv P ρ rs ns S M k4 k5 w w' :=
  ⟨h.gm.same hk, by rw [hk.block _ (objAt_lt (show objAt wx _ = _ from h.set)) (fun x => x)]; exact h.set, by rw [hk.block _ (objAt_lt (show objAt wx _ = _ from h.row)) (fun x => x)]; exact h.row, h.kept.trans hk⟩

theorem endless_at {rs : List Rl} {ns : List Nd} {S : Nat → Bool} (hW : WfR ns rs) (hN : ∀ N ∈ ns, N.kind = 3 → (fndI rs N.name).isSome = true) (hS : Lst rs ns S) {k : Nat} (hk : k < rs.length) (h1 : ∀ u, u < k → cEnd rs ns S u = false) (h2 : cEnd rs ns S k = true) : endless rs ns = (rs[k].at_ : Int) := by
  have := endI_at rs ns k hk (fun u hu => by rw [endless_code hW hN hS u (by omega)]; exact h1 u hu) (by rw [endless_code hW hN hS k hk]; exact h2)
  unfold endless
  rw [this]
  simp only [map_getD _ _ _ _ hk]
theorem endless_no {rs : List Rl} {ns : List Nd} {S : Nat → Bool} (hW : WfR ns rs) (hN : ∀ N ∈ ns, N.kind = 3 → (fndI rs N.name).isSome = true) (hS : Lst rs ns S) (h1 : ∀ u, u < rs.length → cEnd rs ns S u = false) : endless rs ns < 0 := by
  have := endI_none rs ns (fun u hu => by rw [endless_code hW hN hS u hu]; exact h1 u hu)
  unfold endless
  rw [this]
  show (-1 : Int) < 0
  decide

set_option maxRecDepth 100000 in
set_option maxHeartbeats 6400000 in
theorem ends_code {base gb : Nat} {rv : Value} {P : List Nat} {ρ : Nat → Int} {rs : List Rl} {ns : List Nd} (hW : WfR ns rs) (hN : ∀ N ∈ ns, N.kind = 3 → (fndI rs N.name).isSome = true) (hρ : ∀ i, i < ns.length → (nth ns i).kind = 3 → ρ i = (ruI rs (nth ns i) : Int)) (hn : ns.length ≤ 5000) (hsl : ∀ i, i < ns.length → (nth ns i).subs.length ≤ 9223372036854775807) (w : World) (hG : Gm w base gb rv P ρ rs ns) :
    Calls Tryz.prog 69 #[.pointer (some ⟨gb, 0, none⟩)] w fun e w' => EnOut rs ns w e w' := by
  have hl8 := hW.len
  obtain ⟨rp, rc, hrv⟩ := ownsRow_form hG.own
  go_enter Tryz.func69, Tryz.ntmps69
  go_wp2_with fail
  refine (emptyRules_code hW hN hρ hn hsl w hG).mono ?_
  intro e w1 hEm
  obtain ⟨S, rfl, hLst, hout⟩ := hEm.res
  have hK1 := hEm.kept
  have hG1 := hG.same hK1
  have hG2 := hG1.same ((Kept.refl (fun _ => False) w1).alloc (.cells (bl8 S) 205))
  have hlead := leads_code hW (addBegins_code (S := S) hW hN hρ hn hsl ns.length) _ hG2
  have hRE := repeats_said (base := base) (gb := gb) (rv := rv) (P := P) (ρ := ρ) (S := S) hW hsl (isEmpty_code (S := S) hW hN hρ hn hsl ns.length) ns.length
  obtain ⟨MF, hMF⟩ : ∃ MF, MF = cK (m0 rs ns S) 8 := ⟨_, rfl⟩
  rw [← hMF] at hlead
  have hms2 : (mat MF).size = 64 := mat_size MF
  have hone : ones (mat MF) = true := by
    unfold ones mat
    simp
    intro x _
    rfl
  have hz64 := z83_size
  have hAt := fun (k : Nat) (hk : k < rs.length) => endless_at (k := k) hW hN hLst hk
  have hNo := endless_no hW hN hLst
  have hcE : ∀ k, cEnd rs ns S k = (MF k k || rE rs ns S ns.length (isI rs k)) := fun k => by unfold cEnd; rw [← hMF]
  clear hMF hEm
  unfold bl8 at hlead ⊢
  go_wp2_with fail
  refine hlead.mono ?_
  rintro e w3 ⟨rfl, hK3⟩
  have hkz : w1.heap.size < w3.heap.size := by have := hK3.size; simp at this; omega
  have hI0 : EnI base gb rv P ρ rs ns S MF w1.heap.size w3.heap.size w ((w3.alloc (.cells z83 207)).setRow w3.heap.size (mat MF)) := by
    have hKr : Kept (· = w3.heap.size) (w3.alloc (.cells z83 207)) ((w3.alloc (.cells z83 207)).setRow w3.heap.size (mat MF)) := ⟨rfl, rfl, rfl, by simp, fun k _ hk => setRow_other _ _ _ _ hk⟩
    have hK4 : Kept (fun _ => False) w3 ((w3.alloc (.cells z83 207)).setRow w3.heap.size (mat MF)) := ((Kept.refl (fun _ => False) w3).alloc _).new hKr (Nat.le_refl _)
    have hK5 := hK3.trans hK4
    refine ⟨hG2.same hK5, ?_, setRow_heap _ _ _ _ 207 (0, 0) (heap_alloc_new _ _), hK1.trans (((Kept.refl (fun _ => False) w1).alloc _).trans hK5)⟩
    rw [hK5.block _ (by simp) (fun x => x)]
    exact heap_alloc_new _ _
  obtain ⟨z', hz'⟩ := hI0.gm.gram
  obtain ⟨e0, e1, ef0, ef1⟩ := cells2 hz'
  subst hrv
  clear hz'
  go_wp2
  clear e0 e1 ef0 ef1
  go_loopg [18] rs.length (fun n v wx => ∃ k : Nat, Hid (k + n = rs.length) ∧ v = .int .i64 k ∧ EnI base gb (.slice rp rs.length rc) P ρ rs ns S MF w1.heap.size w3.heap.size w wx ∧ Hid (∀ u, u < k → cEnd rs ns S u = false))
  case atStart => exact ⟨0, Nat.zero_add _, rfl, hI0, fun u hu => absurd hu (by omega)⟩
  case round =>
    obtain ⟨k, hkn, rfl, hI, HA⟩ := hrel
    obtain ⟨m, hm⟩ : ∃ m, m = gk := ⟨gk, rfl⟩
    subst hm
    clear hI0
    by_cases hlt : k < rs.length
    · obtain ⟨rb, rcap, hrv, r0, r1, r2⟩ := rl_cells hI.gm.own hlt
      simp only [Value.slice.injEq] at hrv
      obtain ⟨hp, _, hcap⟩ := hrv
      subst hp hcap
      unfold ptrAt at r2
      have hisl : rs[k].is < ns.length := hW.is _ (List.getElem_mem hlt)
      have hisI : isI rs k = rs[k].is := map_getD _ _ _ _ hlt
      have hk8 : k < 8 := by omega
      have hk8' : (k : Int) < 8 := by omega
      have hck := hcE k
      rw [hisI] at hck
      have HY := hide (fun h : cEnd rs ns S k = true => hAt k hlt HA.out h)
      have HZ := hide (fun h : cEnd rs ns S k = false => (fun u (hu : u < k + 1) => by
        rcases Nat.lt_or_eq_of_le (Nat.lt_succ_iff.1 hu) with h1 | h1
        · exact HA.out u h1
        · subst h1; exact h : ∀ u, u < k + 1 → cEnd rs ns S u = false))
      have hI6 := fun (X : World) (hK : Kept (fun _ => False) wr X) => hI.same hK
      have hre := fun (X : World) (hK : Kept (fun _ => False) wr X) => hRE rs[k].is X hisl hisl (hI6 X hK).gm
      have hc := matcell hI.row hk8 hk8
      obtain ⟨d0, d1, d2, d3, d4, d5, d6, d7⟩ := cells8 hI.set
      have hs4 := objAt_lt (show objAt wr _ = _ from hI.set)
      have hs5 := objAt_lt (show objAt wr _ = _ from hI.row)
      have hn4 : w1.heap.size ≠ wr.heap.size := by omega
      have hn5 : w3.heap.size ≠ wr.heap.size := by omega
      have hkp := hI.kept
      generalize rE rs ns S ns.length rs[k].is = re at *
      generalize hmk : MF k k = mk at *
      generalize rs[k].name = rn at *
      generalize rs[k].at_ = ra at *
      generalize P.getD rs[k].is 0 = pq at *
      unfold bl8 at hre
      clear hmk hisI hisl HA hRE hAt hI
      cases mk
      · rw [Bool.false_or] at hck
        go_wp2_with fail
        refine (hre _ ((Kept.refl _ _).alloc _)).mono ?_
        rintro e w7 ⟨rfl, hK7⟩
        have hK8 : Kept (fun _ => False) wr w7 := ((Kept.refl _ _).alloc _).trans hK7
        have hk7 : w7.heap[wr.heap.size]? = some (.cells #[.string (ba rn), .int .i64 (ra : Int), .pointer (some ⟨pq, 0, none⟩)] 189) := by
          rw [hK7.block _ (by simp) (fun x => x)]; exact heap_alloc_new _ _
        obtain ⟨x0, x1, x2, xf0, xf1, xf2⟩ := cells3 hk7
        cases re
        · have HN := hide (HZ.out hck)
          have HI8 := hide (hI6 w7 hK8)
          clear HY HZ hck hI6
          go_wp2
          go_roundg (m - 1)
          case measure => have := hkn.out; omega
          case rel => exact ⟨k + 1, by have := hkn.out; unfold Hid; omega, by go_num, HI8.out, HN.out⟩
        · have HN := hide (HY.out hck)
          clear HY HZ hck hI6
          go_wp2
          go_ret2
          exact ⟨fun h => absurd h (by rw [HN.out]; omega), fun _ => by rw [HN.out]; rfl, hkp.trans hK8⟩
      · rw [Bool.true_or] at hck
        have HN := hide (HY.out hck)
        clear HY HZ hck hI6
        go_wp2
        go_ret2
        exact ⟨fun h => absurd h (by rw [HN.out]; omega), fun _ => by rw [HN.out]; rfl, hkp.trans ((Kept.refl _ _).alloc _)⟩
    · have hkl : k = rs.length := by have := hkn.out; omega
      have HN : Hid (endless rs ns < 0) := hNo (fun u hu => HA.out u (by omega))
      have hkp := hI.kept
      clear hI HA
      go_wp2
      go_ret2
      exact ⟨fun _ => rfl, fun h => absurd HN.out (by omega), hkp⟩
end Go.Proofs.YtagklnaaoclmhaaGreatDoor

namespace Go.Proofs.YtagklnaaoclmhaaGreatDoor
open Go.RowKit

/-- What the code's Read leaves. -/
structure RdOut (s : ByteArray) (w : World) (C : Int × Int) (e : Ending) (w' : World) : Prop where
  kept : Kept (fun _ => False) w w'
  bad : C.1 ≠ 0 → e = .returned (.tuple #[.pointer none, .int .i64 C.1, .int .i64 C.2])
  ok : C.1 = 0 → ∃ gb, e = .returned (.tuple #[.pointer (some ⟨gb, 0, none⟩), .int .i64 C.1, .int .i64 C.2]) ∧ ∃ base rv P ρ, w.heap.size ≤ base ∧ Gm w' base gb rv P ρ (read s).2 (read s).1.ns ∧ ∀ i, i < (read s).1.ns.length → (nth (read s).1.ns i).kind = 3 → ρ i = (ruI (read s).2 (nth (read s).1.ns i) : Int)

theorem cells6 {w : World} {k t : Nat} {a b c d e f : Value} (h : w.heap[k]? = some (.cells #[a, b, c, d, e, f] t)) : w.cell? ⟨k, 1, none⟩ = some b ∧ w.cell? ⟨k, 5, none⟩ = some f := by
  refine ⟨?_, ?_⟩ <;> simp [World.cell?, h]

theorem cs_new {mv' : Mv} {w w2 : World} {o : Obj} (h : Cs w.heap.size ⟨.slice none 0 0, []⟩ mv' (w.alloc o) w2) : Kept (fun _ => False) w w2 :=
  ⟨h.kept.os, h.kept.tape, h.kept.output, by have := h.kept.size; simp at this; omega, fun k hk _ => by
    rw [h.kept.block k (by simp; omega) (fun x => by
      rcases x with x | x
      · omega
      · simp [Value.ownBlock] at x)]
    exact Below.heap_alloc _ _ _ hk⟩

theorem cr_first (s : ByteArray) (w : World) : CR (w.alloc (.cells #[.string s, .int .i64 0, .int .i64 0, .int .i64 0, .int .i64 0, .slice none 0 0] 138)) w.heap.size w.heap.size s ⟨.slice none 0 0, []⟩ (fun _ => False) [] [] ⟨⟨0, -1, 0, 0⟩, []⟩ :=
  ⟨⟨0, rfl, heap_alloc_new _ _⟩, World.ownsRow_nil _ _ _ _, by simp [Value.ownBlock], ⟨rfl, fun i h => absurd h (by simp), fun i h => absurd h (by simp), List.nodup_nil, fun x hx => absurd hx (by simp)⟩, fun _ h => h.elim, fun m hm => absurd hm (by simp), Nat.le_refl _, by simp, by simp, ⟨fun k h => absurd h (by simp), fun i h => absurd h (by simp)⟩⟩

theorem gm_sub {w : World} {base gb : Nat} {rv : Value} {P : List Nat} {ρ : Nat → Int} {rs : List Rl} {ns : List Nd} (h : Gm w base gb rv P ρ rs ns) (i : Nat) (hi : i < ns.length) : (nth ns i).subs.length ≤ 9223372036854775807 := by
  obtain ⟨z, vR, vP, _, _, _, _, hPs, _⟩ := h.ar.part i hi
  rw [nth_get hi]
  exact ownsRow_le hPs

set_option maxRecDepth 100000 in
set_option maxHeartbeats 3200000 in
theorem read_code (s : ByteArray) (w : World) (hm : s.size ≤ maxLen) :
    Calls Tryz.prog 45 #[.string s] w fun e w' => RdOut s w (refChk s) e w' := by
  unfold maxLen at hm
  have HC : Hid (refChk s = if 400 < s.size then (1, 0) else if 0 ≤ (read s).1.sc.bad then (2, (read s).1.sc.bad) else if 0 ≤ mis (read s).2 (read s).1.ns then (3, mis (read s).2 (read s).1.ns)
    else if 0 ≤ endless (read s).2 (read s).1.ns then (4, endless (read s).2 (read s).1.ns) else (0, 0)) := rfl
  generalize refChk s = C at *
  by_cases h400 : 400 < s.size
  · have h1 := HC.out
    rw [if_pos h400] at h1
    subst h1
    clear HC
    go_enter Tryz.func45, Tryz.ntmps45
    go_wp2
    go_ret3
    exact ⟨Kept.refl _ _, fun _ => rfl, fun h => absurd h (by decide)⟩
  · have h1 := HC.out
    rw [if_neg h400] at h1
    have hs : s.size ≤ 400 := by omega
    have hW := read_w s
    have hln := read_len hs
    have hgr := grammar_code s w.heap.size w.heap.size ⟨.slice none 0 0, []⟩ _ hs (cr_first s w)
    have H1 := hide h1
    clear HC h1
    generalize hX : read s = X at *
    have HX := hide hX
    clear hX
    obtain ⟨A, rs⟩ := X
    dsimp only at *
    go_enter Tryz.func45, Tryz.ntmps45
    go_wp2_with fail
    refine hgr.mono ?_
    intro e w2 hOut
    by_cases hbad : 0 ≤ A.sc.bad
    · have h2 := H1.out
      rw [if_pos hbad] at h2
      subst h2
      obtain ⟨rfl, mv', g', hR, hat, hS⟩ := hOut.no hbad
      obtain ⟨c0, c1, c2, c3, c4⟩ := hR.cells
      have hK := cs_new hS
      have HAT : Hid ((g'.at_ : Int) = A.sc.bad) := hat
      clear H1 hOut hgr hat
      go_wp2_with fail
      go_quiet (fail)
      go_wp2
      go_ret3
      exact ⟨hK.drewN _, fun _ => by rw [← HAT.out]; rfl, fun h => absurd (show (2 : Int) = 0 from h) (by decide)⟩
    · have h2 := H1.out
      rw [if_neg hbad] at h2
      have H2 := hide h2
      obtain ⟨mv', P, ms, gb, rv, z, hzL, rfl, hg, hown, hC, hMs, hS⟩ := hOut.ok (by show A.sc.bad < 0; omega)
      dsimp only at *
      have hK := cs_new hS
      have hG : Gm w2 w.heap.size gb rv P (fun _ => 0) rs A.ns := ⟨⟨z, hg⟩, hown, hC.ar.kept (Kept.refl (fun _ => False) w2) (fun _ _ _ x => x) (fun _ _ _ => trivial), mv'.L, by simp [World.cell?, hg, hzL], hC.bk⟩
      have hres := resolve_code w.heap.size gb _ rv mv'.v P ms rs A.ns w2 hG hC.own hMs hW.len (by have := hMs.len; have := hW.len; omega)
      obtain ⟨c0, c1, c2, c3, c4⟩ := hC.ris.cells
      obtain ⟨mp, mc, hmv⟩ := ownsRow_form hC.own
      have hPn : ∀ k, (∃ i, i < A.ns.length ∧ P.getD i 0 = k) → w.heap.size ≤ k := by
        rintro k ⟨i, hi, rfl⟩
        have hil : i < P.length := by rw [hG.ar.len]; exact hi
        exact hG.ar.low _ (by simp [List.getD, List.getElem?_eq_getElem hil])
      clear H1 h2 hOut hgr hS hC hzL
      obtain ⟨mvv, mvL⟩ := mv'
      dsimp only at *
      subst hmv
      go_wp2_with fail
      refine hres.mono ?_
      intro e w3 hOut
      have hK3 : Kept (fun _ => False) w w3 := ⟨hOut.kept.os.trans hK.os, hOut.kept.tape.trans hK.tape, hOut.kept.output.trans hK.output, Nat.le_trans hK.size hOut.kept.size, fun k hk hs => by
        rw [hOut.kept.block k (Nat.lt_of_lt_of_le hk hK.size) (fun x => by have := hPn k x; omega)]; exact hK.block k hk hs⟩
      by_cases hmis : 0 ≤ mis rs A.ns
      · have h3 := H2.out
        rw [if_pos hmis] at h3
        subst h3
        have he := hOut.no hmis
        subst he
        clear H2 hOut hres
        go_wp2
        go_ret3
        exact ⟨hK3, fun _ => rfl, fun h => absurd (show (3 : Int) = 0 from h) (by decide)⟩
      · have h3 := H2.out
        rw [if_neg hmis] at h3
        have H3 := hide h3
        obtain ⟨rfl, ρ, hG3, hρ⟩ := hOut.ok (by omega)
        have hends := ends_code hW (mis_named (by omega)) hρ (by omega) (fun i hi => gm_sub hG3 i hi) w3 hG3
        clear H2 h3 hOut hres
        go_wp2_with fail
        refine hends.mono ?_
        intro e w4 hOut
        have hK4 := hK3.trans hOut.kept
        by_cases hend : 0 ≤ endless rs A.ns
        · have h4 := H3.out
          rw [if_pos hend] at h4
          subst h4
          have he := hOut.no hend
          subst he
          clear H3 hOut hends
          go_wp2
          go_ret3
          exact ⟨hK4, fun _ => rfl, fun h => absurd (show (4 : Int) = 0 from h) (by decide)⟩
        · have h4 := H3.out
          rw [if_neg hend] at h4
          subst h4
          have he := hOut.ok (by omega)
          subst he
          have hG4 := hG3.same hOut.kept
          clear H3 hOut hends
          go_wp2
          go_ret3
          refine ⟨hK4, fun h => absurd rfl h, fun _ => ⟨gb, rfl, w.heap.size, rv, P, ρ, Nat.le_refl _, ?_⟩⟩
          rw [HX.out]; exact ⟨hG4, hρ⟩

end Go.Proofs.YtagklnaaoclmhaaGreatDoor
