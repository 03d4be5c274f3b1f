import Derived.Test.YtagklnaaoclmhaaGreatDoorMgAT
import Derived.Shelf.Spec.TrailingZeros
set_option linter.unusedSimpArgs false
set_option linter.unusedVariables false
namespace Go.Proofs.YtagklnaaoclmhaaGreatDoor
open Go.RowKit

/-- How long what the parts hold may be. -/
structure Ix (I : Wi) : Prop where
  tx : ∀ i, i < I.K.ns.length → (nth I.K.ns i).text.length ≤ 1000
  rl : ∀ i, i < I.K.ns.length → (nth I.K.ns i).rng.length ≤ 5000
theorem WkAt.sub4 {I : Wi} (hI : Ic I) {mv : Value} {s : Wt} {w : World} (h : WkAt I mv s w) {i : Nat} (hi : i < I.K.ns.length) : ∀ j ∈ (nth I.K.ns i).subs, Pt4 I j := by
  intro j hj
  have hlow := (nth_ok hI.wf.wf hi).low j hj
  refine ⟨by omega, fun h4 => ?_⟩
  have := h.brk.2.sub i hi j (by rw [nth_get hi] at hj; exact hj)
  exact this h4

set_option maxRecDepth 100000 in
set_option maxHeartbeats 3200000 in
theorem kind_any {I : Wi} (hI : Ic I) (hX : Ix I) {f : Nat} (hS : StepC I f) : KindC I f := by
  intro i a s t s' mv w hi ha h hm hk
  have hok := nth_ok hI.wf.wf hi.1
  have hsub := h.sub4 hI hi.1
  have hp := h.part hi.1
  have hru := hI.ru i hi.1
  have hl60 := hI.l60
  have hlen := hI.len
  have htx := hX.tx i hi.1
  have hrl := hX.rl i hi.1
  have hsl := gm_sub h.gm i hi.1
  obtain ⟨z, vR, vP, hb, _, _, _, hPs, _⟩ := hp
  have hpl := objAt_lt (show objAt w (I.P.getD i 0) = _ from hb)
  have cK : w.cell? ⟨I.P.getD i 0, 0, none⟩ = some (.int .i64 (kcode (nth I.K.ns i).kind)) := by simp only [World.cell?, hb]; rfl
  have cR : w.cell? ⟨I.P.getD i 0, 1, none⟩ = some (.int .i64 (I.ρ i)) := by simp only [World.cell?, hb]; rfl
  have cP : w.cell? ⟨I.P.getD i 0, 6, none⟩ = some vP := by simp only [World.cell?, hb]; rfl
  unfold wKd at hk
  have hkd : (nth I.K.ns i).kind ≤ 2 ∨ (nth I.K.ns i).kind = 3 ∨ (nth I.K.ns i).kind = 4 ∨ (nth I.K.ns i).kind = 5 ∨ (nth I.K.ns i).kind = 6 ∨ (nth I.K.ns i).kind = 7 ∨ (nth I.K.ns i).kind = 8 ∨ (nth I.K.ns i).kind = 9 ∨ (nth I.K.ns i).kind = 10 := by have := hok.kind; omega
  have hdr := fun n => h.drewN hI n
  have hFd : ∀ n, Fr I.b0 mv.ownBlock mv.ownBlock w (w.drewN n) := fun n => Fr.new ((Kept.refl _ w).drewN n)
  have hPd : ∀ n, (w.drewN n).ownsRow I.bg 187 1 vP (nth I.K.ns i).subs.length ((nth I.K.ns i).subs.map (ptrAt I.P)) := fun n => own_fr (hFd n) hPs
  rcases hkd with k | k | k | k | k | k | k | k | k
  · rw [if_pos k] at hk
    simp only [Option.some.injEq] at hk
    have hT := termW_any hI i a s mv w ha hi.1 k htx hrl h
    rw [hk] at hT
    have hkc : kcode (nth I.K.ns i).kind = ((nth I.K.ns i).kind : Int) + 1 := by unfold kcode; rw [if_neg (by omega), if_pos k]
    rw [hkc] at cK
    have hk3 : (nth I.K.ns i).kind = 0 ∨ (nth I.K.ns i).kind = 1 ∨ (nth I.K.ns i).kind = 2 := by omega
    unfold ptB' ptrAt at *
    generalize I.P.getD i 0 = pq at *
    rcases hk3 with k0 | k0 | k0 <;> rw [k0] at cK <;> clear hk
    all_goals
      go_enter Tryz.func179, Tryz.ntmps179
      go_wp2_with fail
      refine hT.mono ?_
      rintro e w1 ⟨rfl, mv1, h1, hF1⟩
      go_wp2
      go_ret
      exact ⟨rfl, _, h1, hF1⟩
  · rw [if_neg (by omega), if_pos k] at hk
    obtain ⟨r1, r2⟩ := hru k
    have hT := runW_any hI hS _ a t s s' mv w ha r2 h hm hk
    rw [k, show kcode 3 = 0 from rfl] at cK
    rw [r1] at cR
    unfold ptB' ptrAt at *
    generalize I.P.getD i 0 = pq at *
    clear hk
    all_goals
      go_enter Tryz.func179, Tryz.ntmps179
      go_wp2_with fail
      refine hT.mono ?_
      rintro e w1 ⟨rfl, mv1, h1, hF1⟩
      go_wp2
      go_ret
      exact ⟨rfl, _, h1, hF1⟩
  · rw [if_neg (by omega), if_neg (by omega), if_pos k] at hk
    have hT := brW_any hI hS i a t s s' mv w ha hi k h hk
    rw [k, show kcode 4 = 4 from rfl] at cK
    unfold ptB' ptrAt at *
    generalize I.P.getD i 0 = pq at *
    clear hk
    all_goals
      go_enter Tryz.func179, Tryz.ntmps179
      go_wp2_with fail
      refine hT.mono ?_
      rintro e w1 ⟨rfl, mv1, h1, hF1⟩
      go_wp2
      go_ret
      exact ⟨rfl, _, h1, hF1⟩
  · rw [if_neg (by omega), if_neg (by omega), if_neg (by omega), if_pos k] at hk
    have hT := seqW_any hI hS I.bg a vP (nth I.K.ns i).subs t s s' mv w ha hPs hsub hsl h hk
    rw [k, show kcode 5 = 5 from rfl] at cK
    unfold ptB' ptrAt at *
    generalize I.P.getD i 0 = pq at *
    clear hk
    all_goals
      go_enter Tryz.func179, Tryz.ntmps179
      go_wp2_with fail
      refine hT.mono ?_
      rintro e w1 ⟨rfl, mv1, h1, hF1⟩
      go_wp2
      go_ret
      exact ⟨rfl, _, h1, hF1⟩
  · obtain ⟨x, hx⟩ := hok.one (by omega)
    have hx0 : (nth I.K.ns i).subs.getD 0 0 = x := by rw [hx]; rfl
    rw [if_neg (by omega), if_neg (by omega), if_neg (by omega), if_neg (by omega), if_pos k, hx0] at hk
    have hx4 : Pt4 I x := hsub x (by rw [hx]; simp)
    rw [hx] at hPs
    obtain ⟨gg, cap, hvP, hgc⟩ := pt_cell hPs (k := 0) (by simp)
    have hgc' : w.cell? ⟨gg, 0, none⟩ = some (ptrAt I.P x) := hgc
    have hvP' : vP = .slice (some ⟨gg, 0, none⟩) 1 cap := hvP
    rw [hvP'] at cP
    rw [k, show kcode 6 = 6 from rfl] at cK
    have hT := optW_any hI hS x a t s s' mv w ha hx4 h hk
    clear hPs hPd hgc hvP hvP'
    unfold ptB' ptrAt at *
    generalize I.P.getD i 0 = pq at *
    clear hk
    all_goals
      go_enter Tryz.func179, Tryz.ntmps179
      go_wp2_with fail
      refine hT.mono ?_
      rintro e w1 ⟨rfl, mv1, h1, hF1⟩
      go_wp2
      go_ret
      exact ⟨rfl, _, h1, hF1⟩
  · obtain ⟨x, hx⟩ := hok.one (by omega)
    have hx0 : (nth I.K.ns i).subs.getD 0 0 = x := by rw [hx]; rfl
    rw [if_neg (by omega), if_neg (by omega), if_neg (by omega), if_neg (by omega), if_neg (by omega), if_pos k, hx0] at hk
    have hx4 : Pt4 I x := hsub x (by rw [hx]; simp)
    rw [hx] at hPs
    obtain ⟨gg, cap, hvP, hgc⟩ := pt_cell hPs (k := 0) (by simp)
    have hgc' : w.cell? ⟨gg, 0, none⟩ = some (ptrAt I.P x) := hgc
    have hvP' : vP = .slice (some ⟨gg, 0, none⟩) 1 cap := hvP
    rw [hvP'] at cP
    rw [k, show kcode 7 = 7 from rfl] at cK
    have hT := starW_any hI hS x a f t s s' mv w ha hx4 h hk
    clear hPs hPd hgc hvP hvP'
    unfold ptB' ptrAt at *
    generalize I.P.getD i 0 = pq at *
    clear hk
    all_goals
      go_enter Tryz.func179, Tryz.ntmps179
      go_wp2_with fail
      refine hT.mono ?_
      rintro e w1 ⟨rfl, mv1, h1, hF1⟩
      go_wp2
      go_ret
      exact ⟨rfl, _, h1, hF1⟩
  · obtain ⟨x, hx⟩ := hok.one (by omega)
    have hx0 : (nth I.K.ns i).subs.getD 0 0 = x := by rw [hx]; rfl
    rw [if_neg (by omega), if_neg (by omega), if_neg (by omega), if_neg (by omega), if_neg (by omega), if_neg (by omega), if_pos k, hx0] at hk
    have hx4 : Pt4 I x := hsub x (by rw [hx]; simp)
    rw [hx] at hPs
    obtain ⟨gg, cap, hvP, hgc⟩ := pt_cell hPs (k := 0) (by simp)
    have hgc' : w.cell? ⟨gg, 0, none⟩ = some (ptrAt I.P x) := hgc
    have hvP' : vP = .slice (some ⟨gg, 0, none⟩) 1 cap := hvP
    rw [hvP'] at cP
    rw [k, show kcode 8 = 8 from rfl] at cK
    have hT := plusW_any hI hS x a f t s s' mv w ha hx4 h hk
    clear hPs hPd hgc hvP hvP'
    unfold ptB' ptrAt at *
    generalize I.P.getD i 0 = pq at *
    clear hk
    all_goals
      go_enter Tryz.func179, Tryz.ntmps179
      go_wp2_with fail
      refine hT.mono ?_
      rintro e w1 ⟨rfl, mv1, h1, hF1⟩
      go_wp2
      go_ret
      exact ⟨rfl, _, h1, hF1⟩
  · obtain ⟨x, hx⟩ := hok.one (by omega)
    have hx0 : (nth I.K.ns i).subs.getD 0 0 = x := by rw [hx]; rfl
    rw [if_neg (by omega), if_neg (by omega), if_neg (by omega), if_neg (by omega), if_neg (by omega), if_neg (by omega), if_neg (by omega), hx0] at hk
    have hx4 : Pt4 I x := hsub x (by rw [hx]; simp)
    rw [hx] at hPs
    obtain ⟨gg, cap, hvP, hgc⟩ := pt_cell hPs (k := 0) (by simp)
    have hgc' : w.cell? ⟨gg, 0, none⟩ = some (ptrAt I.P x) := hgc
    have hvP' : vP = .slice (some ⟨gg, 0, none⟩) 1 cap := hvP
    rw [hvP'] at cP
    rw [k, show kcode 9 = 9 from rfl] at cK
    rw [decide_eq_true k] at hk
    have hT := lookW_any hI hS x a true t s s' mv (w.drewN 1) ha hx4 (hdr 1) hk
    clear hPs hPd hgc hvP hvP'
    unfold ptB' ptrAt at *
    generalize I.P.getD i 0 = pq at *
    generalize I.P.getD x 0 = px at *
    clear hk
    all_goals
      go_enter Tryz.func179, Tryz.ntmps179
      go_wp2_with fail
      go_region_with (go_at_call 196; refine hT.mono ?_; rintro e w1 ⟨rfl, mv1, h1, hF1⟩)
      all_goals
        go_wp2
        go_ret
        exact ⟨rfl, _, h1, (hFd 1).trans hF1⟩
  · obtain ⟨x, hx⟩ := hok.one (by omega)
    have hx0 : (nth I.K.ns i).subs.getD 0 0 = x := by rw [hx]; rfl
    rw [if_neg (by omega), if_neg (by omega), if_neg (by omega), if_neg (by omega), if_neg (by omega), if_neg (by omega), if_neg (by omega), hx0] at hk
    have hx4 : Pt4 I x := hsub x (by rw [hx]; simp)
    rw [hx] at hPs
    obtain ⟨gg, cap, hvP, hgc⟩ := pt_cell hPs (k := 0) (by simp)
    have hgc' : w.cell? ⟨gg, 0, none⟩ = some (ptrAt I.P x) := hgc
    have hvP' : vP = .slice (some ⟨gg, 0, none⟩) 1 cap := hvP
    rw [hvP'] at cP
    rw [k, show kcode 10 = 10 from rfl] at cK
    rw [decide_eq_false (by omega)] at hk
    have hT := lookW_any hI hS x a false t s s' mv (w.drewN 1) ha hx4 (hdr 1) hk
    clear hPs hPd hgc hvP hvP'
    unfold ptB' ptrAt at *
    generalize I.P.getD i 0 = pq at *
    generalize I.P.getD x 0 = px at *
    clear hk
    all_goals
      go_enter Tryz.func179, Tryz.ntmps179
      go_wp2_with fail
      go_region_with (go_at_call 196; refine hT.mono ?_; rintro e w1 ⟨rfl, mv1, h1, hF1⟩)
      all_goals
        go_wp2
        go_ret
        exact ⟨rfl, _, h1, (hFd 1).trans hF1⟩

theorem step_all {I : Wi} (hI : Ic I) (hX : Ix I) : ∀ f, StepC I f
  | 0 => fun i a s t s' mv w _ _ _ h => by cases h
  | f + 1 => match_any hI (kind_any hI hX (step_all hI hX f))
end Go.Proofs.YtagklnaaoclmhaaGreatDoor

namespace Go.Proofs.YtagklnaaoclmhaaGreatDoor
open Go.RowKit

/-- The library's table, as it is laid. -/
def Tab (w : World) : Prop := TabAt 0 Lib.deBruijn64tab w
theorem Tab.kept {S : Nat → Prop} {w w' : World} (h : Tab w) (hk : Kept S w w') (h0 : ¬ S 0) : Tab w' := by
  intro j hj
  have h1 := h j hj
  rw [← h1]
  exact hk.cell (p := ⟨0, j, none⟩) (lt_cell h1) h0

set_option maxHeartbeats 800000 in
theorem tz64_core (x k idx : Nat) (w : World) (hx0 : ((x : Int) == 0) = false)
    (key : IntKind.u64.wrap (bits BinOp.and IntKind.u64 (x : Int) (IntKind.u64.wrap (-(x : Int))) * 285870213051353865) / 288230376151711744 = (idx : Int))
    (hi : idx < 64) (hk : k < 64) (hcell : w.cell? ⟨0, idx, none⟩ = some (.int .u8 (k : Int))) :
    Calls Tryz.prog 153 #[.int .u64 (x : Int)] w fun e w' => e = .returned (.int .i64 (k : Int)) ∧ w' = w := by
  go_enter Tryz.func153, Tryz.ntmps153
  go_wp2_with (simp only [key])
  go_ret
  exact ⟨rfl, rfl⟩
theorem tz64_any (x : Nat) (hx0 : x ≠ 0) (hx : x < 18446744073709551616) (w : World) (hT : Tab w) :
    Calls Tryz.prog 153 #[.int .u64 (x : Int)] w fun e w' => e = .returned (.int .i64 (Lib.ctz 64 x : Nat)) ∧ w' = w := by
  obtain ⟨hlow, hk⟩ := Lib.lowest_bit 64 x hx0 hx
  obtain ⟨hi, htab⟩ := Lib.deBruijn64_at _ hk
  refine tz64_core x _ _ w (by simp; omega) (tz64_key x _ hx hx0 hlow) hi hk ?_
  have h := hT _ hi
  rw [htab] at h
  exact h

theorem low_clear (c q : Nat) : (2 ^ c * (2 * q + 1)) &&& (2 ^ c * (2 * q + 1) - 1) = 2 ^ c * (2 * q) := by
  have hp : 0 < 2 ^ c := Nat.two_pow_pos c
  have e1 : 2 ^ c * (2 * q + 1) - 1 = 2 ^ c * (2 * q) + (2 ^ c - 1) := by rw [Nat.mul_add]; omega
  rw [e1]
  apply Nat.eq_of_testBit_eq
  intro j
  rw [Nat.testBit_and]
  have h1 := Nat.testBit_two_pow_mul_add (2 * q + 1) (b := 0) (i := c) hp j
  have h2 := Nat.testBit_two_pow_mul_add (2 * q) (b := 2 ^ c - 1) (i := c) (by omega) j
  have h3 := Nat.testBit_two_pow_mul_add (2 * q) (b := 0) (i := c) hp j
  rw [Nat.add_zero] at h1 h3
  rw [h1, h2, h3]
  by_cases hj : j < c
  · simp [hj]
  · simp only [hj, if_false]
    cases hjc : j - c with
    | zero => simp
    | succ n =>
      rw [Nat.testBit_succ, Nat.testBit_succ, show (2 * q + 1) / 2 = q by omega, show 2 * q / 2 = q by omega, Bool.and_self]
/-- The bits of a number. -/
def btL (m : Nat) : List Nat := (List.range 64).filter (fun t => m.testBit t)
structure BtI (m k left : Nat) : Prop where
  le : k ≤ 64
  bit : ∀ t, left.testBit t = (m.testBit t && decide (k ≤ t))
theorem BtI.next {m k left : Nat} (h : BtI m k left) (h0 : left ≠ 0) (hl : left < 18446744073709551616) : Lib.ctz 64 left < 64 ∧ BtI m (Lib.ctz 64 left + 1) (left &&& (left - 1)) ∧ (List.range (Lib.ctz 64 left + 1)).filter (fun t => m.testBit t) = (List.range k).filter (fun t => m.testBit t) ++ [Lib.ctz 64 left] := by
  obtain ⟨q, hq, hc⟩ := Lib.ctzFrom_spec 64 left (by omega) hl
  have hcz : Lib.ctz 64 left = Lib.ctzFrom 64 left := by unfold Lib.ctz; rw [if_neg h0]
  rw [hcz]
  generalize Lib.ctzFrom 64 left = c at *
  have hbit : ∀ t, left.testBit t = if t < c then false else (2 * q + 1).testBit (t - c) := by
    intro t
    have h1 := Nat.testBit_two_pow_mul_add (2 * q + 1) (b := 0) (i := c) (Nat.two_pow_pos c) t
    rw [Nat.add_zero, ← hq] at h1
    rw [h1]; simp
  have hcc : left.testBit c = true := by rw [hbit c]; simp
  have hck : k ≤ c ∧ m.testBit c = true := by
    have := h.bit c
    rw [hcc] at this
    simp at this
    exact ⟨this.2, this.1⟩
  have hno : ∀ t, k ≤ t → t < c → m.testBit t = false := by
    intro t h1 h2
    have h3 := h.bit t
    rw [hbit t, if_pos h2] at h3
    simpa [h1] using h3.symm
  have hcl : left &&& (left - 1) = 2 ^ c * (2 * q) := by rw [hq]; exact low_clear c q
  refine ⟨hc, ⟨by omega, fun t => ?_⟩, ?_⟩
  · have h3 := Nat.testBit_two_pow_mul_add (2 * q) (b := 0) (i := c) (Nat.two_pow_pos c) t
    rw [Nat.add_zero] at h3
    rw [hcl, h3]
    by_cases ht : t < c
    · simp [ht]; omega
    · rw [if_neg ht]
      by_cases htc : t = c
      · subst htc; simp
      · have h4 := h.bit t
        rw [hbit t, if_neg ht] at h4
        have h5 : decide (k ≤ t) = true := by simp; omega
        rw [h5, Bool.and_true] at h4
        have h6 : decide (c + 1 ≤ t) = true := by simp; omega
        rw [h6, Bool.and_true, ← h4]
        obtain ⟨n, hn⟩ : ∃ n, t - c = n + 1 := ⟨t - c - 1, by omega⟩
        rw [hn, Nat.testBit_succ, Nat.testBit_succ]
        congr 1; omega
  · rw [List.range_succ, List.filter_append]
    have h7 : List.filter (fun t => m.testBit t) [c] = [c] := by simp [hck.2]
    rw [h7]
    congr 1
    obtain ⟨d, rfl⟩ : ∃ d, c = k + d := ⟨c - k, by omega⟩
    rw [List.range_add, List.filter_append]
    have h8 : List.filter (fun t => m.testBit t) (List.map (k + ·) (List.range d)) = [] := by
      rw [List.filter_eq_nil_iff]
      intro t ht
      simp at ht
      obtain ⟨e, h9, rfl⟩ := ht
      rw [hno _ (by omega) (by omega)]; simp
    rw [h8, List.append_nil]
theorem BtI.done {m k : Nat} (h : BtI m k 0) : (List.range k).filter (fun t => m.testBit t) = btL m := by
  unfold btL
  obtain ⟨d, hd⟩ : ∃ d, 64 = k + d := ⟨64 - k, by have := h.le; omega⟩
  rw [hd, List.range_add, List.filter_append]
  have h8 : List.filter (fun t => m.testBit t) (List.map (k + ·) (List.range d)) = [] := by
    rw [List.filter_eq_nil_iff]
    intro t ht
    simp at ht
    obtain ⟨e, h9, rfl⟩ := ht
    have := h.bit (k + e)
    simp at this
    simp [this]
  rw [h8, List.append_nil]
theorem info3 : (Tryz.prog.info? 3).map (fun i => (i.zero, i.size, i.bytes)) = some (some (.int .i64 0), 1, 8) := by kernel_rfl
def i64V (n : Nat) : Value := .int .i64 (n : Int)
structure NbOut (m : Nat) (w : World) (e : Ending) (w' : World) : Prop where
  ex : ∃ v, e = .returned v ∧ w'.ownsRow w.heap.size 3 1 v (btL m).length ((btL m).map i64V)
  kept : Kept (fun _ => False) w w'
structure NbI (m : Nat) (w : World) (v : Value) (left : Nat) (wx : World) (k : Nat) : Prop where
  bt : BtI m k left
  own : wx.ownsRow w.heap.size 3 1 v ((List.range k).filter (fun t => m.testBit t)).length (((List.range k).filter (fun t => m.testBit t)).map i64V)
  kept : Kept (fun _ => False) w wx
set_option maxRecDepth 100000 in
set_option maxHeartbeats 1600000 in
theorem numbers_any (wk : Nat) (m : Nat) (w : World) (hT : Tab w) (h7 : w.cell? ⟨wk, 7, none⟩ = some (.int .u64 (m : Int))) (hm : m < 18446744073709551616) :
    Calls Tryz.prog 106 #[.pointer (some ⟨wk, 6, none⟩)] w fun e w' => NbOut m w e w' := by
  obtain ⟨i0, hi0, hz0, hz1, hz2⟩ := info_parts info3
  have h0l : (0 : Nat) < w.heap.size := lt_cell (hT 0 (by decide))
  go_enter Tryz.func106, Tryz.ntmps106
  go_wp2
  go_loopg [3, 4] m (fun n v3 v4 wx => ∃ k, v4 = .int .u64 (n : Int) ∧ n ≤ m ∧ NbI m w v3 n wx k)
  case atStart =>
    exact ⟨0, rfl, Nat.le_refl _, ⟨⟨by omega, fun t => by simp⟩, World.ownsRow_nil _ _ _ _, Kept.refl _ _⟩⟩
  case round =>
    obtain ⟨k, rfl, hle, hI⟩ := hrel
    by_cases hg0 : gk = 0
    · subst hg0
      have hd := hI.bt.done
      obtain ⟨p, cp, hv⟩ := ownsRow_form hI.own
      subst hv
      have hown := hI.own
      rw [hd] at hown
      have hK := hI.kept
      clear hI
      rw [hd]
      generalize hB : btL m = B at *
      have HB := hide hB
      clear hB
      go_wp2
      go_ret
      exact ⟨⟨.slice p B.length cp, rfl, by rw [HB.out]; exact hown⟩, hK⟩
    · have hgl : gk < 18446744073709551616 := by omega
      obtain ⟨n1, n2, n3⟩ := hI.bt.next hg0 hgl
      have hTr : Tab wr := hT.kept hI.kept (fun x => x)
      have htz := tz64_any gk hg0 hgl wr hTr
      obtain ⟨c, hc⟩ : ∃ c, c = Lib.ctz 64 gk := ⟨_, rfl⟩
      rw [← hc] at n1 n2 n3 htz
      obtain ⟨p, cp, hv⟩ := ownsRow_form hI.own
      obtain ⟨A, hA⟩ : ∃ A, A = (List.range k).filter (fun t => m.testBit t) := ⟨_, rfl⟩
      have hown := hI.own
      rw [← hA] at hown hv n3
      have hAl : A.length ≤ 64 := by
        rw [hA]
        exact Nat.le_trans (List.length_filter_le _ _) (by simp; exact hI.bt.le)
      have hK := hI.kept
      have hsz := hK.size
      have hq : ¬ ((gk : Int) = 0) := by omega
      obtain ⟨g2, hg2⟩ : ∃ g2, g2 = gk &&& (gk - 1) := ⟨_, rfl⟩
      have hand : bits BinOp.and IntKind.u64 (gk : Int) ((gk : Int) - 1) = (g2 : Int) := by
        have := and_u64 (x := gk) (y := gk - 1) (by omega) (by omega)
        rw [hg2, ← this]
        congr 1; omega
      have hwr1 : IntKind.u64.wrap ((gk : Int) - 1) = (gk : Int) - 1 := by
        have := wrap_u64 (x := gk - 1) (by omega)
        rw [show ((gk : Int) - 1) = ((gk - 1 : Nat) : Int) by omega]; exact this
      have hg2l : g2 < gk := by rw [hg2]; have := Nat.and_le_right (n := gk) (m := gk - 1); omega
      rw [← hg2] at n2
      clear hI hc hA hg2
      subst hv
      go_wp2_with fail
      refine htz.mono ?_
      rintro e w1 ⟨rfl, rfl⟩
      go_wp2_with (first | simp only [hand, hwr1] | (at_builtin; refine wpList_append_lies _ rfl _ _ _ rfl w.heap.size 3 i0 _ 1 8 Tryz.underlying29 hi0 hz0 hz1 hz2 rfl (by omega) (.slice p A.length cp) A.length (A.map i64V) (by rfl) (hown.alloc _) ⟨w1.heap.size, 0, none⟩ 1 1 [.int .i64 (c : Int)] (by rfl) rfl (World.news_of_block (cs := #[.int .i64 (c : Int)]) (t := 3) (fr := (0, 0)) (heap_alloc_new w1 _)) (by simp [Value.oneCell']) (by omega) (by simp [maxLen]; omega) (by omega) (by simp; omega) (w1.heap.size + 1) (by simp) ?_; intro gg cap w9 hown9 hgrow hat hlt))
      go_roundg g2
      case measure => omega
      case rel =>
        refine ⟨c + 1, rfl, by omega, ⟨n2, ?_, ?_⟩⟩
        · rw [n3, List.length_append, List.map_append]
          exact hown9
        · exact (hK.alloc _).grown hgrow (fun k hk hlt' => by have := (hown.lt k hk).1; omega)
end Go.Proofs.YtagklnaaoclmhaaGreatDoor
