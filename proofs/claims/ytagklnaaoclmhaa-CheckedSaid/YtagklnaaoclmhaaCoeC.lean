import Derived.Test.YtagklnaaoclmhaaCoeB
set_option linter.unusedSimpArgs false
set_option linter.unusedVariables false
namespace Go.Proofs.Ytagklnaaoclmhaa
open Go.RowKit

def ReSaid (base gb : Nat) (rv : Value) (P : List Nat) (ρ : Nat → Int) (rs : List Rl) (ns : List Nd) (S : Nat → Bool) (f : Nat) : Prop := ∀ (i : Nat) (w : World), i < f → i < ns.length → Gm w base gb rv P ρ rs ns →
  Calls Try.prog 28 #[.pointer (some ⟨P.getD i 0, 0, none⟩), .agg (bl8 S)] w fun e w' => e = .returned (.bool (rE rs ns S f i)) ∧ Kept (fun _ => False) w w'

set_option maxHeartbeats 1600000 in
theorem re46 {base gb : Nat} {rv : Value} {P : List Nat} {ρ : Nat → Int} {rs : List Rl} {ns : List Nd} {S : Nat → Bool} {f : Nat} (IE : IeSaid base gb rv P ρ rs ns S ns.length) (IH : ReSaid base gb rv P ρ rs ns S f) (i ka kb : Nat) (rep : Bool) (w : World) (hf : i < f) (hi : i < ns.length) (hG : Gm w base gb rv P ρ rs ns) (ha : w.heap[ka]? = some (.cells #[.bool rep] 4)) (hk : w.heap[kb]? = some (.cells (bl8 S) 81)) :
    Calls Try.prog 46 #[.pointer (some ⟨P.getD i 0, 0, none⟩), .pointer (some ⟨ka, 0, none⟩), .pointer (some ⟨kb, 0, none⟩)] w fun e w' => e = .returned (.bool (rep && cE rs ns S ns.length i || rE rs ns S f i)) ∧ Kept (fun _ => False) w w' := by
  have hie := IE i w hi hi hG
  have hih := fun (X : World) (hK : Kept (fun _ => False) w X) => IH i X hf hi (hG.same hK)
  obtain ⟨c0, c1, c2, c3, c4, c5, c6, c7⟩ := cells8 hk
  have hca : w.cell? ⟨ka, 0, none⟩ = some (.bool rep) := by simp [World.cell?, ha]
  have hkb := objAt_lt (show objAt w kb = _ from hk)
  have HC := hide (fun (X : World) (hK : Kept (fun _ => False) w X) => cells8 (by rw [hK.block _ hkb (fun x => x)]; exact hk : X.heap[kb]? = some (.cells (bl8 S) 81)))
  unfold bl8 at hie hih
  generalize P.getD i 0 = pi at *
  generalize cE rs ns S ns.length i = ce at *
  generalize rE rs ns S f i = re at *
  clear IH IE hG ha
  cases rep
  · have hih0 := hih w (Kept.refl _ _)
    go_enter Try.func46, Try.ntmps46
    go_wp2_with fail
    refine hih0.mono ?_
    rintro e w1 ⟨rfl, hK⟩
    go_wp2
    go_ret
    exact ⟨by simp, hK⟩
  · go_enter Try.func46, Try.ntmps46
    go_wp2_with fail
    refine hie.mono ?_
    rintro e w1 ⟨rfl, hK⟩
    cases ce
    · obtain ⟨d0, d1, d2, d3, d4, d5, d6, d7⟩ := HC.out w1 hK
      have hih0 := hih w1 hK
      go_wp2_with fail
      refine hih0.mono ?_
      rintro e w2 ⟨rfl, hK2⟩
      go_wp2
      go_ret
      exact ⟨by simp, hK.trans hK2⟩
    · go_wp2
      go_ret
      exact ⟨by simp, hK⟩

set_option maxRecDepth 100000 in
set_option maxHeartbeats 6400000 in
theorem repeats_step {base gb : Nat} {rv : Value} {P : List Nat} {ρ : Nat → Int} {rs : List Rl} {ns : List Nd} {S : Nat → Bool} {f : Nat} (hW : WfR ns rs) (hsl : ∀ i, i < ns.length → (nth ns i).subs.length ≤ 9223372036854775807) (IE : IeSaid base gb rv P ρ rs ns S ns.length) (IH : ReSaid base gb rv P ρ rs ns S f) : ReSaid base gb rv P ρ rs ns S (f + 1) := by
  intro i w hf hi hG
  have hmf : ∀ (fn : Fn) (first cap : Array Value) (w : World), (Instr.makeFunc fn first cap).run Try.prog w = .ok (.func fn first cap) w := fun _ _ _ _ => rfl
  obtain ⟨z, vR, vP, hpt, _, _, _, hPs, _⟩ := hG.ar.part i hi
  have hok := nth_ok hW.wf hi
  have hsl' := hsl i hi
  rw [← nth_get hi] at hpt hPs
  obtain ⟨p0, p1, p4, p6⟩ := part_cells hpt
  rw [rE]
  generalize hNN : nth ns i = N at *
  generalize P.getD i 0 = pi at *
  have hpl := objAt_lt (show objAt w pi = _ from hpt)
  have hne1 : pi ≠ w.heap.size := by omega
  have hne2 : pi ≠ w.heap.size + 1 := by omega
  have hkind := hok.kind
  have hkc7 : (kcode N.kind == 7) = decide (N.kind = 7) := by
    have : ∀ k, k ≤ 10 → (kcode k == 7) = decide (k = 7) := by decide
    exact this _ hkind
  have hkc8 : (kcode N.kind == 8) = decide (N.kind = 8) := by
    have : ∀ k, k ≤ 10 → (kcode k == 8) = decide (k = 8) := by decide
    exact this _ hkind
  have hct : ∀ rep : Bool, Calls Try.prog 45 #[vP, .func (.func 46) #[] #[.pointer (some ⟨w.heap.size + 1, 0, none⟩), .pointer (some ⟨w.heap.size, 0, none⟩)]] ((w.alloc (.cells (bl8 S) 81)).alloc (.cells #[.bool rep] 4)) fun e w' => e = .returned (.bool (N.subs.any (fun j => rep && cE rs ns S ns.length j || rE rs ns S f j))) ∧ Kept (fun _ => False) ((w.alloc (.cells (bl8 S) 81)).alloc (.cells #[.bool rep] 4)) w' := by
    intro rep
    have hKw : Kept (fun _ => False) w ((w.alloc (.cells (bl8 S) 81)).alloc (.cells #[.bool rep] 4)) := ((Kept.refl _ w).alloc _).alloc _
    refine contains46 base vP P N.subs (fun j => rep && cE rs ns S ns.length j || rE rs ns S f j) (w.heap.size + 1) w.heap.size _ (own_kept hPs hKw (fun _ _ h => h)) hsl' (fun q hq wx hKx => ?_)
    have hlt := hok.low _ (getD_mem hq)
    refine re46 IE IH _ _ _ rep wx (by omega) (by omega) (hG.same (hKw.trans hKx)) ?_ ?_
    · rw [hKx.block _ (by simp) (fun h => h)]
      have := heap_alloc_new (w.alloc (.cells (bl8 S) 81)) (.cells #[.bool rep] 4)
      rw [show (w.alloc (.cells (bl8 S) 81)).heap.size = w.heap.size + 1 by simp] at this
      exact this
    · rw [hKx.block _ (by simp; omega) (fun h => h), Below.heap_alloc _ _ _ (by simp)]
      exact heap_alloc_new _ _
  have hKw : ∀ rep : Bool, Kept (fun _ => False) w ((w.alloc (.cells (bl8 S) 81)).alloc (.cells #[.bool rep] 4)) := fun rep => ((Kept.refl _ w).alloc _).alloc _
  obtain ⟨pv, cv, hvP⟩ := ownsRow_form hPs
  subst hvP
  unfold bl8 at *
  clear hPs hG IH IE hpt hNN
  by_cases h7 : N.kind = 7
  · have q7 : (kcode N.kind == 7) = true := by rw [hkc7]; simpa using h7
    rw [show decide (N.kind = 7 ∨ N.kind = 8) = true by simp [h7]]
    have hct1 := hct true
    have hK1 := hKw true
    generalize N.subs.any (fun j => true && cE rs ns S ns.length j || rE rs ns S f j) = gv at *
    generalize kcode N.kind = kc at *
    clear hct hKw hkc7 hkc8 h7
    go_enter Try.func28, Try.ntmps28
    go_wp2_with fail
    refine hct1.mono ?_
    rintro e w7 ⟨rfl, hK7⟩
    go_wp2
    go_ret
    exact ⟨rfl, hK1.trans hK7⟩
  · by_cases h8 : N.kind = 8
    · have q7 : (kcode N.kind == 7) = false := by rw [hkc7]; simpa using h7
      have q8 : (kcode N.kind == 8) = true := by rw [hkc8]; simpa using h8
      rw [show decide (N.kind = 7 ∨ N.kind = 8) = true by simp [h8]]
      have hct1 := hct true
      have hK1 := hKw true
      generalize N.subs.any (fun j => true && cE rs ns S ns.length j || rE rs ns S f j) = gv at *
      generalize kcode N.kind = kc at *
      clear hct hKw hkc7 hkc8 h7 h8
      go_enter Try.func28, Try.ntmps28
      go_wp2_with fail
      refine hct1.mono ?_
      rintro e w7 ⟨rfl, hK7⟩
      go_wp2
      go_ret
      exact ⟨rfl, hK1.trans hK7⟩
    · have q7 : (kcode N.kind == 7) = false := by rw [hkc7]; simpa using h7
      have q8 : (kcode N.kind == 8) = false := by rw [hkc8]; simpa using h8
      rw [show decide (N.kind = 7 ∨ N.kind = 8) = false by simp [h7, h8]]
      have hct1 := hct false
      have hK1 := hKw false
      generalize N.subs.any (fun j => false && cE rs ns S ns.length j || rE rs ns S f j) = gv at *
      generalize kcode N.kind = kc at *
      clear hct hKw hkc7 hkc8 h7 h8
      go_enter Try.func28, Try.ntmps28
      go_wp2_with fail
      refine hct1.mono ?_
      rintro e w7 ⟨rfl, hK7⟩
      go_wp2
      go_ret
      exact ⟨rfl, hK1.trans hK7⟩

/-- repeatsEmpty. -/
theorem repeats_said {base gb : Nat} {rv : Value} {P : List Nat} {ρ : Nat → Int} {rs : List Rl} {ns : List Nd} {S : Nat → Bool} (hW : WfR ns rs) (hsl : ∀ i, i < ns.length → (nth ns i).subs.length ≤ 9223372036854775807) (IE : IeSaid base gb rv P ρ rs ns S ns.length) : ∀ f, ReSaid base gb rv P ρ rs ns S f
  | 0 => fun i w hf => absurd hf (by omega)
  | f + 1 => repeats_step hW hsl IE (repeats_said hW hsl IE f)
end Go.Proofs.Ytagklnaaoclmhaa
