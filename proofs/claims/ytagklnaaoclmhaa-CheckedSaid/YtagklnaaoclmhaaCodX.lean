import Derived.Test.YtagklnaaoclmhaaCodW
import Derived.Laws.EntriesVeiled
set_option linter.unusedSimpArgs false
set_option linter.unusedVariables false
namespace Go.Proofs.Ytagklnaaoclmhaa
open Go.RowKit

/-- A set of rules, as eight bools. -/
def bl8 (S : Nat → Bool) : Array Value := #[.bool (S 0), .bool (S 1), .bool (S 2), .bool (S 3), .bool (S 4), .bool (S 5), .bool (S 6), .bool (S 7)]

theorem cells8 {w : World} {k t : Nat} {S : Nat → Bool} (h : w.heap[k]? = some (.cells (bl8 S) t)) : w.cell? ⟨k, 0, none⟩ = some (.bool (S 0)) ∧ w.cell? ⟨k, 1, none⟩ = some (.bool (S 1)) ∧ w.cell? ⟨k, 2, none⟩ = some (.bool (S 2)) ∧ w.cell? ⟨k, 3, none⟩ = some (.bool (S 3)) ∧ w.cell? ⟨k, 4, none⟩ = some (.bool (S 4)) ∧ w.cell? ⟨k, 5, none⟩ = some (.bool (S 5)) ∧ w.cell? ⟨k, 6, none⟩ = some (.bool (S 6)) ∧ w.cell? ⟨k, 7, none⟩ = some (.bool (S 7)) := by
  refine ⟨?_, ?_, ?_, ?_, ?_, ?_, ?_, ?_⟩ <;> simp [World.cell?, h, bl8]

def IeSaid (base gb : Nat) (rv : Value) (P : List Nat) (ρ : Nat → Int) (rs : List Rl) (ns : List Nd) (S : Nat → Bool) (f : Nat) : Prop := ∀ (i : Nat) (w : World), i < f → i < ns.length → Gm w base gb rv P ρ rs ns →
  Calls Try.prog 42 #[.pointer (some ⟨P.getD i 0, 0, none⟩), .agg (bl8 S)] w fun e w' => e = .returned (.bool (cE rs ns S f i)) ∧ Kept (fun _ => False) w w'

set_option maxHeartbeats 1600000 in
theorem ie54 {base gb : Nat} {rv : Value} {P : List Nat} {ρ : Nat → Int} {rs : List Rl} {ns : List Nd} {S : Nat → Bool} {f : Nat} (IH : IeSaid base gb rv P ρ rs ns S f) (i kb : Nat) (w : World) (hf : i < f) (hi : i < ns.length) (hG : Gm w base gb rv P ρ rs ns) (hk : w.heap[kb]? = some (.cells (bl8 S) 81)) :
    Calls Try.prog 54 #[.pointer (some ⟨P.getD i 0, 0, none⟩), .pointer (some ⟨kb, 0, none⟩)] w fun e w' => e = .returned (.bool (cE rs ns S f i)) ∧ Kept (fun _ => False) w w' := by
  have hih := IH i w hf hi hG
  obtain ⟨c0, c1, c2, c3, c4, c5, c6, c7⟩ := cells8 hk
  unfold bl8 at hih
  generalize P.getD i 0 = pi at *
  generalize cE rs ns S f i = ce at *
  clear IH hG
  go_enter Try.func54, Try.ntmps54
  go_wp2_with fail
  refine hih.mono ?_
  rintro e w1 ⟨rfl, hK⟩
  go_wp2
  go_ret
  exact ⟨rfl, hK⟩
set_option maxHeartbeats 1600000 in
theorem ie55 {base gb : Nat} {rv : Value} {P : List Nat} {ρ : Nat → Int} {rs : List Rl} {ns : List Nd} {S : Nat → Bool} {f : Nat} (IH : IeSaid base gb rv P ρ rs ns S f) (i kb k5 : Nat) (w : World) (hf : i < f) (hi : i < ns.length) (hG : Gm w base gb rv P ρ rs ns) (hk : w.heap[kb]? = some (.cells (bl8 S) 81)) (h5 : w.heap[k5]? = some (.cells #[.func (.func 54) #[] #[.pointer (some ⟨kb, 0, none⟩)]] 101)) :
    Calls Try.prog 55 #[.pointer (some ⟨P.getD i 0, 0, none⟩), .pointer (some ⟨k5, 0, none⟩)] w fun e w' => e = .returned (.bool (!cE rs ns S f i)) ∧ Kept (fun _ => False) w w' := by
  have hih := ie54 IH i kb w hf hi hG hk
  have hc5 : w.cell? ⟨k5, 0, none⟩ = some (.func (.func 54) #[] #[.pointer (some ⟨kb, 0, none⟩)]) := by simp [World.cell?, h5]
  generalize P.getD i 0 = pi at *
  generalize cE rs ns S f i = ce at *
  clear IH hG hk h5
  go_enter Try.func55, Try.ntmps55
  go_wp2_with fail
  refine hih.mono ?_
  rintro e w1 ⟨rfl, hK⟩
  go_wp2
  go_ret
  exact ⟨rfl, hK⟩

/-- The cells of a part. -/
theorem part_cells {w : World} {k : Nat} {a r t z : Int} {tx : ByteArray} {vR vP : Value} (h : w.heap[k]? = some (.cells (ptB a r t z tx vR vP) 79)) : w.cell? ⟨k, 0, none⟩ = some (.int .i64 a) ∧ w.cell? ⟨k, 1, none⟩ = some (.int .i64 r) ∧ w.cell? ⟨k, 4, none⟩ = some (.string tx) ∧ w.cell? ⟨k, 6, none⟩ = some vP := by
  refine ⟨?_, ?_, ?_, ?_⟩ <;> simp [World.cell?, h, ptB]

theorem eV_any {N : Nd} {q : Bool} {f : Nat → Bool} (h : N.kind = 4 ∨ N.kind = 8) : eV N q f = N.subs.any f := by
  unfold eV; rw [if_neg (by omega), if_neg (by omega), if_neg (by omega), if_pos h]
theorem eV_all {N : Nd} {q : Bool} {f : Nat → Bool} (h : N.kind = 5) : eV N q f = !N.subs.any (fun j => !f j) := by
  unfold eV; rw [if_neg (by omega), if_neg (by omega), if_neg (by omega), if_neg (by omega), if_pos h]
  rw [List.not_any_eq_all_not]; simp
theorem eV_true {N : Nd} {q : Bool} {f : Nat → Bool} (h : N.kind = 6 ∨ N.kind = 7 ∨ N.kind = 9 ∨ N.kind = 10) : eV N q f = true := by
  unfold eV; rw [if_neg (by omega), if_neg (by omega), if_pos h]
theorem eV_name {N : Nd} {q : Bool} {f : Nat → Bool} (h : N.kind = 3) : eV N q f = q := by
  unfold eV; rw [if_neg (by omega), if_pos h]
theorem eV_lit {N : Nd} {q : Bool} {f : Nat → Bool} (h : N.kind = 0) : eV N q f = N.text.isEmpty := by
  unfold eV; rw [if_pos h]
theorem eV_none {N : Nd} {q : Bool} {f : Nat → Bool} (h : N.kind = 1 ∨ N.kind = 2) : eV N q f = false := by
  unfold eV; rw [if_neg (by omega), if_neg (by omega), if_neg (by omega), if_neg (by omega), if_neg (by omega)]

set_option maxRecDepth 100000 in
set_option maxHeartbeats 6400000 in
theorem isEmpty_step {base gb : Nat} {rv : Value} {P : List Nat} {ρ : Nat → Int} {rs : List Rl} {ns : List Nd} {S : Nat → Bool} {f : Nat} (hW : WfR ns rs) (hN : ∀ N ∈ ns, N.kind = 3 → (fndI rs N.name).isSome = true) (hρ : ∀ i, i < ns.length → (nth ns i).kind = 3 → ρ i = (ruI rs (nth ns i) : Int)) (hn : ns.length ≤ 5000) (hsl : ∀ i, i < ns.length → (nth ns i).subs.length ≤ 9223372036854775807) (IH : IeSaid base gb rv P ρ rs ns S f) : IeSaid base gb rv P ρ rs ns S (f + 1) := by
  intro i w hf hi hG
  have hmf : ∀ (fn : Fn) (first cap : Array Value) (w : World), (Instr.makeFunc fn first cap).run Try.prog w = .ok (.func fn first cap) w := fun _ _ _ _ => rfl
  obtain ⟨z, vR, vP, hpt, _, _, _, hPs, _⟩ := hG.ar.part i hi
  have hsub := hG.ar.sub i hi
  have hok := nth_ok hW.wf hi
  have hρi := hρ i hi
  have hru := fun h => ruI_lt hN hi h
  have hsl' := hsl i hi
  rw [← nth_get hi] at hpt hPs hsub
  have hcE : cE rs ns S (f + 1) i = eV (nth ns i) (S (ruI rs (nth ns i))) (cE rs ns S f) := rfl
  obtain ⟨p0, p1, p4, p6⟩ := part_cells hpt
  rw [hcE]
  generalize hNN : nth ns i = N at *
  generalize P.getD i 0 = pi at *
  have hpl := objAt_lt (show objAt w pi = _ from hpt)
  have hne1 : pi ≠ w.heap.size := by omega
  have hne2 : pi ≠ w.heap.size + 1 := by omega
  clear hcE hρ hNN
  have hct : ∀ W, Kept (fun _ => False) ((w.alloc (.cells (bl8 S) 81)).alloc (.cells #[.func (.func 54) #[] #[.pointer (some ⟨w.heap.size, 0, none⟩)]] 101)) W → Calls Try.prog 45 #[vP, .func (.func 54) #[] #[.pointer (some ⟨w.heap.size, 0, none⟩)]] W fun e w' => e = .returned (.bool (N.subs.any (cE rs ns S f))) ∧ Kept (fun _ => False) W w' := by
    intro W hK
    have hKw : Kept (fun _ => False) w W := (((Kept.refl _ w).alloc _).alloc _).trans hK
    refine contains54 base vP P N.subs (cE rs ns S f) w.heap.size W (own_kept hPs hKw (fun _ _ h => h)) hsl' (fun q hq wx hKx => ?_)
    have hlt := hok.low _ (getD_mem hq)
    refine ie54 IH _ _ wx (by omega) (by omega) (hG.same (hKw.trans hKx)) ?_
    rw [hKx.block _ (by have := hK.size; simp at this; omega) (fun h => h), hK.block _ (by simp; omega) (fun h => h), Below.heap_alloc _ _ _ (by simp)]
    exact heap_alloc_new _ _
  have hct5 : ∀ W, Kept (fun _ => False) ((w.alloc (.cells (bl8 S) 81)).alloc (.cells #[.func (.func 54) #[] #[.pointer (some ⟨w.heap.size, 0, none⟩)]] 101)) W → Calls Try.prog 45 #[vP, .func (.func 55) #[] #[.pointer (some ⟨w.heap.size + 1, 0, none⟩)]] W fun e w' => e = .returned (.bool (N.subs.any (fun j => !cE rs ns S f j))) ∧ Kept (fun _ => False) W w' := by
    intro W hK
    have hKw : Kept (fun _ => False) w W := (((Kept.refl _ w).alloc _).alloc _).trans hK
    refine contains55 base vP P N.subs (fun j => !cE rs ns S f j) (w.heap.size + 1) W (own_kept hPs hKw (fun _ _ h => h)) hsl' (fun q hq wx hKx => ?_)
    have hlt := hok.low _ (getD_mem hq)
    refine ie55 IH _ w.heap.size _ wx (by omega) (by omega) (hG.same (hKw.trans hKx)) ?_ ?_
    · rw [hKx.block _ (by have := hK.size; simp at this; omega) (fun h => h), hK.block _ (by simp; omega) (fun h => h), Below.heap_alloc _ _ _ (by simp)]
      exact heap_alloc_new _ _
    · rw [hKx.block _ (by have := hK.size; simp at this; omega) (fun h => h), hK.block _ (by simp) (fun h => h)]
      have := heap_alloc_new (w.alloc (.cells (bl8 S) 81)) (.cells #[.func (.func 54) #[] #[.pointer (some ⟨w.heap.size, 0, none⟩)]] 101)
      simpa using this
  have hKw : Kept (fun _ => False) w ((w.alloc (.cells (bl8 S) 81)).alloc (.cells #[.func (.func 54) #[] #[.pointer (some ⟨w.heap.size, 0, none⟩)]] 101)) := ((Kept.refl _ w).alloc _).alloc _
  obtain ⟨pv, cv, hvP⟩ := ownsRow_form hPs
  subst hvP
  have hkind := hok.kind
  unfold bl8 at *
  clear hPs hG IH hpt hsub
  rcases (show N.kind = 0 ∨ N.kind = 1 ∨ N.kind = 2 ∨ N.kind = 3 ∨ N.kind = 4 ∨ N.kind = 5 ∨ N.kind = 6 ∨ N.kind = 7 ∨ N.kind = 8 ∨ N.kind = 9 ∨ N.kind = 10 by omega) with h | h | h | h | h | h | h | h | h | h | h
  · rw [h, show kcode 0 = 1 from rfl] at p0
    have HV := hide (eV_lit (q := S (ruI rs N)) (f := cE rs ns S f) h)
    clear hct hct5 hru hρi h
    go_enter Try.func42, Try.ntmps42
    go_wp2
    go_ret
    refine ⟨?_, hKw⟩
    rw [HV.out]
    show Ending.returned (Value.bool (ba N.text).toList.isEmpty) = _
    rw [ba_toList]
  · rw [h, show kcode 1 = 2 from rfl] at p0
    have HV := hide (eV_none (q := S (ruI rs N)) (f := cE rs ns S f) (.inl h))
    clear hct hct5 hru hρi h
    go_enter Try.func42, Try.ntmps42
    go_wp2
    go_ret
    exact ⟨by rw [HV.out]; rfl, hKw⟩
  · rw [h, show kcode 2 = 3 from rfl] at p0
    have HV := hide (eV_none (q := S (ruI rs N)) (f := cE rs ns S f) (.inr h))
    clear hct hct5 hru hρi h
    go_enter Try.func42, Try.ntmps42
    go_wp2
    go_ret
    exact ⟨by rw [HV.out]; rfl, hKw⟩
  · rw [h, show kcode 3 = 0 from rfl] at p0
    have HV := hide (eV_name (q := S (ruI rs N)) (f := cE rs ns S f) h)
    have h8 : ruI rs N < 8 := by have := hru h; have := hW.len; omega
    rw [hρi h] at p1
    clear hct hct5 hru hρi h
    generalize ruI rs N = r at *
    rcases (show r = 0 ∨ r = 1 ∨ r = 2 ∨ r = 3 ∨ r = 4 ∨ r = 5 ∨ r = 6 ∨ r = 7 by omega) with e | e | e | e | e | e | e | e
    all_goals
      subst e
      go_enter Try.func42, Try.ntmps42
      go_wp2
      go_ret
      exact ⟨by rw [HV.out]; rfl, hKw⟩
  · rw [h, show kcode 4 = 4 from rfl] at p0
    have HV := hide (eV_any (q := S (ruI rs N)) (f := cE rs ns S f) (.inl h))
    generalize N.subs.any (cE rs ns S f) = gv at *
    clear hct5 hru hρi h
    go_enter Try.func42, Try.ntmps42
    go_wp2_with fail
    go_region_with (first | (go_at_call 45; refine (hct _ (by first | exact Kept.refl _ _ | exact (Kept.refl _ _).drew | exact (Kept.refl _ _).drewN _)).mono ?_; rintro e w7 ⟨rfl, hK7⟩))
    all_goals
      go_wp2
      go_ret
      exact ⟨by rw [HV.out]; rfl, (hKw.drew).trans hK7⟩
  · rw [h, show kcode 5 = 5 from rfl] at p0
    have HV := hide (eV_all (q := S (ruI rs N)) (f := cE rs ns S f) h)
    generalize N.subs.any (fun j => !cE rs ns S f j) = gv at *
    clear hct hru hρi h
    go_enter Try.func42, Try.ntmps42
    go_wp2_with fail
    refine (hct5 _ (Kept.refl _ _)).mono ?_
    rintro e w7 ⟨rfl, hK7⟩
    go_wp2
    go_ret
    exact ⟨by rw [HV.out]; rfl, hKw.trans hK7⟩
  · rw [h, show kcode 6 = 6 from rfl] at p0
    have HV := hide (eV_true (q := S (ruI rs N)) (f := cE rs ns S f) (by omega : N.kind = 6 ∨ N.kind = 7 ∨ N.kind = 9 ∨ N.kind = 10))
    clear hct hct5 hru hρi h
    go_enter Try.func42, Try.ntmps42
    go_wp2
    go_ret
    exact ⟨by rw [HV.out]; rfl, hKw⟩
  · rw [h, show kcode 7 = 7 from rfl] at p0
    have HV := hide (eV_true (q := S (ruI rs N)) (f := cE rs ns S f) (by omega : N.kind = 6 ∨ N.kind = 7 ∨ N.kind = 9 ∨ N.kind = 10))
    clear hct hct5 hru hρi h
    go_enter Try.func42, Try.ntmps42
    go_wp2
    go_ret
    exact ⟨by rw [HV.out]; rfl, hKw⟩
  · rw [h, show kcode 8 = 8 from rfl] at p0
    have HV := hide (eV_any (q := S (ruI rs N)) (f := cE rs ns S f) (.inr h))
    generalize N.subs.any (cE rs ns S f) = gv at *
    clear hct5 hru hρi h
    go_enter Try.func42, Try.ntmps42
    go_wp2_with fail
    go_region_with (first | (go_at_call 45; refine (hct _ (by first | exact Kept.refl _ _ | exact (Kept.refl _ _).drew | exact (Kept.refl _ _).drewN _)).mono ?_; rintro e w7 ⟨rfl, hK7⟩))
    all_goals
      go_wp2
      go_ret
      exact ⟨by rw [HV.out]; rfl, (hKw.drew).trans hK7⟩
  · rw [h, show kcode 9 = 9 from rfl] at p0
    have HV := hide (eV_true (q := S (ruI rs N)) (f := cE rs ns S f) (by omega : N.kind = 6 ∨ N.kind = 7 ∨ N.kind = 9 ∨ N.kind = 10))
    clear hct hct5 hru hρi h
    go_enter Try.func42, Try.ntmps42
    go_wp2
    go_ret
    exact ⟨by rw [HV.out]; rfl, hKw⟩
  · rw [h, show kcode 10 = 10 from rfl] at p0
    have HV := hide (eV_true (q := S (ruI rs N)) (f := cE rs ns S f) (by omega : N.kind = 6 ∨ N.kind = 7 ∨ N.kind = 9 ∨ N.kind = 10))
    clear hct hct5 hru hρi h
    go_enter Try.func42, Try.ntmps42
    go_wp2
    go_ret
    exact ⟨by rw [HV.out]; rfl, hKw⟩

/-- isEmpty. -/
theorem isEmpty_code {base gb : Nat} {rv : Value} {P : List Nat} {ρ : Nat → Int} {rs : List Rl} {ns : List Nd} {S : Nat → Bool} (hW : WfR ns rs) (hN : ∀ N ∈ ns, N.kind = 3 → (fndI rs N.name).isSome = true) (hρ : ∀ i, i < ns.length → (nth ns i).kind = 3 → ρ i = (ruI rs (nth ns i) : Int)) (hn : ns.length ≤ 5000) (hsl : ∀ i, i < ns.length → (nth ns i).subs.length ≤ 9223372036854775807) : ∀ f, IeSaid base gb rv P ρ rs ns S f
  | 0 => fun i w hf => absurd hf (by omega)
  | f + 1 => isEmpty_step hW hN hρ hn hsl (isEmpty_code hW hN hρ hn hsl f)
end Go.Proofs.Ytagklnaaoclmhaa
