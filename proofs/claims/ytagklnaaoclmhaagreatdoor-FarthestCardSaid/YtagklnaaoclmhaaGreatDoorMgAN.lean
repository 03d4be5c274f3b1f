import Derived.Test.YtagklnaaoclmhaaGreatDoorMgAM
import Derived.Laws.EntriesVeiled
import Derived.ChangeKeysEq
import Derived.Test.YtagklnaaoclmhaaGreatDoorMgAA
import Derived.Deep.MidRow
import Derived.Deep.WholeRow
set_option linter.unusedSimpArgs false
set_option linter.unusedVariables false
namespace Go.Proofs.YtagklnaaoclmhaaGreatDoor
open Go.RowKit

/-- A set of rules, as eight bools. -/
def bl8 (S : Nat → Bool) : Array Value := #[.bool (S 0), .bool (S 1), .bool (S 2), .bool (S 3), .bool (S 4), .bool (S 5), .bool (S 6), .bool (S 7)]

theorem cells8 {w : World} {k t : Nat} {S : Nat → Bool} (h : w.heap[k]? = some (.cells (bl8 S) t)) : w.cell? ⟨k, 0, none⟩ = some (.bool (S 0)) ∧ w.cell? ⟨k, 1, none⟩ = some (.bool (S 1)) ∧ w.cell? ⟨k, 2, none⟩ = some (.bool (S 2)) ∧ w.cell? ⟨k, 3, none⟩ = some (.bool (S 3)) ∧ w.cell? ⟨k, 4, none⟩ = some (.bool (S 4)) ∧ w.cell? ⟨k, 5, none⟩ = some (.bool (S 5)) ∧ w.cell? ⟨k, 6, none⟩ = some (.bool (S 6)) ∧ w.cell? ⟨k, 7, none⟩ = some (.bool (S 7)) := by
  refine ⟨?_, ?_, ?_, ?_, ?_, ?_, ?_, ?_⟩ <;> simp [World.cell?, h, bl8]

def IeSaid (base gb : Nat) (rv : Value) (P : List Nat) (ρ : Nat → Int) (rs : List Rl) (ns : List Nd) (S : Nat → Bool) (f : Nat) : Prop := ∀ (i : Nat) (w : World), i < f → i < ns.length → Gm w base gb rv P ρ rs ns →
  Calls Tryz.prog 145 #[.pointer (some ⟨P.getD i 0, 0, none⟩), .agg (bl8 S)] w fun e w' => e = .returned (.bool (cE rs ns S f i)) ∧ Kept (fun _ => False) w w'

set_option maxRecDepth 100000 in
set_option maxHeartbeats 1600000 in
theorem ie54 {base gb : Nat} {rv : Value} {P : List Nat} {ρ : Nat → Int} {rs : List Rl} {ns : List Nd} {S : Nat → Bool} {f : Nat} (IH : IeSaid base gb rv P ρ rs ns S f) (i kb : Nat) (w : World) (hf : i < f) (hi : i < ns.length) (hG : Gm w base gb rv P ρ rs ns) (hk : w.heap[kb]? = some (.cells (bl8 S) 205)) :
    Calls Tryz.prog 168 #[.pointer (some ⟨P.getD i 0, 0, none⟩), .pointer (some ⟨kb, 0, none⟩)] w fun e w' => e = .returned (.bool (cE rs ns S f i)) ∧ Kept (fun _ => False) w w' := by
  have hih := IH i w hf hi hG
  obtain ⟨c0, c1, c2, c3, c4, c5, c6, c7⟩ := cells8 hk
  unfold bl8 at hih
  generalize P.getD i 0 = pi at *
  generalize cE rs ns S f i = ce at *
  clear IH hG
  go_enter Tryz.func168, Tryz.ntmps168
  go_wp2_with fail
  refine hih.mono ?_
  rintro e w1 ⟨rfl, hK⟩
  go_wp2
  go_ret
  exact ⟨rfl, hK⟩
set_option maxRecDepth 100000 in
set_option maxHeartbeats 1600000 in
theorem ie55 {base gb : Nat} {rv : Value} {P : List Nat} {ρ : Nat → Int} {rs : List Rl} {ns : List Nd} {S : Nat → Bool} {f : Nat} (IH : IeSaid base gb rv P ρ rs ns S f) (i kb k5 : Nat) (w : World) (hf : i < f) (hi : i < ns.length) (hG : Gm w base gb rv P ρ rs ns) (hk : w.heap[kb]? = some (.cells (bl8 S) 205)) (h5 : w.heap[k5]? = some (.cells #[.func (.func 168) #[] #[.pointer (some ⟨kb, 0, none⟩)]] 267)) :
    Calls Tryz.prog 169 #[.pointer (some ⟨P.getD i 0, 0, none⟩), .pointer (some ⟨k5, 0, none⟩)] w fun e w' => e = .returned (.bool (!cE rs ns S f i)) ∧ Kept (fun _ => False) w w' := by
  have hih := ie54 IH i kb w hf hi hG hk
  have hc5 : w.cell? ⟨k5, 0, none⟩ = some (.func (.func 168) #[] #[.pointer (some ⟨kb, 0, none⟩)]) := by simp [World.cell?, h5]
  generalize P.getD i 0 = pi at *
  generalize cE rs ns S f i = ce at *
  clear IH hG hk h5
  go_enter Tryz.func169, Tryz.ntmps169
  go_wp2_with fail
  refine hih.mono ?_
  rintro e w1 ⟨rfl, hK⟩
  go_wp2
  go_ret
  exact ⟨rfl, hK⟩

/-- The cells of a part. -/
theorem part_cells {w : World} {k : Nat} {a r t z : Int} {tx : ByteArray} {vR vP : Value} (h : w.heap[k]? = some (.cells (ptB a r t z tx vR vP) 203)) : w.cell? ⟨k, 0, none⟩ = some (.int .i64 a) ∧ w.cell? ⟨k, 1, none⟩ = some (.int .i64 r) ∧ w.cell? ⟨k, 4, none⟩ = some (.string tx) ∧ w.cell? ⟨k, 6, none⟩ = some vP := by
  refine ⟨?_, ?_, ?_, ?_⟩ <;> simp [World.cell?, h, ptB]

theorem eV_any {N : Nd} {q : Bool} {f : Nat → Bool} (h : N.kind = 4 ∨ N.kind = 8) : eV N q f = N.subs.any f := by
  unfold eV; rw [if_neg (by omega), if_neg (by omega), if_neg (by omega), if_pos h]
theorem eV_all {N : Nd} {q : Bool} {f : Nat → Bool} (h : N.kind = 5) : eV N q f = !N.subs.any (fun j => !f j) := by
  unfold eV; rw [if_neg (by omega), if_neg (by omega), if_neg (by omega), if_neg (by omega), if_pos h]
  rw [List.not_any_eq_all_not]; simp
theorem eV_true {N : Nd} {q : Bool} {f : Nat → Bool} (h : N.kind = 6 ∨ N.kind = 7 ∨ N.kind = 9 ∨ N.kind = 10) : eV N q f = true := by
  unfold eV; rw [if_neg (by omega), if_neg (by omega), if_pos h]
theorem eV_name {N : Nd} {q : Bool} {f : Nat → Bool} (h : N.kind = 3) : eV N q f = q := by
  unfold eV; rw [if_neg (by omega), if_pos h]
theorem eV_lit {N : Nd} {q : Bool} {f : Nat → Bool} (h : N.kind = 0) : eV N q f = N.text.isEmpty := by
  unfold eV; rw [if_pos h]
theorem eV_none {N : Nd} {q : Bool} {f : Nat → Bool} (h : N.kind = 1 ∨ N.kind = 2) : eV N q f = false := by
  unfold eV; rw [if_neg (by omega), if_neg (by omega), if_neg (by omega), if_neg (by omega), if_neg (by omega)]

set_option maxRecDepth 100000 in
set_option maxHeartbeats 6400000 in
theorem isEmpty_step {base gb : Nat} {rv : Value} {P : List Nat} {ρ : Nat → Int} {rs : List Rl} {ns : List Nd} {S : Nat → Bool} {f : Nat} (hW : WfR ns rs) (hN : ∀ N ∈ ns, N.kind = 3 → (fndI rs N.name).isSome = true) (hρ : ∀ i, i < ns.length → (nth ns i).kind = 3 → ρ i = (ruI rs (nth ns i) : Int)) (hn : ns.length ≤ 5000) (hsl : ∀ i, i < ns.length → (nth ns i).subs.length ≤ 9223372036854775807) (IH : IeSaid base gb rv P ρ rs ns S f) : IeSaid base gb rv P ρ rs ns S (f + 1) := by
  intro i w hf hi hG
  have hmf : ∀ (fn : Fn) (first cap : Array Value) (w : World), (Instr.makeFunc fn first cap).run Tryz.prog w = .ok (.func fn first cap) w := fun _ _ _ _ => rfl
  obtain ⟨z, vR, vP, hpt, _, _, _, hPs, _⟩ := hG.ar.part i hi
  have hsub := hG.ar.sub i hi
  have hok := nth_ok hW.wf hi
  have hρi := hρ i hi
  have hru := fun h => ruI_lt hN hi h
  have hsl' := hsl i hi
  rw [← nth_get hi] at hpt hPs hsub
  have hcE : cE rs ns S (f + 1) i = eV (nth ns i) (S (ruI rs (nth ns i))) (cE rs ns S f) := rfl
  obtain ⟨p0, p1, p4, p6⟩ := part_cells hpt
  rw [hcE]
  generalize hNN : nth ns i = N at *
  generalize P.getD i 0 = pi at *
  have hpl := objAt_lt (show objAt w pi = _ from hpt)
  have hne1 : pi ≠ w.heap.size := by omega
  have hne2 : pi ≠ w.heap.size + 1 := by omega
  clear hcE hρ hNN
  have hct : ∀ W, Kept (fun _ => False) ((w.alloc (.cells (bl8 S) 205)).alloc (.cells #[.func (.func 168) #[] #[.pointer (some ⟨w.heap.size, 0, none⟩)]] 267)) W → Calls Tryz.prog 148 #[vP, .func (.func 168) #[] #[.pointer (some ⟨w.heap.size, 0, none⟩)]] W fun e w' => e = .returned (.bool (N.subs.any (cE rs ns S f))) ∧ Kept (fun _ => False) W w' := by
    intro W hK
    have hKw : Kept (fun _ => False) w W := (((Kept.refl _ w).alloc _).alloc _).trans hK
    refine contains54 base vP P N.subs (cE rs ns S f) w.heap.size W (own_kept hPs hKw (fun _ _ h => h)) hsl' (fun q hq wx hKx => ?_)
    have hlt := hok.low _ (getD_mem hq)
    refine ie54 IH _ _ wx (by omega) (by omega) (hG.same (hKw.trans hKx)) ?_
    rw [hKx.block _ (by have := hK.size; simp at this; omega) (fun h => h), hK.block _ (by simp; omega) (fun h => h), Below.heap_alloc _ _ _ (by simp)]
    exact heap_alloc_new _ _
  have hct5 : ∀ W, Kept (fun _ => False) ((w.alloc (.cells (bl8 S) 205)).alloc (.cells #[.func (.func 168) #[] #[.pointer (some ⟨w.heap.size, 0, none⟩)]] 267)) W → Calls Tryz.prog 148 #[vP, .func (.func 169) #[] #[.pointer (some ⟨w.heap.size + 1, 0, none⟩)]] W fun e w' => e = .returned (.bool (N.subs.any (fun j => !cE rs ns S f j))) ∧ Kept (fun _ => False) W w' := by
    intro W hK
    have hKw : Kept (fun _ => False) w W := (((Kept.refl _ w).alloc _).alloc _).trans hK
    refine contains55 base vP P N.subs (fun j => !cE rs ns S f j) (w.heap.size + 1) W (own_kept hPs hKw (fun _ _ h => h)) hsl' (fun q hq wx hKx => ?_)
    have hlt := hok.low _ (getD_mem hq)
    refine ie55 IH _ w.heap.size _ wx (by omega) (by omega) (hG.same (hKw.trans hKx)) ?_ ?_
    · rw [hKx.block _ (by have := hK.size; simp at this; omega) (fun h => h), hK.block _ (by simp; omega) (fun h => h), Below.heap_alloc _ _ _ (by simp)]
      exact heap_alloc_new _ _
    · rw [hKx.block _ (by have := hK.size; simp at this; omega) (fun h => h), hK.block _ (by simp) (fun h => h)]
      have := heap_alloc_new (w.alloc (.cells (bl8 S) 205)) (.cells #[.func (.func 168) #[] #[.pointer (some ⟨w.heap.size, 0, none⟩)]] 267)
      simpa using this
  have hKw : Kept (fun _ => False) w ((w.alloc (.cells (bl8 S) 205)).alloc (.cells #[.func (.func 168) #[] #[.pointer (some ⟨w.heap.size, 0, none⟩)]] 267)) := ((Kept.refl _ w).alloc _).alloc _
  obtain ⟨pv, cv, hvP⟩ := ownsRow_form hPs
  subst hvP
  have hkind := hok.kind
  unfold bl8 at *
  clear hPs hG IH hpt hsub
  rcases (show N.kind = 0 ∨ N.kind = 1 ∨ N.kind = 2 ∨ N.kind = 3 ∨ N.kind = 4 ∨ N.kind = 5 ∨ N.kind = 6 ∨ N.kind = 7 ∨ N.kind = 8 ∨ N.kind = 9 ∨ N.kind = 10 by omega) with h | h | h | h | h | h | h | h | h | h | h
  · rw [h, show kcode 0 = 1 from rfl] at p0
    have HV := hide (eV_lit (q := S (ruI rs N)) (f := cE rs ns S f) h)
    clear hct hct5 hru hρi h
    go_enter Tryz.func145, Tryz.ntmps145
    go_wp2
    go_ret
    refine ⟨?_, hKw⟩
    rw [HV.out]
    show Ending.returned (Value.bool (ba N.text).toList.isEmpty) = _
    rw [ba_toList]
  · rw [h, show kcode 1 = 2 from rfl] at p0
    have HV := hide (eV_none (q := S (ruI rs N)) (f := cE rs ns S f) (.inl h))
    clear hct hct5 hru hρi h
    go_enter Tryz.func145, Tryz.ntmps145
    go_wp2
    go_ret
    exact ⟨by rw [HV.out]; rfl, hKw⟩
  · rw [h, show kcode 2 = 3 from rfl] at p0
    have HV := hide (eV_none (q := S (ruI rs N)) (f := cE rs ns S f) (.inr h))
    clear hct hct5 hru hρi h
    go_enter Tryz.func145, Tryz.ntmps145
    go_wp2
    go_ret
    exact ⟨by rw [HV.out]; rfl, hKw⟩
  · rw [h, show kcode 3 = 0 from rfl] at p0
    have HV := hide (eV_name (q := S (ruI rs N)) (f := cE rs ns S f) h)
    have h8 : ruI rs N < 8 := by have := hru h; have := hW.len; omega
    rw [hρi h] at p1
    clear hct hct5 hru hρi h
    generalize ruI rs N = r at *
    rcases (show r = 0 ∨ r = 1 ∨ r = 2 ∨ r = 3 ∨ r = 4 ∨ r = 5 ∨ r = 6 ∨ r = 7 by omega) with e | e | e | e | e | e | e | e
    all_goals
      subst e
      go_enter Tryz.func145, Tryz.ntmps145
      go_wp2
      go_ret
      exact ⟨by rw [HV.out]; rfl, hKw⟩
  · rw [h, show kcode 4 = 4 from rfl] at p0
    have HV := hide (eV_any (q := S (ruI rs N)) (f := cE rs ns S f) (.inl h))
    generalize N.subs.any (cE rs ns S f) = gv at *
    clear hct5 hru hρi h
    go_enter Tryz.func145, Tryz.ntmps145
    go_wp2_with fail
    go_region_with (first | (go_at_call 148; refine (hct _ (by first | exact Kept.refl _ _ | exact (Kept.refl _ _).drew | exact (Kept.refl _ _).drewN _)).mono ?_; rintro e w7 ⟨rfl, hK7⟩))
    all_goals
      go_wp2
      go_ret
      exact ⟨by rw [HV.out]; rfl, (hKw.drew).trans hK7⟩
  · rw [h, show kcode 5 = 5 from rfl] at p0
    have HV := hide (eV_all (q := S (ruI rs N)) (f := cE rs ns S f) h)
    generalize N.subs.any (fun j => !cE rs ns S f j) = gv at *
    clear hct hru hρi h
    go_enter Tryz.func145, Tryz.ntmps145
    go_wp2_with fail
    refine (hct5 _ (Kept.refl _ _)).mono ?_
    rintro e w7 ⟨rfl, hK7⟩
    go_wp2
    go_ret
    exact ⟨by rw [HV.out]; rfl, hKw.trans hK7⟩
  · rw [h, show kcode 6 = 6 from rfl] at p0
    have HV := hide (eV_true (q := S (ruI rs N)) (f := cE rs ns S f) (by omega : N.kind = 6 ∨ N.kind = 7 ∨ N.kind = 9 ∨ N.kind = 10))
    clear hct hct5 hru hρi h
    go_enter Tryz.func145, Tryz.ntmps145
    go_wp2
    go_ret
    exact ⟨by rw [HV.out]; rfl, hKw⟩
  · rw [h, show kcode 7 = 7 from rfl] at p0
    have HV := hide (eV_true (q := S (ruI rs N)) (f := cE rs ns S f) (by omega : N.kind = 6 ∨ N.kind = 7 ∨ N.kind = 9 ∨ N.kind = 10))
    clear hct hct5 hru hρi h
    go_enter Tryz.func145, Tryz.ntmps145
    go_wp2
    go_ret
    exact ⟨by rw [HV.out]; rfl, hKw⟩
  · rw [h, show kcode 8 = 8 from rfl] at p0
    have HV := hide (eV_any (q := S (ruI rs N)) (f := cE rs ns S f) (.inr h))
    generalize N.subs.any (cE rs ns S f) = gv at *
    clear hct5 hru hρi h
    go_enter Tryz.func145, Tryz.ntmps145
    go_wp2_with fail
    go_region_with (first | (go_at_call 148; refine (hct _ (by first | exact Kept.refl _ _ | exact (Kept.refl _ _).drew | exact (Kept.refl _ _).drewN _)).mono ?_; rintro e w7 ⟨rfl, hK7⟩))
    all_goals
      go_wp2
      go_ret
      exact ⟨by rw [HV.out]; rfl, (hKw.drew).trans hK7⟩
  · rw [h, show kcode 9 = 9 from rfl] at p0
    have HV := hide (eV_true (q := S (ruI rs N)) (f := cE rs ns S f) (by omega : N.kind = 6 ∨ N.kind = 7 ∨ N.kind = 9 ∨ N.kind = 10))
    clear hct hct5 hru hρi h
    go_enter Tryz.func145, Tryz.ntmps145
    go_wp2
    go_ret
    exact ⟨by rw [HV.out]; rfl, hKw⟩
  · rw [h, show kcode 10 = 10 from rfl] at p0
    have HV := hide (eV_true (q := S (ruI rs N)) (f := cE rs ns S f) (by omega : N.kind = 6 ∨ N.kind = 7 ∨ N.kind = 9 ∨ N.kind = 10))
    clear hct hct5 hru hρi h
    go_enter Tryz.func145, Tryz.ntmps145
    go_wp2
    go_ret
    exact ⟨by rw [HV.out]; rfl, hKw⟩

/-- isEmpty. -/
theorem isEmpty_code {base gb : Nat} {rv : Value} {P : List Nat} {ρ : Nat → Int} {rs : List Rl} {ns : List Nd} {S : Nat → Bool} (hW : WfR ns rs) (hN : ∀ N ∈ ns, N.kind = 3 → (fndI rs N.name).isSome = true) (hρ : ∀ i, i < ns.length → (nth ns i).kind = 3 → ρ i = (ruI rs (nth ns i) : Int)) (hn : ns.length ≤ 5000) (hsl : ∀ i, i < ns.length → (nth ns i).subs.length ≤ 9223372036854775807) : ∀ f, IeSaid base gb rv P ρ rs ns S f
  | 0 => fun i w hf => absurd hf (by omega)
  | f + 1 => isEmpty_step hW hN hρ hn hsl (isEmpty_code hW hN hρ hn hsl f)
end Go.Proofs.YtagklnaaoclmhaaGreatDoor

namespace Go.Proofs.YtagklnaaoclmhaaGreatDoor
open Go.RowKit

theorem bl8_get {S : Nat → Bool} {k : Nat} (h : k < 8) : (bl8 S)[k]? = some (.bool (S k)) := by
  rcases (show k = 0 ∨ k = 1 ∨ k = 2 ∨ k = 3 ∨ k = 4 ∨ k = 5 ∨ k = 6 ∨ k = 7 by omega) with e | e | e | e | e | e | e | e <;> subst e <;> rfl
theorem bl8_set {S : Nat → Bool} {k : Nat} (h : k < 8) (v : Bool) : (bl8 S).setIfInBounds k (.bool v) = bl8 (fun j => if j = k then v else S j) := by
  rcases (show k = 0 ∨ k = 1 ∨ k = 2 ∨ k = 3 ∨ k = 4 ∨ k = 5 ∨ k = 6 ∨ k = 7 by omega) with e | e | e | e | e | e | e | e <;> subst e <;> rfl
theorem bl8_congr {S S' : Nat → Bool} (h : ∀ k, k < 8 → S k = S' k) : bl8 S = bl8 S' := by
  unfold bl8
  rw [h 0 (by omega), h 1 (by omega), h 2 (by omega), h 3 (by omega), h 4 (by omega), h 5 (by omega), h 6 (by omega), h 7 (by omega)]
theorem cell8 {w : World} {k t j : Nat} {S : Nat → Bool} (h : w.heap[k]? = some (.cells (bl8 S) t)) (hj : j < 8) : w.cell? ⟨k, j, none⟩ = some (.bool (S j)) := by
  simp only [World.cell?, h]; exact bl8_get hj
theorem frozen8 {w : World} {k t j : Nat} {S : Nat → Bool} (h : w.heap[k]? = some (.cells (bl8 S) t)) : w.frozen? ⟨k, j, none⟩ = false := by
  simp [World.frozen?, h]

def eqB (S' S : Nat → Bool) : Bool := S' 0 == S 0 && (S' 1 == S 1 && (S' 2 == S 2 && (S' 3 == S 3 && (S' 4 == S 4 && (S' 5 == S 5 && (S' 6 == S 6 && (S' 7 == S 7 && true)))))))
theorem plain4 : Tryz.prog.plainKey 4 = true := by kernel_rfl
theorem eqItem (S' S : Nat → Bool) (W : World) (j : Nat) (is : List Nat) (r : Bool) (hj : j < 8) (h : (Op.eqItems 9999 4 1 (bl8 S') (bl8 S) is).run Tryz.prog W = .ok r W) : (Op.eqItems 9999 4 1 (bl8 S') (bl8 S) (j :: is)).run Tryz.prog W = .ok (S' j == S j && r) W := by
  have hp : ∀ (T : Nat → Bool), (part 4 (bl8 T) (j * 1)).run Tryz.prog W = .ok (.bool (T j)) W := fun T => run_part_plain W plain4 (by rw [Nat.mul_one]; exact bl8_get hj)
  have he : ∀ a b, (Op.equalIn 9999 4 (.bool a) (.bool b)).run Tryz.prog W = .ok (a == b) W := fun a b => run_equalIn_bool' (P := Tryz.prog) W 9998 4 a b Tryz.underlying4
  simp only [Op.eqItems, Sem.run_bind, hp S', hp S, Result.andThen_ok, he]
  cases hb : (S' j == S j)
  · simp
  · simp only [Bool.not_true, Bool.false_eq_true, if_false, Bool.true_and]; exact h
theorem eq8 (S' S : Nat → Bool) (W : World) : (Op.equalIn 10000 205 (.agg (bl8 S')) (.agg (bl8 S))).run Tryz.prog W = .ok (eqB S' S) W := by
  obtain ⟨i0, hi, hz0, hz1, hz2⟩ := info_parts info4
  have hco : Tryz.prog.cellsOf 4 = 1 := by simp [Program.cellsOf, hi, hz1]
  rw [show (10000 : Nat) = 9999 + 1 from rfl, run_equalIn_array (e := 4) (n := 8) W 9999 _ _ Tryz.underlying205 hi, hco]
  show (Op.eqItems 9999 4 1 (bl8 S') (bl8 S) [0, 1, 2, 3, 4, 5, 6, 7]).run Tryz.prog W = _
  have h0 : (Op.eqItems 9999 4 1 (bl8 S') (bl8 S) []).run Tryz.prog W = .ok true W := by simp [Op.eqItems]
  exact eqItem S' S W 0 _ _ (by omega) (eqItem S' S W 1 _ _ (by omega) (eqItem S' S W 2 _ _ (by omega) (eqItem S' S W 3 _ _ (by omega) (eqItem S' S W 4 _ _ (by omega) (eqItem S' S W 5 _ _ (by omega) (eqItem S' S W 6 _ _ (by omega) (eqItem S' S W 7 _ _ (by omega) h0)))))))
theorem eqB_true {S' S : Nat → Bool} (h : eqB S' S = true) : ∀ k, k < 8 → S' k = S k := by
  unfold eqB at h
  simp only [Bool.and_eq_true, beq_iff_eq] at h
  obtain ⟨h0, h1, h2, h3, h4, h5, h6, h7, _⟩ := h
  intro k hk
  rcases (show k = 0 ∨ k = 1 ∨ k = 2 ∨ k = 3 ∨ k = 4 ∨ k = 5 ∨ k = 6 ∨ k = 7 by omega) with e | e | e | e | e | e | e | e <;> subst e <;> assumption
theorem eqB_false {S' S : Nat → Bool} (h : eqB S' S = false) : ∃ k, k < 8 ∧ S' k ≠ S k := by
  apply Classical.byContradiction
  intro hn
  have hk : ∀ k, k < 8 → S' k = S k := fun k hk => Classical.byContradiction (fun x => hn ⟨k, hk, x⟩)
  have : eqB S' S = true := by
    unfold eqB
    rw [hk 0 (by omega), hk 1 (by omega), hk 2 (by omega), hk 3 (by omega), hk 4 (by omega), hk 5 (by omega), hk 6 (by omega), hk 7 (by omega)]
    simp
  rw [this] at h; cases h
theorem kept8 (w : World) (k : Nat) (v0 v1 v2 v3 v4 v5 v6 v7 : Value) : Kept (· = k) w ((((((((w.setCell ⟨k, 0, none⟩ v0).setCell ⟨k, 1, none⟩ v1).setCell ⟨k, 2, none⟩ v2).setCell ⟨k, 3, none⟩ v3).setCell ⟨k, 4, none⟩ v4).setCell ⟨k, 5, none⟩ v5).setCell ⟨k, 6, none⟩ v6).setCell ⟨k, 7, none⟩ v7) :=
  ((((((((Kept.refl (· = k) w).setCell (p := ⟨k, 0, none⟩) (fun _ => rfl) _).setCell (p := ⟨k, 1, none⟩) (fun _ => rfl) _).setCell (p := ⟨k, 2, none⟩) (fun _ => rfl) _).setCell (p := ⟨k, 3, none⟩) (fun _ => rfl) _).setCell (p := ⟨k, 4, none⟩) (fun _ => rfl) _).setCell (p := ⟨k, 5, none⟩) (fun _ => rfl) _).setCell (p := ⟨k, 6, none⟩) (fun _ => rfl) _).setCell (p := ⟨k, 7, none⟩) (fun _ => rfl) _

/-- One round of emptyRules. -/
def Fm (rs : List Rl) (ns : List Nd) (S : Nat → Bool) (i : Nat) : Bool := decide (i < rs.length) && cE rs ns S ns.length (isI rs i)
/-- The rules that are known to be empty while emptyRules goes on. -/
structure Grw (rs : List Rl) (ns : List Nd) (S : Nat → Bool) : Prop where
  up : ∀ i, S i = true → Fm rs ns S i = true
  low : ∀ C : Nat → Bool, (∀ i, i < rs.length → C i = cE rs ns C ns.length (isI rs i)) → ∀ i, i < rs.length → S i = true → C i = true
theorem Grw.none (rs : List Rl) (ns : List Nd) : Grw rs ns (fun _ => false) := ⟨fun i h => Bool.noConfusion h, fun C _ i _ h => Bool.noConfusion h⟩
theorem Grw.out {rs : List Rl} {ns : List Nd} {S : Nat → Bool} (h : Grw rs ns S) {i : Nat} (hi : rs.length ≤ i) : S i = false := by
  cases hs : S i with
  | false => rfl
  | true =>
    have := h.up i hs
    unfold Fm at this
    rw [decide_eq_false (by omega)] at this
    cases this
theorem Fm_mono {rs : List Rl} {ns : List Nd} (hW : WfR ns rs) {S S' : Nat → Bool} (h : ∀ i, S i = true → S' i = true) {i : Nat} (hi : Fm rs ns S i = true) : Fm rs ns S' i = true := by
  unfold Fm at hi ⊢
  rw [Bool.and_eq_true] at hi ⊢
  exact ⟨hi.1, cE_mono hW.wf (fun j _ _ x => h _ x) _ _ (isI_lt hW (by simpa using hi.1)) hi.2⟩
theorem Grw.next {rs : List Rl} {ns : List Nd} (hW : WfR ns rs) (hN : ∀ N ∈ ns, N.kind = 3 → (fndI rs N.name).isSome = true) {S : Nat → Bool} (h : Grw rs ns S) : Grw rs ns (Fm rs ns S) := by
  refine ⟨fun i hi => Fm_mono hW h.up hi, fun C hC i hi hs => ?_⟩
  unfold Fm at hs
  rw [Bool.and_eq_true] at hs
  rw [hC i hi]
  exact cE_mono hW.wf (fun j hj h3 x => h.low C hC _ (ruI_lt hN hj h3) x) _ _ (isI_lt hW hi) hs.2
theorem Grw.lst {rs : List Rl} {ns : List Nd} {S : Nat → Bool} (h : Grw rs ns S) (he : ∀ i, i < rs.length → Fm rs ns S i = S i) : Lst rs ns S := by
  refine ⟨fun i hi => ?_, h.low⟩
  have := he i hi
  unfold Fm at this
  rw [decide_eq_true hi, Bool.true_and] at this
  exact this.symm
def cnt8 (S : Nat → Bool) : Nat := (if S 0 then 1 else 0) + (if S 1 then 1 else 0) + (if S 2 then 1 else 0) + (if S 3 then 1 else 0) + (if S 4 then 1 else 0) + (if S 5 then 1 else 0) + (if S 6 then 1 else 0) + (if S 7 then 1 else 0)
theorem cnt8_le (S : Nat → Bool) : cnt8 S ≤ 8 := by
  unfold cnt8
  (repeat' split) <;> omega
theorem cnt8_lt {S S' : Nat → Bool} (h : ∀ i, S i = true → S' i = true) (hk : ∃ k, k < 8 ∧ S' k ≠ S k) : cnt8 S < cnt8 S' := by
  have key : ∀ i, (if S i then 1 else 0) ≤ (if S' i then 1 else (0 : Nat)) := by
    intro i
    by_cases hs : S i = true
    · rw [if_pos hs, if_pos (h i hs)]; exact Nat.le_refl _
    · rw [if_neg hs]; exact Nat.zero_le _
  obtain ⟨k, hk8, hne⟩ := hk
  have hlt : (if S k then 1 else 0) < (if S' k then 1 else (0 : Nat)) := by
    cases hs : S k <;> cases hs' : S' k
    · exact absurd (hs'.trans hs.symm) hne
    · simp
    · have := h k hs; rw [hs'] at this; cases this
    · exact absurd (hs'.trans hs.symm) hne
  have k0 := key 0; have k1 := key 1; have k2 := key 2; have k3 := key 3
  have k4 := key 4; have k5 := key 5; have k6 := key 6; have k7 := key 7
  unfold cnt8
  rcases (show k = 0 ∨ k = 1 ∨ k = 2 ∨ k = 3 ∨ k = 4 ∨ k = 5 ∨ k = 6 ∨ k = 7 by omega) with e | e | e | e | e | e | e | e <;> subst e <;> omega

/-- What emptyRules leaves. -/
structure EmOut (rs : List Rl) (ns : List Nd) (w : World) (e : Ending) (w' : World) : Prop where
  res : ∃ S, e = .returned (.agg (bl8 S)) ∧ Lst rs ns S ∧ ∀ i, rs.length ≤ i → S i = false
  kept : Kept (fun _ => False) w w'

/-- While emptyRules goes on. -/
structure ErI (base gb : Nat) (rv : Value) (P : List Nat) (ρ : Nat → Int) (rs : List Rl) (ns : List Nd) (w : World) (n : Nat) (S : Nat → Bool) (wx : World) : Prop where
  num : cnt8 S + n = 8
  grw : Grw rs ns S
  gm : Gm wx base gb rv P ρ rs ns
  res : wx.heap[w.heap.size]? = some (.cells (bl8 (fun _ => false)) 205)
  now : wx.heap[w.heap.size + 1]? = some (.cells (bl8 S) 205)
  kept : Kept (fun _ => False) w wx
/-- Within a round. -/
structure EsI (base gb : Nat) (rv : Value) (P : List Nat) (ρ : Nat → Int) (rs : List Rl) (ns : List Nd) (w : World) (S : Nat → Bool) (k k4 : Nat) (wx : World) : Prop where
  gm : Gm wx base gb rv P ρ rs ns
  res : wx.heap[w.heap.size]? = some (.cells (bl8 (fun _ => false)) 205)
  now : wx.heap[w.heap.size + 1]? = some (.cells (bl8 (fun j => if j < k then Fm rs ns S j else S j)) 205)
  old : wx.heap[k4]? = some (.cells (bl8 S) 205)
  kept : Kept (fun _ => False) w wx
  lt : w.heap.size + 1 < k4
theorem EsI.same {base gb k k4 : Nat} {rv : Value} {P : List Nat} {ρ : Nat → Int} {rs : List Rl} {ns : List Nd} {w wx w' : World} {S : Nat → Bool} (h : EsI base gb rv P ρ rs ns w S k k4 wx) (hk : Kept (fun _ => False) wx w') : EsI base gb rv P ρ rs ns w S k k4 w' :=
  ⟨h.gm.same hk, by rw [hk.block _ (objAt_lt (show objAt wx _ = _ from h.res)) (fun x => x)]; exact h.res, by rw [hk.block _ (objAt_lt (show objAt wx _ = _ from h.now)) (fun x => x)]; exact h.now, by rw [hk.block _ (objAt_lt (show objAt wx _ = _ from h.old)) (fun x => x)]; exact h.old, h.kept.trans hk, h.lt⟩
theorem Kept.new {w w1 w2 : World} {k : Nat} (h : Kept (fun _ => False) w w1) (hk : Kept (· = k) w1 w2) (hn : w.heap.size ≤ k) : Kept (fun _ => False) w w2 :=
  ⟨hk.os.trans h.os, hk.tape.trans h.tape, hk.output.trans h.output, Nat.le_trans h.size hk.size, fun i hi hs => by
    rw [hk.block i (Nat.lt_of_lt_of_le hi h.size) (by omega)]; exact h.block i hi hs⟩
theorem EsI.step {base gb k k4 : Nat} {rv : Value} {P : List Nat} {ρ : Nat → Int} {rs : List Rl} {ns : List Nd} {w wx : World} {S : Nat → Bool} (h : EsI base gb rv P ρ rs ns w S k k4 wx) (hk : k < 8) : EsI base gb rv P ρ rs ns w S (k + 1) k4 (wx.setCell ⟨w.heap.size + 1, k, none⟩ (.bool (Fm rs ns S k))) := by
  have hK : Kept (· = w.heap.size + 1) wx (wx.setCell ⟨w.heap.size + 1, k, none⟩ (.bool (Fm rs ns S k))) := (Kept.refl (· = w.heap.size + 1) wx).setCell (p := ⟨w.heap.size + 1, k, none⟩) (fun _ => rfl) _
  have hlt := h.lt
  refine ⟨h.gm.kept hK (fun j c t e ho => ?_), ?_, ?_, ?_, h.kept.new hK (by omega), h.lt⟩
  · have e' : j = w.heap.size + 1 := e
    rw [e', show objAt wx _ = _ from h.now] at ho
    simp at ho
    rw [← ho.2]; decide
  · rw [hK.block _ (objAt_lt (show objAt wx _ = _ from h.res)) (by omega)]; exact h.res
  · rw [heap_set_at h.now, bl8_set hk]
    congr 2
    refine bl8_congr (fun j hj => ?_)
    by_cases hjk : j = k
    · rw [if_pos hjk, if_pos (by omega), hjk]
    · rw [if_neg hjk]
      by_cases h2 : j < k
      · rw [if_pos h2, if_pos (by omega)]
      · rw [if_neg h2, if_neg (by omega)]
  · rw [hK.block _ (objAt_lt (show objAt wx _ = _ from h.old)) (by omega)]; exact h.old

set_option maxRecDepth 100000 in
set_option maxHeartbeats 6400000 in
theorem emptyRules_code {base gb : Nat} {rv : Value} {P : List Nat} {ρ : Nat → Int} {rs : List Rl} {ns : List Nd} (hW : WfR ns rs) (hN : ∀ N ∈ ns, N.kind = 3 → (fndI rs N.name).isSome = true) (hρ : ∀ i, i < ns.length → (nth ns i).kind = 3 → ρ i = (ruI rs (nth ns i) : Int)) (hn : ns.length ≤ 5000) (hsl : ∀ i, i < ns.length → (nth ns i).subs.length ≤ 9223372036854775807) (w : World) (hG : Gm w base gb rv P ρ rs ns) :
    Calls Tryz.prog 98 #[.pointer (some ⟨gb, 0, none⟩)] w fun e w' => EmOut rs ns w e w' := by
  have hl8 := hW.len
  have hrform := ownsRow_form hG.own
  obtain ⟨rp, rc, hrv⟩ := hrform
  go_enter Tryz.func98, Tryz.ntmps98
  go_wp2
  go_loopg [] 8 (fun n wx => ∃ S, ErI base gb rv P ρ rs ns w n S wx)
  case atStart =>
    refine ⟨fun _ => false, rfl, Grw.none rs ns, hG.same (((Kept.refl _ w).alloc _).alloc _), ?_, ?_, ((Kept.refl _ w).alloc _).alloc _⟩
    · rw [Below.heap_alloc _ _ _ (by simp)]; exact heap_alloc_new _ _
    · have := heap_alloc_new (w.alloc (.cells (bl8 (fun _ => false)) 205)) (.cells (bl8 (fun _ => false)) 205)
      rw [show (w.alloc (.cells (bl8 (fun _ => false)) 205)).heap.size = w.heap.size + 1 by simp] at this
      exact this
  case round =>
    obtain ⟨S, hI⟩ := hrel
    obtain ⟨m, hm⟩ : ∃ m, m = gk := ⟨gk, rfl⟩
    subst hm
    obtain ⟨w5, hw5⟩ : ∃ w5, w5 = wr := ⟨wr, rfl⟩
    subst hw5
    obtain ⟨c0, c1, c2, c3, c4, c5, c6, c7⟩ := cells8 hI.now
    obtain ⟨z, hz⟩ := hI.gm.gram
    obtain ⟨g0, g1, gf0, gf1⟩ := cells2 hz
    have hgl := cell_lt g0
    have hsz := objAt_lt (show objAt w5 _ = _ from hI.now)
    have hS0 : EsI base gb rv P ρ rs ns w S 0 w5.heap.size (w5.alloc (.cells (bl8 S) 205)) := by
      have hK : Kept (fun _ => False) w5 (w5.alloc (.cells (bl8 S) 205)) := (Kept.refl _ _).alloc _
      refine ⟨hI.gm.same hK, ?_, ?_, heap_alloc_new _ _, hI.kept.trans hK, hsz⟩
      · rw [hK.block _ (objAt_lt (show objAt w5 _ = _ from hI.res)) (fun x => x)]; exact hI.res
      · rw [hK.block _ hsz (fun x => x), hI.now]; rfl
    subst hrv
    have hgne : gb ≠ w5.heap.size := fun e => by subst e; exact Nat.lt_irrefl _ hgl
    unfold bl8 at hS0
    have hIE := fun (i : Nat) (W : World) (hi : i < ns.length) (h : Gm W base gb (.slice rp rs.length rc) P ρ rs ns) => isEmpty_code (S := S) hW hN hρ hn hsl ns.length i W hi hi h
    have hgrw := hI.grw
    have hnum := hI.num
    have hout : ∀ j, rs.length ≤ j → S j = false := fun j hj => hgrw.out hj
    have hIK := hI.kept
    clear hI hz
    go_wp2
    clear c0 c1 c2 c3 c4 c5 c6 c7 g0 g1 gf0 gf1 hgl
    go_loopg [13] rs.length (fun n i wx => ∃ k : Nat, Hid (k + n = rs.length) ∧ i = .int .i64 k ∧ EsI base gb (.slice rp rs.length rc) P ρ rs ns w S k w5.heap.size wx)
    case atStart => exact ⟨0, Nat.zero_add _, rfl, hS0⟩
    case round =>
      obtain ⟨k, hkn, rfl, hE⟩ := hrel
      obtain ⟨m2, hm2⟩ : ∃ m2, m2 = gk := ⟨gk, rfl⟩
      subst hm2
      by_cases hlt : k < rs.length
      · obtain ⟨rb, rcap, hrv, r0, r1, r2⟩ := rl_cells hE.gm.own hlt
        simp only [Value.slice.injEq] at hrv
        obtain ⟨hp, _, hcap⟩ := hrv
        subst hp hcap
        unfold ptrAt at r2
        have hisl : rs[k].is < ns.length := hW.is _ (List.getElem_mem hlt)
        have hisI : isI rs k = rs[k].is := map_getD _ _ _ _ hlt
        have hk8 : k < 8 := by omega
        have hk8' : (k : Int) < 8 := by omega
        have hfm : Fm rs ns S k = cE rs ns S ns.length rs[k].is := by unfold Fm; rw [decide_eq_true hlt, Bool.true_and, hisI]
        have hE6 := fun o => hE.same ((Kept.refl (fun _ => False) wr).alloc o)
        have hcall := hIE rs[k].is (wr.alloc (.cells #[.string (ba rs[k].name), .int .i64 (rs[k].at_ : Int), .pointer (some ⟨P.getD rs[k].is 0, 0, none⟩)] 189)) hisl (hE6 _).gm
        rw [← hfm] at hcall
        have hE7 := hE6 (.cells #[.string (ba rs[k].name), .int .i64 (rs[k].at_ : Int), .pointer (some ⟨P.getD rs[k].is 0, 0, none⟩)] 189)
        obtain ⟨d0, d1, d2, d3, d4, d5, d6, d7⟩ := cells8 hE.old
        have hk4l := objAt_lt (show objAt wr _ = _ from hE.old)
        have hk4n : w5.heap.size ≠ wr.heap.size := by omega
        generalize rs[k].name = rn at *
        generalize rs[k].at_ = ra at *
        obtain ⟨pq, hpq⟩ : ∃ pq, pq = P.getD rs[k].is 0 := ⟨_, rfl⟩
        rw [← hpq] at r2 hcall hE7
        have HST := hide (fun (W : World) (hK : Kept (fun _ => False) (wr.alloc (.cells #[.string (ba rn), .int .i64 (ra : Int), .pointer (some ⟨pq, 0, none⟩)] 189)) W) => (hE7.same hK).step hk8)
        have HNW := hide (fun (W : World) (hK : Kept (fun _ => False) (wr.alloc (.cells #[.string (ba rn), .int .i64 (ra : Int), .pointer (some ⟨pq, 0, none⟩)] 189)) W) => (hE7.same hK).now)
        clear hpq hE6 hE7 hfm hisI hisl hIE hE
        generalize Fm rs ns S k = fv at *
        unfold bl8 at hcall
        go_wp2_with fail
        refine hcall.mono ?_
        rintro e w7 ⟨rfl, hK7⟩
        have hn7 := HNW.out w7 hK7
        have hc7 := cell8 hn7 hk8
        have hf7 := frozen8 (j := k) hn7
        clear hn7
        go_wp2
        go_roundg (m2 - 1)
        case measure => have := hkn.out; omega
        case rel => exact ⟨k + 1, by have := hkn.out; unfold Hid; omega, by go_num, HST.out w7 hK7⟩
      · have hkl : k = rs.length := by have := hkn.out; omega
        have hnow : wr.heap[w.heap.size + 1]? = some (.cells (bl8 (Fm rs ns S)) 205) := by
          rw [hE.now]
          congr 2
          refine bl8_congr (fun j hj => ?_)
          by_cases hjr : j < k
          · rw [if_pos hjr]
          · rw [if_neg hjr, hout j (by omega)]
            unfold Fm
            rw [decide_eq_false (by omega)]; rfl
        have hnext := hgrw.next hW hN
        have hup := hgrw.up
        have hold := hE.old
        have hres := hE.res
        have hgm := hE.gm
        have hKE := hE.kept
        clear hE hIE
        have hlst := fun he => hgrw.lst he
        generalize Fm rs ns S = S' at *
        obtain ⟨d0, d1, d2, d3, d4, d5, d6, d7⟩ := cells8 hold
        obtain ⟨e0, e1, e2, e3, e4, e5, e6, e7⟩ := cells8 hnow
        have heq : ∀ W : World, (Op.equalIn 10000 205 (.agg (bl8 S')) (.agg (bl8 S))).run Tryz.prog W = .ok (eqB S' S) W := eq8 S' S
        have HT := hide (fun h => eqB_true (S' := S') (S := S) h)
        have HF := hide (fun h => eqB_false (S' := S') (S := S) h)
        unfold bl8 at heq
        obtain ⟨f0, f1, f2, f3, f4, f5, f6, f7⟩ := cells8 hres
        have ff0 := frozen8 (j := 0) hres
        have ff1 := frozen8 (j := 1) hres
        have ff2 := frozen8 (j := 2) hres
        have ff3 := frozen8 (j := 3) hres
        have ff4 := frozen8 (j := 4) hres
        have ff5 := frozen8 (j := 5) hres
        have ff6 := frozen8 (j := 6) hres
        have ff7 := frozen8 (j := 7) hres
        clear hS0
        generalize eqB S' S = eb at *
        cases eb
        · have HQ := hide (HF.out rfl)
          clear HT HF
          go_wp2
          go_roundg (8 - cnt8 S')
          case measure =>
            have := cnt8_lt (S := S) (S' := S') (fun i h => hup i h) HQ.out
            have := cnt8_le S'
            omega
          case rel =>
            have := cnt8_le S'
            exact ⟨S', by omega, hnext, hgm, hres, hnow, hKE⟩
        · have HQ := hide (HT.out rfl)
          clear HT HF
          go_wp2
          refine bodyPost_ret (v := .agg #[.bool (S' 0), .bool (S' 1), .bool (S' 2), .bool (S' 3), .bool (S' 4), .bool (S' 5), .bool (S' 6), .bool (S' 7)]) (by simp [results, Tryz.results98, go_sem, f0, f1, f2, f3, f4, f5, f6, f7]) rfl ⟨⟨S, ?_, hlst (fun i hi => HQ.out i (by omega)), hout⟩, ?_⟩
          · show Ending.returned (.agg (bl8 S')) = _
            rw [bl8_congr HQ.out]
          · exact hKE.new (kept8 _ _ _ _ _ _ _ _ _ _) (Nat.le_refl _)
end Go.Proofs.YtagklnaaoclmhaaGreatDoor

namespace Go.Proofs.YtagklnaaoclmhaaGreatDoor
open Go.RowKit

/-- Eight sets of rules, all empty. -/
def z83 : Array Value := (List.replicate 64 (Value.bool false)).toArray

theorem info83 : (Tryz.prog.info? 207).map (fun i => (i.zero, i.size, i.bytes)) = some (some (.agg z83), 64, 64) := by kernel_rfl
theorem size83 : (Tryz.prog.info? 207).map (·.size) = some 64 := by kernel_rfl
theorem z83_size : z83.size = 64 := by kernel_rfl

theorem info83_parts : ∃ i, Tryz.prog.info? 207 = some i ∧ i.zero = some (.agg z83) ∧ i.size = 64 ∧ i.bytes = 64 := by
  have h := info83
  cases hi : Tryz.prog.info? 207 with
  | none => rw [hi] at h; cases h
  | some i =>
    rw [hi] at h
    simp only [Option.map_some, Option.some.injEq, Prod.mk.injEq] at h
    exact ⟨i, rfl, h.1, h.2.1, h.2.2⟩

section
variable (ρ : Operand → Value) (d : Option Nat) (x y z : Operand) (ty : TypeId) (pos : String) (af : Array Edge) (gd : Option (Nat × Bool)) (W : World)

/-- A load of eight sets. -/
def load83Of (P : Program) (o : Option Obj) (k i : Nat) (W : World) : Result Next :=
  match o with
  | some (.cells c _ _) => if i + 64 ≤ c.size then .ok (.value (.agg (c.extract i (i + 64)))) W else (do pure (.value (← Instr.loadAt 207 (.pointer (some ⟨k, i, none⟩)))) : Sem Next).run P W
  | _ => (do pure (.value (← Instr.loadAt 207 (.pointer (some ⟨k, i, none⟩)))) : Sem Next).run P W
def load83At (P : Program) (v : Value) (W : World) : Result Next :=
  match v with
  | .pointer (some ⟨k, i, none⟩) => load83Of P (objAt W k) k i W
  | v => (do pure (.value (← Instr.loadAt 207 v)) : Sem Next).run P W

theorem load83Of_some (c : Array Value) (e : TypeId) (fr : Nat × Nat) (k i : Nat) (h : i + 64 ≤ c.size) : load83Of Tryz.prog (some (.cells c e fr)) k i W = .ok (.value (.agg (c.extract i (i + 64)))) W := by
  simp only [load83Of, h, if_true]
theorem load83At_ptr (k i : Nat) : load83At Tryz.prog (.pointer (some ⟨k, i, none⟩)) W = load83Of Tryz.prog (objAt W k) k i W := rfl

theorem exec_load83 : (execOp ρ { dst := d, op := .load 207 x, type := ty, pos := pos, after := af, guard := gd }).run Tryz.prog W = load83At Tryz.prog (ρ x) W := by
  have e : (execOp ρ { dst := d, op := .load 207 x, type := ty, pos := pos, after := af, guard := gd }).run Tryz.prog W = (do pure (.value (← Instr.loadAt 207 (ρ x))) : Sem Next).run Tryz.prog W := rfl
  rw [e]
  unfold load83At
  split
  · next k i hv =>
    rw [hv]
    unfold load83Of
    split
    · next c t fr hc =>
      by_cases hsz : i + 64 ≤ c.size
      · rw [if_pos hsz]
        have hr := World.rangeAt_of_block (show W.heap[k]? = _ from hc) i 64
        have hlen : (c.extract i (i + 64)).toList.length = 64 := by simp; omega
        have := run_loadAt_mid (P := Tryz.prog) W k i 207 _ _ hr Tryz.underlying207 rfl (by rw [hlen]; exact size83)
        simp only [Sem.run_bind, this, Result.andThen_ok, Sem.run_pure]
      · rw [if_neg hsz]
    · rfl
  · rfl

theorem exec_alloc83 : (execOp ρ { dst := d, op := .alloc 207, type := ty, pos := pos, after := af, guard := gd }).run Tryz.prog W = .ok (.value (.pointer (some ⟨W.heap.size, 0, none⟩))) (W.alloc (.cells z83 207)) := by
  obtain ⟨i, h1, h2, h3, h4⟩ := info83_parts
  simp [execOp, Instr.alloc, zeroValue, typeInfo, h1, h2, newVar, newRow, newObj, Value.cells, Sem.run_bind]
  rfl

/-- A store of eight sets over the whole of a block. -/
def store83Of (P : Program) (o : Option Obj) (k : Nat) (c' : Array Value) (W : World) : Result Next :=
  match o with
  | some (.cells c 207 (0, 0)) => if c.size = 64 ∧ c'.size = 64 ∧ ones c' = true then .ok .skip (W.setRow k c') else (do Instr.storeAt 207 (.pointer (some ⟨k, 0, none⟩)) (.agg c'); pure .skip : Sem Next).run P W
  | _ => (do Instr.storeAt 207 (.pointer (some ⟨k, 0, none⟩)) (.agg c'); pure .skip : Sem Next).run P W
def store83At (P : Program) (p v : Value) (W : World) : Result Next :=
  match p, v with
  | .pointer (some ⟨k, 0, none⟩), .agg c' => store83Of P (objAt W k) k c' W
  | p, v => (do Instr.storeAt 207 p v; pure .skip : Sem Next).run P W
theorem store83Of_some (c c' : Array Value) (k : Nat) (h : c.size = 64) (h' : c'.size = 64) (h1 : ones c' = true) : store83Of Tryz.prog (some (.cells c 207 (0, 0))) k c' W = .ok .skip (W.setRow k c') := by
  exact if_pos ⟨h, h', h1⟩
theorem store83At_ptr (k : Nat) (c' : Array Value) : store83At Tryz.prog (.pointer (some ⟨k, 0, none⟩)) (.agg c') W = store83Of Tryz.prog (objAt W k) k c' W := rfl

theorem exec_store83 : (execOp ρ { dst := d, op := .store 207 x y, type := ty, pos := pos, after := af, guard := gd }).run Tryz.prog W = store83At Tryz.prog (ρ x) (ρ y) W := by
  have e : (execOp ρ { dst := d, op := .store 207 x y, type := ty, pos := pos, after := af, guard := gd }).run Tryz.prog W = (do Instr.storeAt 207 (ρ x) (ρ y); pure .skip : Sem Next).run Tryz.prog W := rfl
  rw [e]
  unfold store83At
  split
  · next k c' hx hy =>
    rw [hx, hy]
    unfold store83Of
    split
    · next c hc =>
      split
      · next h =>
        have := run_storeVar_row (P := Tryz.prog) W k 207 207 c c' hc (by rw [h.2.1]; exact size83) (by omega) h.2.2
        simp [Sem.run_bind, Instr.storeAt, Instr.sureAddr, this]
      · rfl
    · rfl
  · rfl

end

end Go.Proofs.YtagklnaaoclmhaaGreatDoor
