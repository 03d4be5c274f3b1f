import Derived.Test.YtagklnaaoclmhaaCodD
set_option linter.unusedSimpArgs false
set_option linter.unusedVariables false
namespace Go.Proofs.Ytagklnaaoclmhaa
open Go.RowKit

/-- The cells of a part. -/
def ptB (k r t z : Int) (tx : ByteArray) (vR vP : Value) : Array Value := #[.int .i64 k, .int .i64 r, .int .i64 t, .int .i64 z, .string tx, vR, vP]
def ptC (k r t : Int) (tx : ByteArray) (vR vP : Value) : Array Value := ptB k r t 0 tx vR vP

set_option maxHeartbeats 400000 in
theorem partOf_any (k : Int) (p : Option Addr) (n c : Nat) (w : World) :
    Calls Try.prog 52 #[.int .i64 k, .slice p n c] w fun e w' => e = .returned (.pointer (some ⟨w.heap.size, 0, none⟩)) ∧ w' = w.alloc (.cells (ptC k 0 0 ⟨#[]⟩ (.slice none 0 0) (.slice p n c)) 79) := by
  go_enter Try.func52, Try.ntmps52
  go_wp2
  go_ret
  exact ⟨rfl, rfl⟩
set_option maxHeartbeats 400000 in
theorem classOf_any (t : Int) (p : Option Addr) (n c : Nat) (w : World) :
    Calls Try.prog 70 #[.int .i64 t, .slice p n c] w fun e w' => e = .returned (.pointer (some ⟨w.heap.size, 0, none⟩)) ∧ w' = w.alloc (.cells (ptC 2 0 t ⟨#[]⟩ (.slice p n c) (.slice none 0 0)) 79) := by
  go_enter Try.func70, Try.ntmps70
  go_wp2
  go_ret
  exact ⟨rfl, rfl⟩

/-- The code's number of a kind. -/
def kcode (k : Nat) : Int := if k = 3 then 0 else if k ≤ 2 then (k : Int) + 1 else (k : Int)
/-- The pointer to a node's part. -/
def ptrAt (P : List Nat) (i : Nat) : Value := .pointer (some ⟨P.getD i 0, 0, none⟩)

/-- A part in memory, as a node; r: the rule that it names. S: what is not written into. -/
def PartIs (w : World) (base : Nat) (S : Nat → Prop) (P : List Nat) (r : Int) (N : Nd) (k : Nat) : Prop :=
  ∃ z vR vP, w.heap[k]? = some (.cells (ptB (kcode N.kind) r (N.term : Int) z (ba N.text) vR vP) 79 (0, 0)) ∧ S k ∧
    w.ownsRow base 118 2 vR N.rng.length (N.rng.flatMap rgV) ∧ (∀ j, vR.ownBlock = some j → S j) ∧
    w.ownsRow base 67 1 vP N.subs.length (N.subs.map (ptrAt P)) ∧ (∀ j, vP.ownBlock = some j → S j)

/-- All parts. -/
structure Ar (w : World) (base : Nat) (S : Nat → Prop) (P : List Nat) (ρ : Nat → Int) (ns : List Nd) : Prop where
  len : P.length = ns.length
  sub : ∀ i (h : i < ns.length), ∀ j ∈ ns[i].subs, j < i
  part : ∀ i (h : i < ns.length), PartIs w base S P (ρ i) ns[i] (P.getD i 0)
  nd : P.Nodup
  low : ∀ x ∈ P, base ≤ x

theorem PartIs.lt {w : World} {base : Nat} {S : Nat → Prop} {P : List Nat} {r : Int} {N : Nd} {k : Nat} (h : PartIs w base S P r N k) : k < w.heap.size := by
  obtain ⟨z, vR, vP, h1, _⟩ := h
  exact objAt_lt (show objAt w k = _ from h1)
theorem PartIs.kept {w w' : World} {base : Nat} {S S' T : Nat → Prop} {P : List Nat} {r : Int} {N : Nd} {k : Nat} (h : PartIs w base S P r N k) (hk : Kept T w w') (hT : ∀ j, j < w.heap.size → S j → ¬ T j) (hS : ∀ j, j < w.heap.size → S j → S' j) : PartIs w' base S' P r N k := by
  obtain ⟨z, vR, vP, h1, h2, h3, h4, h5, h6⟩ := h
  have hlt := objAt_lt (show objAt w k = _ from h1)
  refine ⟨z, vR, vP, ?_, hS k hlt h2, own_kept h3 hk (fun i hi => hT i (h3.lt i hi).2 (h4 i hi)), fun j hj => hS j (h3.lt j hj).2 (h4 j hj), own_kept h5 hk (fun i hi => hT i (h5.lt i hi).2 (h6 i hi)), fun j hj => hS j (h5.lt j hj).2 (h6 j hj)⟩
  rw [hk.block k hlt (hT k hlt h2)]; exact h1
theorem PartIs.ext {w : World} {base : Nat} {S : Nat → Prop} {P : List Nat} {r : Int} {N : Nd} {k : Nat} (h : PartIs w base S P r N k) (hs : ∀ j ∈ N.subs, j < P.length) (l : List Nat) : PartIs w base S (P ++ l) r N k := by
  obtain ⟨z, vR, vP, h1, h2, h3, h4, h5, h6⟩ := h
  refine ⟨z, vR, vP, h1, h2, h3, h4, ?_, h6⟩
  have : N.subs.map (ptrAt (P ++ l)) = N.subs.map (ptrAt P) := by
    apply List.map_congr_left
    intro j hj
    unfold ptrAt
    rw [getD_app_l (hs j hj)]
  rw [this]; exact h5

theorem Ar.lt {w : World} {base : Nat} {S : Nat → Prop} {P : List Nat} {ρ : Nat → Int} {ns : List Nd} (h : Ar w base S P ρ ns) : ∀ x ∈ P, x < w.heap.size := by
  intro x hx
  obtain ⟨i, hi, rfl⟩ := List.getElem_of_mem hx
  have := (h.part i (by rw [← h.len]; exact hi)).lt
  simpa [List.getD, List.getElem?_eq_getElem hi] using this
theorem Ar.kept {w w' : World} {base : Nat} {S S' T : Nat → Prop} {P : List Nat} {ρ : Nat → Int} {ns : List Nd} (h : Ar w base S P ρ ns) (hk : Kept T w w') (hT : ∀ j, j < w.heap.size → S j → ¬ T j) (hS : ∀ j, j < w.heap.size → S j → S' j) : Ar w' base S' P ρ ns :=
  ⟨h.len, h.sub, fun i hi => (h.part i hi).kept hk hT hS, h.nd, h.low⟩
/-- One more. -/
theorem Ar.push {w : World} {base : Nat} {S : Nat → Prop} {P : List Nat} {ρ : Nat → Int} {ns : List Nd} {N : Nd} {k : Nat} (h : Ar w base S P ρ ns) (hN : PartIs w base S P (ρ ns.length) N k) (hs : ∀ j ∈ N.subs, j < ns.length) (hnew : k ∉ P) (hlow : base ≤ k) : Ar w base S (P ++ [k]) ρ (ns ++ [N]) := by
  refine ⟨by simp [h.len], fun i hi => ?_, fun i hi => ?_, ?_, fun x hx => (List.mem_append.1 hx).elim (h.low x) (fun y => by rw [List.mem_singleton.1 y]; exact hlow)⟩
  rotate_left 2
  · rw [List.nodup_append]
    refine ⟨h.nd, by simp, fun a ha b hb e => ?_⟩
    rw [List.mem_singleton.1 hb] at e
    exact hnew (e ▸ ha)
  · by_cases h1 : i < ns.length
    · rw [List.getElem_append_left h1]; exact h.sub i h1
    · have : i = ns.length := by simp at hi; omega
      subst this
      rw [List.getElem_append_right (Nat.le_refl _)]
      simpa using hs
  · by_cases h1 : i < ns.length
    · rw [List.getElem_append_left h1, getD_app_l (by rw [h.len]; exact h1)]
      exact (h.part i h1).ext (fun j hj => by have := h.sub i h1 j hj; rw [h.len]; omega) _
    · have : i = ns.length := by simp at hi; omega
      subst this
      rw [List.getElem_append_right (Nat.le_refl _), getD_app_r (by rw [h.len]; exact Nat.le_refl _)]
      simp only [h.len, Nat.sub_self, List.getElem_cons_zero, List.getD_cons_zero]
      exact hN.ext (fun j hj => by rw [h.len]; exact hs j hj) _

/-- A name as it stands in the text. -/
structure Mn where
  name : List UInt8
  at_ : Nat
  part : Option Nat
def mnC (P : List Nat) (m : Mn) : List Value := [.string (ba m.name), .int .i64 (m.at_ : Int), .pointer (m.part.map fun i => ⟨P.getD i 0, 0, none⟩)]
/-- The names that stand in some nodes. -/
def mns : Nat → List Nd → List Mn
  | _, [] => []
  | o, N :: l => (if N.kind = 3 then [⟨N.name, N.at_, some o⟩] else []) ++ mns (o + 1) l
theorem mns_app : ∀ (l m : List Nd) (o : Nat), mns o (l ++ m) = mns o l ++ mns (o + l.length) m
  | [], m, o => by simp [mns]
  | N :: l, m, o => by
    rw [List.cons_append, mns, mns, mns_app l m (o + 1), List.append_assoc, List.length_cons, show o + 1 + l.length = o + (l.length + 1) by omega]

theorem mns_len : ∀ (l : List Nd) (o : Nat), (mns o l).length ≤ l.length
  | [], o => by simp [mns]
  | N :: l, o => by
    have := mns_len l (o + 1)
    rw [mns, List.length_append, List.length_cons]
    split <;> simp <;> omega

/-- The code's reader with its parts and its names. -/
structure CR (w : World) (base b : Nat) (s : ByteArray) (mv : Value) (T : Nat → Prop) (P : List Nat) (ms : List Mn) (A : St) : Prop where
  ris : Ris w b s mv A.sc
  own : w.ownsRow base 74 3 mv ms.length (ms.flatMap (mnC P))
  nb : mv.ownBlock ≠ some b
  ar : Ar w base (fun k => k ≠ b ∧ mv.ownBlock ≠ some k ∧ ¬ T k) P (fun _ => 0) A.ns
  told : ∀ k, T k → k < w.heap.size
  mlt : ∀ m ∈ ms, ∀ i, m.part = some i → i < P.length
  bb : base ≤ b
  t40 : A.sc.t ≤ 40
  mlen : ms.length ≤ A.ns.length + 8

/-- What a piece of the reading changes. -/
structure Cs (b : Nat) (mv mv' : Value) (w w' : World) : Prop where
  kept : Kept (fun k => k = b ∨ mv.ownBlock = some k) w w'
  own : ∀ k, mv'.ownBlock = some k → mv.ownBlock = some k ∨ w.heap.size ≤ k
theorem Cs.refl (b : Nat) (mv : Value) (w : World) : Cs b mv mv w w := ⟨Kept.refl _ _, fun _ h => .inl h⟩
theorem Cs.only {b : Nat} {mv : Value} {w w' : World} (h : Kept (· = b) w w') : Cs b mv mv w w' := ⟨h.mono (fun _ _ h => .inl h), fun _ h => .inl h⟩
theorem Cs.trans {b : Nat} {mv mv1 mv2 : Value} {w w1 w2 : World} (h : Cs b mv mv1 w w1) (k : Cs b mv1 mv2 w1 w2) : Cs b mv mv2 w w2 := by
  refine ⟨⟨k.kept.os.trans h.kept.os, k.kept.tape.trans h.kept.tape, k.kept.output.trans h.kept.output, Nat.le_trans h.kept.size k.kept.size, fun i hi hn => ?_⟩, fun j hj => ?_⟩
  · rw [k.kept.block i (Nat.lt_of_lt_of_le hi h.kept.size) (fun hx => ?_), h.kept.block i hi hn]
    rcases hx with hx | hx
    · exact hn (.inl hx)
    · rcases h.own i hx with hy | hy
      · exact hn (.inr hy)
      · omega
  · rcases k.own j hj with hx | hx
    · exact h.own j hx
    · exact .inr (Nat.le_trans h.kept.size hx)

end Go.Proofs.Ytagklnaaoclmhaa
