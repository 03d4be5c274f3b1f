import Derived.Test.YtagklnaaoclmhaaRefM
import Derived.Test.YtagklnaaoclmhaaRefC
set_option linter.unusedSimpArgs false
set_option linter.unusedVariables false
namespace Go.Proofs.Ytagklnaaoclmhaa
open Go.RowKit

def intV (n : Nat) : Value := .int .i64 (n : Int)
def inR (l : List (Nat × Nat)) (i : Nat) : Bool := l.any (fun r => decide (r.1 ≤ i) && decide (i ≤ r.2))

/-- A node's cells; v: the slice of its parts. -/
structure NodeIs (c : Array Value) (N : Nd) (v : Value) : Prop where
  size : c.size = 262
  one : ∀ u ∈ c.toList, u.oneCell' = true
  kind : c[0]? = some (intV N.kind)
  text : c[1]? = some (.string (ba N.text))
  bits : ∀ i, i < 256 → c[2 + i]? = some (.bool (inR N.rng i))
  term : c[258]? = some (intV N.term)
  name : c[259]? = some (.string (ba N.name))
  at_ : c[260]? = some (intV N.at_)
  subs : c[261]? = some v

theorem zget_gen (a b x : Value) (r : List Value) (n i : Nat) (h : i < n) : (a :: b :: (List.replicate n x ++ r)).toArray[2 + i]? = some x := by
  rw [List.getElem?_toArray, Nat.add_comm, List.getElem?_cons_succ, List.getElem?_cons_succ, List.getElem?_append_left (by simpa using h)]
  rw [List.getElem?_replicate, if_pos h]
theorem z59_get (i : Nat) (h : i < 256) : z59[2 + i]? = some (.bool false) := zget_gen _ _ _ _ 256 i h
theorem zone_gen (a b x p q r t : Value) (n : Nat) (ha : a.oneCell' = true) (hb : b.oneCell' = true) (hx : x.oneCell' = true) (hp : p.oneCell' = true) (hq : q.oneCell' = true) (hr : r.oneCell' = true) (ht : t.oneCell' = true) :
    ∀ u ∈ (a :: b :: (List.replicate n x ++ [p, q, r, t])), u.oneCell' = true := by
  intro u hu
  simp only [List.mem_cons, List.mem_append, List.mem_replicate, List.not_mem_nil, or_false] at hu
  rcases hu with h | h | h | h | h | h | h
  · rw [h]; exact ha
  · rw [h]; exact hb
  · rw [h.2]; exact hx
  · rw [h]; exact hp
  · rw [h]; exact hq
  · rw [h]; exact hr
  · rw [h]; exact ht
theorem z59_one : ∀ u ∈ z59.toList, u.oneCell' = true := zone_gen _ _ _ _ _ _ _ 256 rfl rfl rfl rfl rfl rfl rfl
theorem one_set {c : Array Value} (h : ∀ u ∈ c.toList, u.oneCell' = true) {i : Nat} {x : Value} (hx : x.oneCell' = true) : ∀ u ∈ (c.setIfInBounds i x).toList, u.oneCell' = true := by
  intro u hu
  rw [Array.toList_setIfInBounds] at hu
  rcases List.mem_or_eq_of_mem_set hu with h' | h'
  · exact h u h'
  · rw [h']; exact hx
theorem ones_of {c : Array Value} (h : ∀ u ∈ c.toList, u.oneCell' = true) : ones c = true := by
  unfold ones
  exact Array.all_eq_true_iff_forall_mem.2 (fun v hv => h v (by simpa using hv))

theorem NodeIs.zero : NodeIs z59 nd0 (.slice none 0 0) where
  size := z59_size
  one := z59_one
  kind := by kernel_rfl
  text := by kernel_rfl
  bits := fun i hi => by rw [z59_get i hi]; rfl
  term := by kernel_rfl
  name := by kernel_rfl
  at_ := by kernel_rfl
  subs := by kernel_rfl

section
variable {c : Array Value} {N : Nd} {v : Value} (h : NodeIs c N v)
include h
theorem NodeIs.setKind (k : Nat) : NodeIs (c.setIfInBounds 0 (.int .i64 (k : Int))) { N with kind := k } v where
  size := by simp [h.size]
  one := one_set h.one rfl
  kind := by simp [Array.getElem?_setIfInBounds, h.size, intV]
  text := by simp [Array.getElem?_setIfInBounds, h.text]
  bits := fun i hi => by rw [Array.getElem?_setIfInBounds_ne (by omega), h.bits i hi]
  term := by simp [Array.getElem?_setIfInBounds, h.term]
  name := by simp [Array.getElem?_setIfInBounds, h.name]
  at_ := by simp [Array.getElem?_setIfInBounds, h.at_]
  subs := by simp [Array.getElem?_setIfInBounds, h.subs]
theorem NodeIs.setText (x : List UInt8) : NodeIs (c.setIfInBounds 1 (.string (ba x))) { N with text := x } v where
  size := by simp [h.size]
  one := one_set h.one rfl
  kind := by simp [Array.getElem?_setIfInBounds, h.kind]
  text := by simp [Array.getElem?_setIfInBounds, h.size]
  bits := fun i hi => by rw [Array.getElem?_setIfInBounds_ne (by omega), h.bits i hi]
  term := by simp [Array.getElem?_setIfInBounds, h.term]
  name := by simp [Array.getElem?_setIfInBounds, h.name]
  at_ := by simp [Array.getElem?_setIfInBounds, h.at_]
  subs := by simp [Array.getElem?_setIfInBounds, h.subs]
theorem NodeIs.setTerm (k : Nat) : NodeIs (c.setIfInBounds 258 (.int .i64 (k : Int))) { N with term := k } v where
  size := by simp [h.size]
  one := one_set h.one rfl
  kind := by simp [Array.getElem?_setIfInBounds, h.kind]
  text := by simp [Array.getElem?_setIfInBounds, h.text]
  bits := fun i hi => by rw [Array.getElem?_setIfInBounds_ne (by omega), h.bits i hi]
  term := by simp [Array.getElem?_setIfInBounds, h.size, intV]
  name := by simp [Array.getElem?_setIfInBounds, h.name]
  at_ := by simp [Array.getElem?_setIfInBounds, h.at_]
  subs := by simp [Array.getElem?_setIfInBounds, h.subs]
theorem NodeIs.setName (x : List UInt8) : NodeIs (c.setIfInBounds 259 (.string (ba x))) { N with name := x } v where
  size := by simp [h.size]
  one := one_set h.one rfl
  kind := by simp [Array.getElem?_setIfInBounds, h.kind]
  text := by simp [Array.getElem?_setIfInBounds, h.text]
  bits := fun i hi => by rw [Array.getElem?_setIfInBounds_ne (by omega), h.bits i hi]
  term := by simp [Array.getElem?_setIfInBounds, h.term]
  name := by simp [Array.getElem?_setIfInBounds, h.size]
  at_ := by simp [Array.getElem?_setIfInBounds, h.at_]
  subs := by simp [Array.getElem?_setIfInBounds, h.subs]
theorem NodeIs.setAt (k : Nat) : NodeIs (c.setIfInBounds 260 (.int .i64 (k : Int))) { N with at_ := k } v where
  size := by simp [h.size]
  one := one_set h.one rfl
  kind := by simp [Array.getElem?_setIfInBounds, h.kind]
  text := by simp [Array.getElem?_setIfInBounds, h.text]
  bits := fun i hi => by rw [Array.getElem?_setIfInBounds_ne (by omega), h.bits i hi]
  term := by simp [Array.getElem?_setIfInBounds, h.term]
  name := by simp [Array.getElem?_setIfInBounds, h.name]
  at_ := by simp [Array.getElem?_setIfInBounds, h.size, intV]
  subs := by simp [Array.getElem?_setIfInBounds, h.subs]
theorem NodeIs.setSubs (l : List Nat) (p : Option Addr) (n m : Nat) : NodeIs (c.setIfInBounds 261 (.slice p n m)) { N with subs := l } (.slice p n m) where
  size := by simp [h.size]
  one := one_set h.one rfl
  kind := by simp [Array.getElem?_setIfInBounds, h.kind]
  text := by simp [Array.getElem?_setIfInBounds, h.text]
  bits := fun i hi => by rw [Array.getElem?_setIfInBounds_ne (by omega), h.bits i hi]
  term := by simp [Array.getElem?_setIfInBounds, h.term]
  name := by simp [Array.getElem?_setIfInBounds, h.name]
  at_ := by simp [Array.getElem?_setIfInBounds, h.at_]
  subs := by simp [Array.getElem?_setIfInBounds, h.size]
end

theorem markN_get (c : Array Value) (a j : Nat) : ∀ n, (2 + (a + n) ≤ c.size) → (markN c a n)[j]? = if 2 + a ≤ j ∧ j < 2 + (a + n) then some (.bool true) else c[j]?
  | 0, h => by rw [markN, if_neg (by omega)]
  | n + 1, h => by
    rw [markN, Array.getElem?_setIfInBounds, markN_get c a j n (by omega), markN_size]
    by_cases hj : 2 + (a + n) = j
    · rw [if_pos hj, if_pos (by omega), if_pos (by omega)]
    · rw [if_neg hj]
      by_cases hr : 2 + a ≤ j ∧ j < 2 + (a + n)
      · rw [if_pos hr, if_pos (by omega)]
      · rw [if_neg hr, if_neg (by omega)]
theorem one_mark {c : Array Value} (h : ∀ u ∈ c.toList, u.oneCell' = true) (a : Nat) : ∀ n, ∀ u ∈ (markN c a n).toList, u.oneCell' = true
  | 0 => h
  | n + 1 => one_set (one_mark h a n) rfl

theorem NodeIs.mark {c : Array Value} {N : Nd} {v : Value} (h : NodeIs c N v) (a b : Nat) (hb : b < 256) : NodeIs (markN c a (b + 1 - a)) { N with rng := N.rng ++ [(a, b)] } v := by
  have hs := h.size
  by_cases hab : a ≤ b + 1
  · have hg := fun j => markN_get c a j (b + 1 - a) (by omega)
    refine ⟨by rw [markN_size]; exact hs, one_mark h.one _ _, ?_, ?_, fun i hi => ?_, ?_, ?_, ?_, ?_⟩
    · rw [hg, if_neg (by omega)]; exact h.kind
    · rw [hg, if_neg (by omega)]; exact h.text
    · rw [hg]
      by_cases hr : 2 + a ≤ 2 + i ∧ 2 + i < 2 + (a + (b + 1 - a))
      · rw [if_pos hr]
        simp [inR]
        omega
      · rw [if_neg hr, h.bits i hi]
        simp [inR]
        omega
    · rw [hg, if_neg (by omega)]; exact h.term
    · rw [hg, if_neg (by omega)]; exact h.name
    · rw [hg, if_neg (by omega)]; exact h.at_
    · rw [hg, if_neg (by omega)]; exact h.subs
  · rw [show b + 1 - a = 0 by omega]
    refine ⟨hs, h.one, h.kind, h.text, fun i hi => ?_, h.term, h.name, h.at_, h.subs⟩
    rw [show markN c a 0 = c from rfl, h.bits i hi]
    simp [inR]
    omega
theorem NodeIs.marks {v : Value} (l : List (Nat × Nat)) : ∀ {c : Array Value} {N : Nd}, NodeIs c N v → (∀ r ∈ l, r.2 < 256) → NodeIs (marks c l) { N with rng := N.rng ++ l } v := by
  induction l with
  | nil => intro c N h _; simpa [Go.Proofs.Ytagklnaaoclmhaa.marks] using h
  | cons r l ih =>
    intro c N h hl
    have h1 := h.mark r.1 r.2 (hl r (by simp))
    have h2 := ih h1 (fun x hx => hl x (by simp [hx]))
    simpa [Go.Proofs.Ytagklnaaoclmhaa.marks, List.append_assoc] using h2

/-- The ref's nodes in memory; U: the blocks in which their lists of parts may lie. -/
def NodesAt (w : World) (base : Nat) (nv : Value) (U : Nat → Prop) (ns : List Nd) : Prop :=
  ∃ cs : List (Array Value), cs.length = ns.length ∧ w.ownsRow base 59 262 nv ns.length (cs.map Array.toList).flatten ∧
    ∀ (i : Nat) (c : Array Value) (N : Nd), cs[i]? = some c → ns[i]? = some N → ∃ v, NodeIs c N v ∧ w.ownsRow base 3 1 v N.subs.length (N.subs.map intV) ∧ ∀ k, v.ownBlock = some k → U k

/-- What the ref's grammar is in memory. -/
structure RG (w : World) (base b : Nat) (s : ByteArray) (nv rv : Value) (U : Nat → Prop) (A : St) : Prop where
  gis : Gis w b s nv rv A.sc
  nodes : NodesAt w base nv U A.ns
  hb : base ≤ w.heap.size
  low : ∀ k, U k → k < w.heap.size

/-- From one world to a later one: the grammar's own blocks alone have turned; what is new lies from H on. -/
structure Stp (H b : Nat) (nv nv' : Value) (U U' : Nat → Prop) (w w' : World) : Prop where
  kept : Kept (fun k => k = b ∨ nv.ownBlock = some k) w w'
  new : ∀ k, nv'.ownBlock = some k → nv.ownBlock = some k ∨ H ≤ k
  sub : ∀ k, U' k → U k ∨ H ≤ k

theorem Stp.low {H H' b : Nat} {n0 n1 : Value} {U0 U1 : Nat → Prop} {w0 w1 : World} (h : Stp H' b n0 n1 U0 U1 w0 w1) (hh : H ≤ H') : Stp H b n0 n1 U0 U1 w0 w1 :=
  ⟨h.kept, fun k x => (h.new k x).imp id (fun y => Nat.le_trans hh y), fun k x => (h.sub k x).imp id (fun y => Nat.le_trans hh y)⟩
theorem Stp.join {H b : Nat} {n0 n1 n2 : Value} {U0 U1 U2 : Nat → Prop} {w0 w1 w2 : World} (hH : w0.heap.size ≤ H) (h : Stp H b n0 n1 U0 U1 w0 w1) (k : Stp H b n1 n2 U1 U2 w1 w2) : Stp H b n0 n2 U0 U2 w0 w2 where
  kept := ⟨k.kept.os.trans h.kept.os, k.kept.tape.trans h.kept.tape, k.kept.output.trans h.kept.output, Nat.le_trans h.kept.size k.kept.size, fun i hi hs => by
    rw [k.kept.block i (Nat.lt_of_lt_of_le hi h.kept.size) (by
      rintro (h1 | h1)
      · exact hs (Or.inl h1)
      · rcases h.new i h1 with h2 | h2
        · exact hs (Or.inr h2)
        · omega)]
    exact h.kept.block i hi hs⟩
  new := fun i hi => by
    rcases k.new i hi with h1 | h1
    · exact h.new i h1
    · exact Or.inr h1
  sub := fun i hi => by
    rcases k.sub i hi with h1 | h1
    · exact h.sub i h1
    · exact Or.inr h1
theorem Stp.trans {b : Nat} {n0 n1 n2 : Value} {U0 U1 U2 : Nat → Prop} {w0 w1 w2 : World} (h : Stp w0.heap.size b n0 n1 U0 U1 w0 w1) (k : Stp w1.heap.size b n1 n2 U1 U2 w1 w2) : Stp w0.heap.size b n0 n2 U0 U2 w0 w2 :=
  h.join (Nat.le_refl _) (k.low h.kept.size)
theorem Stp.only {b : Nat} {nv : Value} {U : Nat → Prop} {w w' : World} (h : Kept (· = b) w w') {H : Nat} : Stp H b nv nv U U w w' := ⟨h.mono (fun _ _ x => Or.inl x), fun _ x => Or.inl x, fun _ x => Or.inl x⟩

theorem ownsRow_kept {S : Nat → Prop} {w w' : World} {base e size n : Nat} {v : Value} {xs : List Value} (h : w.ownsRow base e size v n xs) (hk : Kept S w w') (hs : ∀ k, v.ownBlock = some k → ¬ S k) : w'.ownsRow base e size v n xs := by
  obtain ⟨h1, h2⟩ := h
  refine ⟨h1, ?_⟩
  rcases h2 with h2 | ⟨g, cap, cur, hv, hg, hh, r⟩
  · exact Or.inl h2
  · refine Or.inr ⟨g, cap, cur, hv, hg, ?_, r⟩
    have hlt : g < w.heap.size := objAt_lt (show objAt w g = _ from hh)
    rw [hk.block g hlt (hs g (by rw [hv]; rfl))]; exact hh
/-- What type the block of an owned row has. -/
theorem ownsRow_obj {w : World} {base e size n k : Nat} {v : Value} {xs : List Value} (h : w.ownsRow base e size v n xs) (hk : v.ownBlock = some k) : ∃ c, objAt w k = some (.cells c e (0, 0)) := by
  rcases h.2 with ⟨h2, _⟩ | ⟨g, cap, cur, hv, hg, hh, r⟩
  · rw [h2] at hk; cases hk
  · rw [hv] at hk
    simp only [Value.ownBlock, Option.some.injEq] at hk
    subst hk
    exact ⟨cur, hh⟩

theorem NodesAt.kept {S : Nat → Prop} {w w' : World} {base : Nat} {nv : Value} {U : Nat → Prop} {ns : List Nd} (h : NodesAt w base nv U ns) (hk : Kept S w w') (h1 : ∀ k, nv.ownBlock = some k → ¬ S k) (h2 : ∀ k c, U k → objAt w k = some (.cells c 3 (0, 0)) → ¬ S k) : NodesAt w' base nv U ns := by
  obtain ⟨cs, hl, ho, hn⟩ := h
  refine ⟨cs, hl, ownsRow_kept ho hk h1, fun i c N hc hN => ?_⟩
  obtain ⟨v, hv, hr, hu⟩ := hn i c N hc hN
  exact ⟨v, hv, ownsRow_kept hr hk (fun k e => by obtain ⟨x, hx⟩ := ownsRow_obj hr e; exact h2 k x (hu k e) hx), hu⟩

theorem Gis.obj {w : World} {b : Nat} {s : ByteArray} {nv rv : Value} {g : Sc} (h : Gis w b s nv rv g) : ∃ c, objAt w b = some (.cells c 39 (0, 0)) := ⟨_, h⟩

theorem RG.nvb {w : World} {base b : Nat} {s : ByteArray} {nv rv : Value} {U : Nat → Prop} {A : St} (h : RG w base b s nv rv U A) {k : Nat} (e : nv.ownBlock = some k) : ∃ c, objAt w k = some (.cells c 59 (0, 0)) := by
  obtain ⟨cs, _, ho, _⟩ := h.nodes
  exact ownsRow_obj ho e

/-- Behind a step that turned other blocks than the nodes'. -/
theorem RG.turn {S : Nat → Prop} {w w' : World} {base b : Nat} {s : ByteArray} {nv rv : Value} {U : Nat → Prop} {A : St} (h : RG w base b s nv rv U A) (hk : Kept S w w') {g : Sc} (hg : Gis w' b s nv rv g) (h1 : ∀ k, nv.ownBlock = some k → ¬ S k) (h2 : ∀ k c, U k → objAt w k = some (.cells c 3 (0, 0)) → ¬ S k) : RG w' base b s nv rv U { A with sc := g } :=
  ⟨hg, h.nodes.kept hk h1 h2, Nat.le_trans h.hb hk.size, fun k x => Nat.lt_of_lt_of_le (h.low k x) hk.size⟩

/-- Behind a step that turned the grammar's own block alone. -/
theorem RG.only {w w' : World} {base b : Nat} {s : ByteArray} {nv rv : Value} {U : Nat → Prop} {A : St} (h : RG w base b s nv rv U A) (hk : Kept (· = b) w w') {g : Sc} (hg : Gis w' b s nv rv g) : RG w' base b s nv rv U { A with sc := g } := by
  obtain ⟨y, hy⟩ := h.gis.obj
  refine h.turn hk hg (fun k e hs => ?_) (fun k c _ e hs => ?_)
  · subst hs
    obtain ⟨x, hx⟩ := h.nvb e
    rw [hx] at hy; simp at hy
  · subst hs
    rw [e] at hy; simp at hy

theorem RG.same {w : World} {base b : Nat} {s : ByteArray} {nv rv : Value} {U : Nat → Prop} {A : St} (h : RG w base b s nv rv U A) (n : Nat) : RG (w.drewN n) base b s nv rv U A := ⟨h.gis.drewN n, by
  exact h.nodes.kept (S := fun _ => False) ((Kept.refl _ w).drewN n) (fun _ _ => id) (fun _ _ _ _ => id), h.hb, h.low⟩
theorem RG.alloc {w : World} {base b : Nat} {s : ByteArray} {nv rv : Value} {U : Nat → Prop} {A : St} (h : RG w base b s nv rv U A) (o : Obj) : RG (w.alloc o) base b s nv rv U A :=
  ⟨h.gis.alloc o, h.nodes.kept (S := fun _ => False) ((Kept.refl _ w).alloc o) (fun _ _ => id) (fun _ _ _ _ => id), by simp; have := h.hb; omega, fun k x => by simp; have := h.low k x; omega⟩

set_option maxHeartbeats 800000 in
/-- add; v: where its parts lie, from H on. -/
theorem addV {w : World} {base b H : Nat} {s : ByteArray} {nv rv v : Value} {U : Nat → Prop} {A : St} {N : Nd} {c : Array Value} (h : RG w base b s nv rv U A) (hc : NodeIs c N v) (hv : w.ownsRow base 3 1 v N.subs.length (N.subs.map intV)) (hH : ∀ k, v.ownBlock = some k → H ≤ k) (hw : H ≤ w.heap.size) (hn : A.ns.length ≤ 100000) :
    Calls Try.prog 34 #[.pointer (some ⟨b, 0, none⟩), .agg c] w fun e w' => e = .returned (.int .i64 ((addN A N).2 : Int)) ∧ ∃ nv' U', RG w' base b s nv' rv U' (addN A N).1 ∧ Stp H b nv nv' U U' w w' := by
  obtain ⟨cs, hl, ho, hns⟩ := h.nodes
  refine (add_any b base A.ns.length s nv rv A.sc c _ w h.gis hc.size hc.one ho hn h.hb).mono ?_
  rintro e w' ⟨rfl, nv', hG, hO, hK, hnew⟩
  refine ⟨rfl, nv', fun k => U k ∨ v.ownBlock = some k, ⟨hG, ⟨cs ++ [c], by simp [addN, hl], by simpa [addN] using hO, fun i c' N' hc' hN' => ?_⟩, Nat.le_trans h.hb hK.size, fun k x => Nat.lt_of_lt_of_le (x.elim (h.low k) (fun y => (hv.lt k y).2)) hK.size⟩, ⟨hK, fun k x => (hnew k x).imp id (fun y => Nat.le_trans hw y), fun k x => x.imp id (hH k)⟩⟩
  have hkeep : ∀ u m xs, w.ownsRow base 3 1 u m xs → w'.ownsRow base 3 1 u m xs := fun u m xs hu => ownsRow_kept hu hK (fun k e => by
    obtain ⟨x, hx⟩ := ownsRow_obj hu e
    rintro (hs | hs)
    · subst hs
      obtain ⟨y, hy⟩ := h.gis.obj
      rw [hx] at hy; simp at hy
    · obtain ⟨y, hy⟩ := ownsRow_obj ho hs
      rw [hx] at hy; simp at hy)
  dsimp only [addN] at hN'
  by_cases hi : i < A.ns.length
  · rw [List.getElem?_append_left (by omega)] at hc'
    rw [List.getElem?_append_left hi] at hN'
    obtain ⟨u, hu, hr, hU⟩ := hns i c' N' hc' hN'
    exact ⟨u, hu, hkeep _ _ _ hr, fun k e => Or.inl (hU k e)⟩
  · rw [List.getElem?_append_right (by omega)] at hc' hN'
    have hi0 : i - A.ns.length = 0 := by
      rcases Nat.eq_zero_or_pos (i - A.ns.length) with h0 | h0
      · exact h0
      · rw [List.getElem?_eq_none (by simp; omega)] at hN'; cases hN'
    rw [hi0] at hN'
    rw [show i - cs.length = 0 by omega] at hc'
    simp at hc' hN'
    subst hc' hN'
    exact ⟨v, hc, hkeep _ _ _ hv, fun k e => Or.inr e⟩

/-- add, of a node without parts. -/
theorem addR {w : World} {base b : Nat} {s : ByteArray} {nv rv : Value} {U : Nat → Prop} {A : St} {N : Nd} {c : Array Value} (h : RG w base b s nv rv U A) (hc : NodeIs c N (.slice none 0 0)) (hN : N.subs = []) (hn : A.ns.length ≤ 100000) :
    Calls Try.prog 34 #[.pointer (some ⟨b, 0, none⟩), .agg c] w fun e w' => e = .returned (.int .i64 ((addN A N).2 : Int)) ∧ ∃ nv' U', RG w' base b s nv' rv U' (addN A N).1 ∧ Stp w.heap.size b nv nv' U U' w w' :=
  addV h hc (by rw [hN]; exact World.ownsRow_nil _ _ _ _) (fun k e => by cases e) (Nat.le_refl _) hn

theorem own_one {w : World} {base : Nat} (h : base ≤ w.heap.size) (n : Nat) : (w.alloc (.cells #[.int .i64 (n : Int)] 3)).ownsRow base 3 1 (.slice (some ⟨w.heap.size, 0, none⟩) 1 1) 1 [intV n] :=
  World.ownsRow_lit w #[.int .i64 (n : Int)] 1 h (by decide) rfl
/-- add, of a node of one part, whose list has just been made. -/
theorem addOne {w : World} {base b : Nat} {s : ByteArray} {nv rv : Value} {U : Nat → Prop} {A : St} {N : Nd} {c : Array Value} (x B : Nat) (h : RG w base b s nv rv U A) (hB : w.heap.size = B) (hc : NodeIs c N (.slice (some ⟨B, 0, none⟩) 1 1)) (hN : N.subs = [x]) (hn : A.ns.length ≤ 100000) :
    Calls Try.prog 34 #[.pointer (some ⟨b, 0, none⟩), .agg c] (w.alloc (.cells #[.int .i64 (x : Int)] 3)) fun e w' => e = .returned (.int .i64 ((addN A N).2 : Int)) ∧ ∃ nv' U', RG w' base b s nv' rv U' (addN A N).1 ∧ Stp w.heap.size b nv nv' U U' w w' := by
  subst hB
  refine (addV (H := w.heap.size) (h.alloc _) hc (by rw [hN]; exact own_one h.hb x) (fun k e => by simp only [Value.ownBlock, Option.some.injEq] at e; omega) (by simp) hn).mono ?_
  rintro e w' ⟨rfl, nv', U', hR, hS⟩
  exact ⟨rfl, nv', U', hR, (Stp.only ((Kept.refl (· = b) w).alloc _)).join (Nat.le_refl _) hS⟩

theorem Kept.then {S T : Nat → Prop} {a b c : World} (h : Kept S a b) (k : Kept T b c) (hs : ∀ i, i < a.heap.size → T i → S i) : Kept S a c :=
  ⟨k.os.trans h.os, k.tape.trans h.tape, k.output.trans h.output, Nat.le_trans h.size k.size, fun i hi hn => (k.block i (Nat.lt_of_lt_of_le hi h.size) (fun x => hn (hs i hi x))).trans (h.block i hi hn)⟩

theorem setF_rng {s : ByteArray} : ∀ f fst g, Iv s g → ∀ r ∈ (setF s f fst g).1, r.1 < 256 ∧ r.2 < 256
  | 0, _, g, h => by simp [setF]
  | f + 1, fst, g, h => by
    rw [setF]; split
    · obtain ⟨i1, i2, i3, i4, i5, i6, i7⟩ := setR_facts h
      intro r hr
      rcases List.mem_cons.1 hr with e | e
      · rw [e]; exact ⟨i3, i4⟩
      · exact setF_rng f false _ i1 r e
    · simp

end Go.Proofs.Ytagklnaaoclmhaa
