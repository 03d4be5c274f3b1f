import Derived.Test.YtagklnaaoclmhaaGreatDoorMgAH
set_option linter.unusedSimpArgs false
set_option linter.unusedVariables false
namespace Go.Proofs.YtagklnaaoclmhaaGreatDoor
open Go.RowKit

/-- The cells of a part. -/
def ptB (k r t z : Int) (tx : ByteArray) (vR vP : Value) : Array Value := #[.int .i64 k, .int .i64 r, .int .i64 t, .int .i64 z, .string tx, vR, vP]
def ptC (k r t : Int) (tx : ByteArray) (vR vP : Value) : Array Value := ptB k r t 0 tx vR vP

set_option maxRecDepth 100000 in
set_option maxHeartbeats 400000 in
theorem partOf_any (k : Int) (p : Option Addr) (n c : Nat) (w : World) :
    Calls Tryz.prog 166 #[.int .i64 k, .slice p n c] w fun e w' => e = .returned (.pointer (some ⟨w.heap.size, 0, none⟩)) ∧ w' = w.alloc (.cells (ptC k 0 0 ⟨#[]⟩ (.slice none 0 0) (.slice p n c)) 203) := by
  go_enter Tryz.func166, Tryz.ntmps166
  go_wp2
  go_ret
  exact ⟨rfl, rfl⟩
set_option maxRecDepth 100000 in
set_option maxHeartbeats 400000 in
theorem classOf_any (t : Int) (p : Option Addr) (n c : Nat) (w : World) :
    Calls Tryz.prog 208 #[.int .i64 t, .slice p n c] w fun e w' => e = .returned (.pointer (some ⟨w.heap.size, 0, none⟩)) ∧ w' = w.alloc (.cells (ptC 2 0 t ⟨#[]⟩ (.slice p n c) (.slice none 0 0)) 203) := by
  go_enter Tryz.func208, Tryz.ntmps208
  go_wp2
  go_ret
  exact ⟨rfl, rfl⟩

/-- The code's number of a kind. -/
def kcode (k : Nat) : Int := if k = 3 then 0 else if k ≤ 2 then (k : Int) + 1 else (k : Int)
/-- The pointer to a node's part. -/
def ptrAt (P : List Nat) (i : Nat) : Value := .pointer (some ⟨P.getD i 0, 0, none⟩)

/-- A part in memory, as a node; r: the rule that it names. S: what is not written into. -/
def PartIs (w : World) (base : Nat) (S : Nat → Prop) (P : List Nat) (r : Int) (N : Nd) (k : Nat) : Prop :=
  ∃ z vR vP, w.heap[k]? = some (.cells (ptB (kcode N.kind) r (N.term : Int) z (ba N.text) vR vP) 203 (0, 0)) ∧ S k ∧
    w.ownsRow base 321 2 vR N.rng.length (N.rng.flatMap rgV) ∧ (∀ j, vR.ownBlock = some j → S j) ∧
    w.ownsRow base 187 1 vP N.subs.length (N.subs.map (ptrAt P)) ∧ (∀ j, vP.ownBlock = some j → S j)

/-- All parts. -/
structure Ar (w : World) (base : Nat) (S : Nat → Prop) (P : List Nat) (ρ : Nat → Int) (ns : List Nd) : Prop where
  len : P.length = ns.length
  sub : ∀ i (h : i < ns.length), ∀ j ∈ ns[i].subs, j < i
  part : ∀ i (h : i < ns.length), PartIs w base S P (ρ i) ns[i] (P.getD i 0)
  nd : P.Nodup
  low : ∀ x ∈ P, base ≤ x

theorem PartIs.lt {w : World} {base : Nat} {S : Nat → Prop} {P : List Nat} {r : Int} {N : Nd} {k : Nat} (h : PartIs w base S P r N k) : k < w.heap.size := by
  obtain ⟨z, vR, vP, h1, _⟩ := h
  exact objAt_lt (show objAt w k = _ from h1)
theorem PartIs.kept {w w' : World} {base : Nat} {S S' T : Nat → Prop} {P : List Nat} {r : Int} {N : Nd} {k : Nat} (h : PartIs w base S P r N k) (hk : Kept T w w') (hT : ∀ j, j < w.heap.size → S j → ¬ T j) (hS : ∀ j, j < w.heap.size → S j → S' j) : PartIs w' base S' P r N k := by
  obtain ⟨z, vR, vP, h1, h2, h3, h4, h5, h6⟩ := h
  have hlt := objAt_lt (show objAt w k = _ from h1)
  refine ⟨z, vR, vP, ?_, hS k hlt h2, own_kept h3 hk (fun i hi => hT i (h3.lt i hi).2 (h4 i hi)), fun j hj => hS j (h3.lt j hj).2 (h4 j hj), own_kept h5 hk (fun i hi => hT i (h5.lt i hi).2 (h6 i hi)), fun j hj => hS j (h5.lt j hj).2 (h6 j hj)⟩
  rw [hk.block k hlt (hT k hlt h2)]; exact h1
theorem PartIs.ext {w : World} {base : Nat} {S : Nat → Prop} {P : List Nat} {r : Int} {N : Nd} {k : Nat} (h : PartIs w base S P r N k) (hs : ∀ j ∈ N.subs, j < P.length) (l : List Nat) : PartIs w base S (P ++ l) r N k := by
  obtain ⟨z, vR, vP, h1, h2, h3, h4, h5, h6⟩ := h
  refine ⟨z, vR, vP, h1, h2, h3, h4, ?_, h6⟩
  have : N.subs.map (ptrAt (P ++ l)) = N.subs.map (ptrAt P) := by
    apply List.map_congr_left
    intro j hj
    unfold ptrAt
    rw [getD_app_l (hs j hj)]
  rw [this]; exact h5

theorem Ar.lt {w : World} {base : Nat} {S : Nat → Prop} {P : List Nat} {ρ : Nat → Int} {ns : List Nd} (h : Ar w base S P ρ ns) : ∀ x ∈ P, x < w.heap.size := by
  intro x hx
  obtain ⟨i, hi, rfl⟩ := List.getElem_of_mem hx
  have := (h.part i (by rw [← h.len]; exact hi)).lt
  simpa [List.getD, List.getElem?_eq_getElem hi] using this
theorem Ar.kept {w w' : World} {base : Nat} {S S' T : Nat → Prop} {P : List Nat} {ρ : Nat → Int} {ns : List Nd} (h : Ar w base S P ρ ns) (hk : Kept T w w') (hT : ∀ j, j < w.heap.size → S j → ¬ T j) (hS : ∀ j, j < w.heap.size → S j → S' j) : Ar w' base S' P ρ ns :=
  ⟨h.len, h.sub, fun i hi => (h.part i hi).kept hk hT hS, h.nd, h.low⟩
/-- One more. -/
theorem Ar.push {w : World} {base : Nat} {S : Nat → Prop} {P : List Nat} {ρ : Nat → Int} {ns : List Nd} {N : Nd} {k : Nat} (h : Ar w base S P ρ ns) (hN : PartIs w base S P (ρ ns.length) N k) (hs : ∀ j ∈ N.subs, j < ns.length) (hnew : k ∉ P) (hlow : base ≤ k) : Ar w base S (P ++ [k]) ρ (ns ++ [N]) := by
  refine ⟨by simp [h.len], fun i hi => ?_, fun i hi => ?_, ?_, fun x hx => (List.mem_append.1 hx).elim (h.low x) (fun y => by rw [List.mem_singleton.1 y]; exact hlow)⟩
  rotate_left 2
  · rw [List.nodup_append]
    refine ⟨h.nd, by simp, fun a ha b hb e => ?_⟩
    rw [List.mem_singleton.1 hb] at e
    exact hnew (e ▸ ha)
  · by_cases h1 : i < ns.length
    · rw [List.getElem_append_left h1]; exact h.sub i h1
    · have : i = ns.length := by simp at hi; omega
      subst this
      rw [List.getElem_append_right (Nat.le_refl _)]
      simpa using hs
  · by_cases h1 : i < ns.length
    · rw [List.getElem_append_left h1, getD_app_l (by rw [h.len]; exact h1)]
      exact (h.part i h1).ext (fun j hj => by have := h.sub i h1 j hj; rw [h.len]; omega) _
    · have : i = ns.length := by simp at hi; omega
      subst this
      rw [List.getElem_append_right (Nat.le_refl _), getD_app_r (by rw [h.len]; exact Nat.le_refl _)]
      simp only [h.len, Nat.sub_self, List.getElem_cons_zero, List.getD_cons_zero]
      exact hN.ext (fun j hj => by rw [h.len]; exact hs j hj) _

/-- A name as it stands in the text. -/
structure Mn where
  name : List UInt8
  at_ : Nat
  part : Option Nat
def mnC (P : List Nat) (m : Mn) : List Value := [.string (ba m.name), .int .i64 (m.at_ : Int), .pointer (m.part.map fun i => ⟨P.getD i 0, 0, none⟩)]
/-- The names that stand in some nodes. -/
def mns : Nat → List Nd → List Mn
  | _, [] => []
  | o, N :: l => (if N.kind = 3 then [⟨N.name, N.at_, some o⟩] else []) ++ mns (o + 1) l
theorem mns_app : ∀ (l m : List Nd) (o : Nat), mns o (l ++ m) = mns o l ++ mns (o + l.length) m
  | [], m, o => by simp [mns]
  | N :: l, m, o => by
    rw [List.cons_append, mns, mns, mns_app l m (o + 1), List.append_assoc, List.length_cons, show o + 1 + l.length = o + (l.length + 1) by omega]

theorem mns_len : ∀ (l : List Nd) (o : Nat), (mns o l).length ≤ l.length
  | [], o => by simp [mns]
  | N :: l, o => by
    have := mns_len l (o + 1)
    rw [mns, List.length_append, List.length_cons]
    split <;> simp <;> omega

/-- The brackets' numbers, and that what stands in something else and is a choice is a bracket. -/
structure Bk (w : World) (P L : List Nat) (ns : List Nd) : Prop where
  num : ∀ k (h : k < L.length), L[k] ∈ P ∧ w.cell? ⟨L[k], 3, none⟩ = some (.int .i64 (k : Int))
  sub : ∀ i (h : i < ns.length), ∀ j ∈ ns[i].subs, (ns.getD j nd0).kind = 4 → P.getD j 0 ∈ L
theorem Bk.kept {w w' : World} {base : Nat} {S T : Nat → Prop} {P L : List Nat} {ρ : Nat → Int} {ns : List Nd} (h : Bk w P L ns) (ar : Ar w base S P ρ ns) (hk : Kept T w w') (hT : ∀ j, j < w.heap.size → S j → ¬ T j) : Bk w' P L ns := by
  refine ⟨fun k hk' => ⟨(h.num k hk').1, ?_⟩, h.sub⟩
  rw [← (h.num k hk').2]
  have hm := (h.num k hk').1
  generalize L[k] = x at hm ⊢
  obtain ⟨i, hi, rfl⟩ := List.getElem_of_mem hm
  have hp := ar.part i (by rw [← ar.len]; exact hi)
  have he : P.getD i 0 = P[i] := by simp [List.getD, List.getElem?_eq_getElem hi]
  rw [he] at hp
  obtain ⟨z, vR, vP, h1, h2, _⟩ := hp
  have hlt := objAt_lt (show objAt w P[i] = _ from h1)
  have := hk.block P[i] hlt (hT _ hlt h2)
  simp only [World.cell?, this]
/-- One more part. -/
theorem Bk.push {w : World} {P L : List Nat} {ns : List Nd} (h : Bk w P L ns) (hl : P.length = ns.length) (hs0 : ∀ i (h : i < ns.length), ∀ j ∈ ns[i].subs, j < i) (k : Nat) (N : Nd) (hs : ∀ j ∈ N.subs, j < ns.length ∧ ((ns.getD j nd0).kind = 4 → P.getD j 0 ∈ L)) : Bk w (P ++ [k]) L (ns ++ [N]) := by
  refine ⟨fun q hq => ⟨List.mem_append_left _ (h.num q hq).1, (h.num q hq).2⟩, fun i hi j hj hk => ?_⟩
  by_cases h1 : i < ns.length
  · rw [List.getElem_append_left h1] at hj
    have h2 := hs0 i h1 j hj
    rw [getD_app_l (by omega)] at hk
    rw [getD_app_l (by omega)]
    exact h.sub i h1 j hj hk
  · have h2 : i = ns.length := by simp at hi; omega
    subst h2
    rw [List.getElem_append_right (Nat.le_refl _)] at hj
    simp only [Nat.sub_self, List.getElem_cons_zero] at hj
    have h3 := hs j hj
    rw [getD_app_l h3.1] at hk
    rw [getD_app_l (by omega)]
    exact h3.2 hk
theorem Bk.le {w : World} {base : Nat} {S : Nat → Prop} {P L : List Nat} {ρ : Nat → Int} {ns : List Nd} (h : Bk w P L ns) (ar : Ar w base S P ρ ns) : ∀ x ∈ L, x < w.heap.size := by
  intro x hx
  obtain ⟨i, hi, rfl⟩ := List.getElem_of_mem hx
  exact ar.lt _ (h.num i hi).1
theorem Bk.nodup {w : World} {P L : List Nat} {ns : List Nd} (h : Bk w P L ns) : L.Nodup := by
  unfold List.Nodup
  rw [List.pairwise_iff_getElem]
  intro i j hi hj hij e
  have h1 := (h.num i hi).2
  have h2 := (h.num j hj).2
  rw [e, h2] at h1
  simp at h1
  omega
theorem sub_len : ∀ (L P : List Nat), L.Nodup → (∀ x ∈ L, x ∈ P) → L.length ≤ P.length
  | [], P, _, _ => Nat.zero_le _
  | a :: L, P, h1, h2 => by
    obtain ⟨h3, h4⟩ := List.nodup_cons.1 h1
    have hm := h2 a (by simp)
    have := sub_len L (P.erase a) h4 (fun x hx => by
      have hne : x ≠ a := fun e => h3 (e ▸ hx)
      exact (List.mem_erase_of_ne hne).2 (h2 x (by simp [hx])))
    rw [List.length_erase_of_mem hm] at this
    have := List.length_pos_of_mem hm
    simp; omega
theorem Bk.len {w : World} {P L : List Nat} {ns : List Nd} (h : Bk w P L ns) : L.length ≤ P.length :=
  sub_len L P h.nodup (fun x hx => by
    obtain ⟨i, hi, rfl⟩ := List.getElem_of_mem hx
    exact (h.num i hi).1)

/-- The code's reader with its parts and its names. -/
structure CR (w : World) (base b : Nat) (s : ByteArray) (mv : Mv) (T : Nat → Prop) (P : List Nat) (ms : List Mn) (A : St) : Prop where
  ris : Ris w b s mv A.sc
  own : w.ownsRow base 198 3 mv.v ms.length (ms.flatMap (mnC P))
  nb : mv.v.ownBlock ≠ some b
  ar : Ar w base (fun k => k ≠ b ∧ mv.v.ownBlock ≠ some k ∧ ¬ T k) P (fun _ => 0) A.ns
  told : ∀ k, T k → k < w.heap.size
  mlt : ∀ m ∈ ms, ∀ i, m.part = some i → i < P.length
  bb : base ≤ b
  t40 : A.sc.t ≤ 40
  mlen : ms.length ≤ A.ns.length + 8
  bk : Bk w P mv.L A.ns

/-- What a piece of the reading changes. -/
structure Cs (b : Nat) (mv mv' : Mv) (w w' : World) : Prop where
  kept : Kept (fun k => k = b ∨ mv.v.ownBlock = some k) w w'
  own : ∀ k, mv'.v.ownBlock = some k → mv.v.ownBlock = some k ∨ w.heap.size ≤ k
  pre : ∃ t, mv'.L = mv.L ++ t
theorem Cs.refl (b : Nat) (mv : Mv) (w : World) : Cs b mv mv w w := ⟨Kept.refl _ _, fun _ h => .inl h, [], by simp⟩
theorem Cs.only {b : Nat} {mv : Mv} {w w' : World} (h : Kept (· = b) w w') : Cs b mv mv w w' := ⟨h.mono (fun _ _ h => .inl h), fun _ h => .inl h, [], by simp⟩
theorem Cs.trans {b : Nat} {mv mv1 mv2 : Mv} {w w1 w2 : World} (h : Cs b mv mv1 w w1) (k : Cs b mv1 mv2 w1 w2) : Cs b mv mv2 w w2 := by
  refine ⟨⟨k.kept.os.trans h.kept.os, k.kept.tape.trans h.kept.tape, k.kept.output.trans h.kept.output, Nat.le_trans h.kept.size k.kept.size, fun i hi hn => ?_⟩, fun j hj => ?_, ?_⟩
  · rw [k.kept.block i (Nat.lt_of_lt_of_le hi h.kept.size) (fun hx => ?_), h.kept.block i hi hn]
    rcases hx with hx | hx
    · exact hn (.inl hx)
    · rcases h.own i hx with hy | hy
      · exact hn (.inr hy)
      · omega
  · rcases k.own j hj with hx | hx
    · exact h.own j hx
    · exact .inr (Nat.le_trans h.kept.size hx)
  · obtain ⟨t, ht⟩ := h.pre
    obtain ⟨u, hu⟩ := k.pre
    exact ⟨t ++ u, by rw [hu, ht, List.append_assoc]⟩

end Go.Proofs.YtagklnaaoclmhaaGreatDoor

namespace Go.Proofs.YtagklnaaoclmhaaGreatDoor
open Go.RowKit

/-- The code's reader stands at what is wrong. -/
def Fails (w w' : World) (b : Nat) (s : ByteArray) (mv : Mv) (x : Int) : Prop := ∃ mv' g', Ris w' b s mv' g' ∧ (g'.at_ : Int) = x ∧ Cs b mv mv' w w'

theorem ba_extract (s : ByteArray) (a c : Nat) (hc : c ≤ s.size) : s.extract a c = ba ((s.data.toList.drop a).take (c - a)) := by
  apply ByteArray.ext
  simp only [ba, ByteArray.data_extract]
  apply Array.toList_inj.1
  simp [Array.toList_extract, List.extract_eq_take_drop]

theorem nx_letter {s : ByteArray} {g : Sc} (hb : g.bad < 0) (ha : g.at_ ≤ s.size) : letterB (nx s g.at_) = letterB (pk s g : Int) := by
  unfold nx pk
  by_cases h : g.at_ = s.size
  · rw [if_pos h, if_neg (by omega)]; decide
  · rw [if_neg h, if_pos ⟨hb, by omega⟩]

theorem info75 : (Tryz.prog.info? 198).map (fun i => (i.zero, i.size, i.bytes)) = some (some (.agg #[.string ⟨#[]⟩, .int .i64 0, .pointer none]), 3, 32) := by kernel_rfl

theorem take_byte {s : ByteArray} {a k : Nat} (h : a + k < s.size) : (s.data.toList.drop a).take (k + 1) = (s.data.toList.drop a).take k ++ [(byteAt s (a + k)).toUInt8] := by
  have h1 : k < (s.data.toList.drop a).length := by simp; exact Nat.lt_sub_of_add_lt (by rw [Nat.add_comm]; exact h)
  rw [List.take_succ_eq_append_getElem h1]
  congr 2
  rw [List.getElem_drop]
  unfold byteAt
  have h2 : a + k < s.data.toList.length := by simpa using h
  simp only [List.getD, List.getElem?_eq_getElem h2, Option.getD_some]
  simp

/-- What name leaves. -/
structure NameOut (base b : Nat) (s : ByteArray) (mv : Mv) (n0 : Nat) (xs : List Value) (g : Sc) (q : Option Addr) (w : World) (L : List UInt8 × Sc) (e : Ending) (w' : World) : Prop where
  res : ∃ t, e = .returned (.tuple #[.string t, .bool (decide (L.2.bad < 0))]) ∧ (L.2.bad < 0 → t = ba L.1)
  ok : L.2.bad < 0 → ∃ mv' : Mv, Ris w' b s mv' L.2 ∧ w'.ownsRow base 198 3 mv'.v (n0 + 1) (xs ++ [.string (ba L.1), .int .i64 (g.at_ : Int), .pointer q]) ∧ mv'.v.ownBlock ≠ some b ∧ Cs b mv mv' w w' ∧ mv'.L = mv.L
  no : 0 ≤ L.2.bad → Fails w w' b s mv L.2.bad

set_option maxRecDepth 100000 in
set_option maxHeartbeats 1600000 in
theorem name_any (base b : Nat) (s : ByteArray) (mv : Mv) (n0 : Nat) (xs : List Value) (g : Sc) (q : Option Addr) (w : World) (hR : Ris w b s mv g) (hO : w.ownsRow base 198 3 mv.v n0 xs) (hnb : mv.v.ownBlock ≠ some b) (hbb : base ≤ b) (hs : s.size ≤ 400) (hi : Iv s g) (hb : g.bad < 0) (hn0 : n0 ≤ 5000) :
    Calls Tryz.prog 139 #[.pointer (some ⟨b, 0, none⟩), .pointer q] w fun e w' => NameOut base b s mv n0 xs g q w (wd s 10 [] g) e w' := by
  obtain ⟨i0, hi0, hz0, hz1, hz2⟩ := info_parts info75
  obtain ⟨L, hL⟩ : ∃ L, wd s 10 [] g = L := ⟨_, rfl⟩
  have HL : Hid (wd s (8 + 2) ((s.data.toList.drop g.at_).take 0) { g with at_ := g.at_ } = L) := hL
  rw [hL]
  clear hL
  have hga := hi.1 hb
  obtain ⟨c0, c1, c2, c3, c4⟩ := hR.cells
  go_enter Tryz.func139, Tryz.ntmps139
  go_wp2
  clear c0 c1 c2 c3 c4
  go_loopg [] 8 (fun n wx => ∃ k a6, Hid (k + n = 8) ∧ Hid (a6 = g.at_ + k) ∧ a6 ≤ s.size ∧ Ris wx b s mv { g with at_ := a6 } ∧ Kept (· = b) w wx ∧ Hid (wd s (n + 2) ((s.data.toList.drop g.at_).take k) { g with at_ := a6 } = L))
  case atStart => exact ⟨0, g.at_, rfl, rfl, hga, hR, Kept.refl _ _, HL.out⟩
  case round =>
    obtain ⟨k, a6, hk, ha6, hka, hR6, hK6, HR⟩ := hrel
    obtain ⟨m, hm⟩ : ∃ m, m = gk := ⟨gk, rfl⟩
    subst hm
    have hle : ((s.data.toList.drop g.at_).take k).length = k := by
      rw [List.length_take, List.length_drop]
      have : s.data.toList.length = s.size := Array.length_toList
      have := ha6.out
      omega
    have hnl := nx_letter (s := s) (g := { g with at_ := a6 }) hb hka
    have hpka : letterB (pk s { g with at_ := a6 } : Int) = true → a6 < s.size ∧ pk s { g with at_ := a6 } = byteAt s a6 := by
      intro h
      obtain ⟨p1, p2, p3⟩ := pk_pos (s := s) (g := { g with at_ := a6 }) (letterB_pos h)
      exact ⟨p2, p3⟩
    have h1 := HR.out
    rw [wd, hle] at h1
    go_wp2_with fail
    refine (next_any b s mv _ _ hR6 hs hka).mono ?_
    rintro e w7 ⟨rfl, n7, rfl⟩
    go_wp2_with fail
    refine (isLetter_any _ _).mono ?_
    rintro e w8 ⟨rfl, rfl⟩
    have hR7 := hR6.drewN n7
    have hK7 := hK6.drewN n7
    obtain ⟨c0, c1, c2, c3, c4⟩ := hR7.cells
    obtain ⟨d0, d1, d2, d3, d4⟩ := hR6.cells
    have hf := hR7.frozen 1
    have hf4 := hR7.frozen 5
    dsimp only at *
    rw [hnl]
    clear hnl HR HL
    generalize nx s a6 = xx at *
    cases hlb : letterB (pk s { g with at_ := a6 } : Int)
    · rw [hlb] at h1
      simp only [Bool.false_eq_true, if_false] at h1
      by_cases hk0 : k = 0
      · have hL1 : L = ([], { g with at_ := a6, bad := (a6 : Int) }) := by
          rw [← h1, hk0]; simp [wr_eq (g := { g with at_ := a6 }) hb]
        subst hL1
        have q1 : ((a6 : Int) == (g.at_ : Int)) = true := beq_iff_eq.2 (by have := ha6.out; omega)
        clear h1 hpka
        go_wp2
        go_ret2
        exact ⟨⟨⟨#[]⟩, by simp [show ¬ ((a6 : Int) < 0) by omega], fun h => absurd h (by simp)⟩, fun h => absurd h (by simp), fun _ => ⟨mv, _, hR7, rfl, Cs.only hK7⟩⟩
      · obtain ⟨acc, hacc⟩ : ∃ acc, acc = (s.data.toList.drop g.at_).take k := ⟨_, rfl⟩
        rw [← hacc] at h1 hle
        have hL1 : L = (acc, { g with at_ := a6 }) := by
          rw [← h1, if_neg]
          intro h; rw [h] at hle; simp at hle; omega
        subst hL1
        have q1 : ((a6 : Int) == (g.at_ : Int)) = false := beq_eq_false_iff_ne.2 (by have := ha6.out; omega)
        have hex := ba_extract s g.at_ a6 hka
        rw [show a6 - g.at_ = k by have := ha6.out; omega] at hex
        rw [← hacc] at hex
        clear h1 hpka hacc
        have hle2 : g.at_ ≤ a6 := by have := ha6.out; omega
        go_wp2
        have hO6 := own_kept hO hK6 (fun i hi' h => hnb (by rw [hi', h]))
        have hbw := hR.lt
        have hz6 := hK6.size
        go_quiet (fail)
        go_wp2_with (at_builtin; refine wpList_append_lies _ rfl _ _ _ rfl base 198 i0 _ 3 32 Tryz.underlying136 hi0 hz0 hz1 hz2 rfl (by omega) mv.v n0 xs (by rfl) ((show (wr.drewN (n7 + nq)).ownsRow base 198 3 mv.v n0 xs from hO6).alloc _) ⟨wr.heap.size, 0, none⟩ 1 1 [.string (ba acc), .int .i64 (g.at_ : Int), .pointer q] (by rfl) rfl (World.news_of_block (cs := #[.string (ba acc), .int .i64 (g.at_ : Int), .pointer q]) (t := 198) (fr := (0, 0)) (heap_alloc_new (wr.drewN (n7 + nq)) _)) (by simp [Value.oneCell']) (by omega) (by simp [maxLen]; omega) (by omega) (by simp; omega) (wr.heap.size + 1) (by simp) ?_; intro gg cap w9 hown hgrow hat hlt; have hk9 : Kept (fun k => mv.v.ownBlock = some k) (wr.drewN (n7 + nq)) w9 := ((Kept.refl _ _).alloc _).grown hgrow (fun k hk _ => hk); have hR9 : Ris w9 b s mv { g with at_ := a6 } := (hR6.drewN (n7 + nq)).kept hk9 hnb; obtain ⟨f0, f1, f2, f3, f4⟩ := hR9.cells; have hf9 := hR9.frozen 5)
        have hne : some b ≠ some gg := by
          rcases hat with h | h
          · rw [← h]; exact fun h' => hnb h'.symm
          · intro h'; have := Option.some.inj h'; omega
        go_ret2
        refine ⟨⟨ba acc, by simp [hb], fun _ => rfl⟩, fun _ => ⟨⟨.slice (some ⟨gg, 0, none⟩) (n0 + 1) cap, mv.L⟩, hR9.setM _, ?_, fun h => hne h.symm, ?_, rfl⟩, fun h => absurd (show 0 ≤ g.bad from h) (by omega)⟩
        · exact own_kept hown (((Kept.refl (· = b) w9).setCell (p := ⟨b, 5, none⟩) (fun _ => rfl) _)) (fun i hi' h => hne (by rw [← h]; exact hi'.symm))
        · refine ⟨((((hK6.drewN (n7 + nq)).mono (fun _ _ h => Or.inl h)).alloc _).grown hgrow (fun k hk _ => Or.inr hk)).setCell (p := ⟨b, 5, none⟩) (fun _ => Or.inl rfl) _, fun i hi' => ?_, [], by simp⟩
          have : gg = i := Option.some.inj hi'
          subst this
          rcases hat with h | h
          · exact .inl h
          · right; omega
    · rw [hlb] at h1
      simp only [if_true] at h1
      obtain ⟨hp1, hp2⟩ := hpka hlb
      by_cases hk8 : k = 8
      · rw [if_pos hk8] at h1
        have hL1 : L = ((s.data.toList.drop g.at_).take k, { g with at_ := a6, bad := (a6 : Int) }) := by
          rw [← h1, wr_eq (g := { g with at_ := a6 }) hb]
        subst hL1
        have q1 : (((a6 : Int) - (g.at_ : Int)) == 8) = true := beq_iff_eq.2 (by have := ha6.out; omega)
        clear h1 hpka
        go_wp2
        go_ret2
        exact ⟨⟨⟨#[]⟩, by simp [show ¬ ((a6 : Int) < 0) by omega], fun h => absurd h (by simp)⟩, fun h => absurd h (by simp), fun _ => ⟨mv, _, hR7, rfl, Cs.only hK7⟩⟩
      · rw [if_neg hk8, hp2] at h1
        have H1 := hide h1
        have q1 : (((a6 : Int) - (g.at_ : Int)) == 8) = false := beq_eq_false_iff_ne.2 (by have := ha6.out; omega)
        have htb := take_byte (s := s) (a := g.at_) (k := k) (by have := ha6.out; omega)
        rw [← ha6.out] at htb
        have HT := hide htb
        have HK := hk
        clear h1 hpka htb
        go_wp2
        go_roundg (m - 1)
        case measure => have := HK.out; omega
        case rel =>
          have := HK.out
          have := ha6.out
          refine ⟨k + 1, a6 + 1, by unfold Hid; omega, by unfold Hid; omega, by omega, hR7.setAt _, hK7.setCell (fun _ => rfl) _, ?_⟩
          rw [HT.out, show m - 1 + 2 = m + 1 by omega]
          exact H1.out
end Go.Proofs.YtagklnaaoclmhaaGreatDoor

namespace Go.Proofs.YtagklnaaoclmhaaGreatDoor
open Go.RowKit

theorem mnC_ext {P : List Nat} {ms : List Mn} (h : ∀ m ∈ ms, ∀ i, m.part = some i → i < P.length) (l : List Nat) : ms.flatMap (mnC (P ++ l)) = ms.flatMap (mnC P) := by
  have : ∀ m ∈ ms, mnC (P ++ l) m = mnC P m := by
    intro m hm
    unfold mnC
    cases hp : m.part with
    | none => rfl
    | some i => simp only [Option.map_some]; rw [getD_app_l (h m hm i hp)]
  simp only [List.flatMap_def]
  rw [List.map_congr_left this]

/-- Where only the reader's own numbers changed (and new blocks came). -/
theorem CR.only {w w' : World} {base b : Nat} {s : ByteArray} {mv : Mv} {T : Nat → Prop} {P : List Nat} {ms : List Mn} {A : St} (h : CR w base b s mv T P ms A) (hk : Kept (· = b) w w') {g : Sc} (hR : Ris w' b s mv g) (ht : g.t ≤ 40) : CR w' base b s mv T P ms { A with sc := g } :=
  ⟨hR, own_kept h.own hk (fun i hi e => h.nb (by rw [hi, e])), h.nb, h.ar.kept hk (fun _ _ x => x.1) (fun _ _ x => x), fun k hk' => Nat.lt_of_lt_of_le (h.told k hk') hk.size, h.mlt, h.bb, ht, h.mlen, h.bk.kept h.ar hk (fun _ _ x => x.1)⟩
theorem CR.lt {w : World} {base b : Nat} {s : ByteArray} {mv : Mv} {T : Nat → Prop} {P : List Nat} {ms : List Mn} {A : St} (h : CR w base b s mv T P ms A) : b < w.heap.size := h.ris.lt

/-- One more part. -/
theorem CR.add {w : World} {base b : Nat} {s : ByteArray} {mv : Mv} {T : Nat → Prop} {P : List Nat} {ms : List Mn} {A : St} (h : CR w base b s mv T P ms A) (N : Nd) {vR vP : Value}
    (h1 : w.ownsRow base 321 2 vR N.rng.length (N.rng.flatMap rgV)) (h2 : ∀ j, vR.ownBlock = some j → j ≠ b ∧ mv.v.ownBlock ≠ some j ∧ ¬ T j)
    (h3 : w.ownsRow base 187 1 vP N.subs.length (N.subs.map (ptrAt P))) (h4 : ∀ j, vP.ownBlock = some j → j ≠ b ∧ mv.v.ownBlock ≠ some j ∧ ¬ T j) (hs : ∀ j ∈ N.subs, j < A.ns.length) (hs4 : ∀ j ∈ N.subs, (A.ns.getD j nd0).kind = 4 → P.getD j 0 ∈ mv.L) :
    CR (w.alloc (.cells (ptC (kcode N.kind) 0 (N.term : Int) (ba N.text) vR vP) 203)) base b s mv T (P ++ [w.heap.size]) ms { A with ns := A.ns ++ [N] } := by
  have hk : Kept (fun _ => False) w (w.alloc (.cells (ptC (kcode N.kind) 0 (N.term : Int) (ba N.text) vR vP) 203)) := (Kept.refl _ _).alloc _
  have hb := h.lt
  refine ⟨h.ris.alloc _, ?_, h.nb, ?_, fun k hk' => Nat.lt_of_lt_of_le (h.told k hk') hk.size, fun m hm i hi => by have := h.mlt m hm i hi; simp; omega, h.bb, h.t40, by have := h.mlen; simp; omega, (h.bk.kept h.ar hk (fun _ _ _ x => x)).push h.ar.len h.ar.sub _ _ (fun j hj => ⟨hs j hj, hs4 j hj⟩)⟩
  · rw [mnC_ext h.mlt]; exact h.own.alloc _
  · refine (h.ar.kept hk (fun _ _ _ x => x) (fun _ _ x => x)).push ⟨0, vR, vP, heap_alloc_new _ _, ⟨by omega, fun hx => ?_, fun hx => Nat.lt_irrefl _ (h.told _ hx)⟩, h1.alloc _, h2, h3.alloc _, h4⟩ hs (fun hx => Nat.lt_irrefl _ (h.ar.lt _ hx)) (by have := h.bb; omega)
    have := (h.own.lt _ hx).2; omega

/-- A bracket gets its number. -/
theorem CR.setBrk {w : World} {base b : Nat} {s : ByteArray} {mv : Mv} {T : Nat → Prop} {P : List Nat} {ms : List Mn} {A : St} (h : CR w base b s mv T P ms A) {x : Nat} (hx : x < A.ns.length) (hL : P.getD x 0 ∉ mv.L) : CR ((w.setCell ⟨P.getD x 0, 3, none⟩ (.int .i64 (mv.L.length : Int))).setCell ⟨b, 3, none⟩ (.int .i64 ((mv.L.length : Int) + 1))) base b s ⟨mv.v, mv.L ++ [P.getD x 0]⟩ T P ms A := by
  obtain ⟨z, hz⟩ : ∃ z : Int, z = (mv.L.length : Int) := ⟨_, rfl⟩
  rw [← hz]
  obtain ⟨z0, vR, vP, h1, h2, _⟩ := h.ar.part x hx
  have hk : Kept (· = P.getD x 0) w (w.setCell ⟨P.getD x 0, 3, none⟩ (.int .i64 z)) := (Kept.refl (· = P.getD x 0) w).setCell (p := ⟨P.getD x 0, 3, none⟩) (fun _ => rfl) _
  have hty : ∀ (e size n : Nat) (v : Value) (xs : List Value), e ≠ 203 → w.ownsRow base e size v n xs → v.ownBlock ≠ some (P.getD x 0) := by
    intro e size n v xs he ho hv
    obtain ⟨c, hc⟩ := ownsRow_obj ho hv
    rw [show objAt w (P.getD x 0) = _ from h1] at hc
    simp at hc
    exact he hc.2.symm
  have hk2 : Kept (· = b) (w.setCell ⟨P.getD x 0, 3, none⟩ (.int .i64 z)) ((w.setCell ⟨P.getD x 0, 3, none⟩ (.int .i64 z)).setCell ⟨b, 3, none⟩ (.int .i64 (z + 1))) := (Kept.refl (· = b) _).setCell (p := ⟨b, 3, none⟩) (fun _ => rfl) _
  have hR2 := (h.ris.kept hk (fun e => h2.1 e.symm)).setB (P.getD x 0)
  rw [← hz] at hR2
  have hAr : Ar (w.setCell ⟨P.getD x 0, 3, none⟩ (.int .i64 z)) base (fun k => k ≠ b ∧ mv.v.ownBlock ≠ some k ∧ ¬ T k) P (fun _ => 0) A.ns := ⟨h.ar.len, h.ar.sub, fun i hi => ?_, h.ar.nd, h.ar.low⟩
  · refine ⟨hR2, own_kept (own_kept h.own hk (fun i hi e => h2.2.1 (by rw [← e]; exact hi))) hk2 (fun i hi e => h.nb (by rw [← e]; exact hi)), h.nb, hAr.kept hk2 (fun _ _ x => x.1) (fun _ _ x => x), fun k hk' => by have := h.told k hk'; simpa using this, h.mlt, h.bb, h.t40, h.mlen, ?_⟩
    refine Bk.kept (S := fun k => k ≠ b ∧ mv.v.ownBlock ≠ some k ∧ ¬ T k) ⟨fun k hk' => ?_, fun i hi j hj hk' => List.mem_append_left _ (h.bk.sub i hi j hj hk')⟩ hAr hk2 (fun _ _ x => x.1)
    by_cases hkl : k < mv.L.length
    · simp only [List.getElem_append_left hkl]
      refine ⟨(h.bk.num k hkl).1, ?_⟩
      rw [← (h.bk.num k hkl).2]
      have hne : mv.L[k] ≠ P.getD x 0 := fun e => hL (e ▸ List.getElem_mem hkl)
      have := hk.block mv.L[k] (h.bk.le h.ar _ (List.getElem_mem hkl)) hne
      simp only [World.cell?, this]
    · have hke : k = mv.L.length := by simp at hk'; omega
      subst hke
      simp only [List.getElem_append_right (Nat.le_refl _), Nat.sub_self, List.getElem_cons_zero]
      refine ⟨?_, ?_⟩
      · have : x < P.length := by rw [h.ar.len]; exact hx
        simp [List.getD, List.getElem?_eq_getElem this]
      · rw [← hz]
        simp only [World.cell?, heap_set_at h1]; simp [ptB]
  obtain ⟨z1, vR1, vP1, g1, g2, g3, g4, g5, g6⟩ := h.ar.part i hi
  by_cases he : P.getD i 0 = P.getD x 0
  · refine ⟨z, vR1, vP1, ?_, g2, own_kept g3 hk (fun j hj e => hty _ _ _ _ _ (by decide) g3 (by rw [hj, e])), g4, own_kept g5 hk (fun j hj e => hty _ _ _ _ _ (by decide) g5 (by rw [hj, e])), g6⟩
    rw [← he, heap_set_at g1]
    simp [ptB]
  · refine ⟨z1, vR1, vP1, ?_, g2, own_kept g3 hk (fun j hj e => hty _ _ _ _ _ (by decide) g3 (by rw [hj, e])), g4, own_kept g5 hk (fun j hj e => hty _ _ _ _ _ (by decide) g5 (by rw [hj, e])), g6⟩
    rw [Below.heap_setCell _ _ _ _ (show P.getD i 0 ≠ _ from he)]; exact g1

theorem own_le {w : World} {base base' e size n : Nat} {v : Value} {xs : List Value} (h : w.ownsRow base e size v n xs) (hb : base' ≤ base) : w.ownsRow base' e size v n xs := by
  refine ⟨h.1, ?_⟩
  rcases h.2 with hv | ⟨g, cap, cur, hv, hg, rest⟩
  · exact .inl hv
  · exact .inr ⟨g, cap, cur, hv, Nat.le_trans hb hg, rest⟩

/-- What a function leaves that reads a part. -/
structure POut (base b : Nat) (s : ByteArray) (mv : Mv) (T : Nat → Prop) (P : List Nat) (ms : List Mn) (A : St) (w : World) (X : St × Nat) (e : Ending) (w' : World) : Prop where
  ok : X.1.sc.bad < 0 → ∃ mv' P2 l, e = .returned (.tuple #[ptrAt (P ++ P2) X.2, .bool true]) ∧ X.1.ns = A.ns ++ l ∧ CR w' base b s mv' T (P ++ P2) (ms ++ mns A.ns.length l) X.1 ∧ Cs b mv mv' w w' ∧ X.2 < X.1.ns.length ∧ ((X.1.ns.getD X.2 nd0).kind = 4 → (P ++ P2).getD X.2 0 ∈ mv'.L)
  no : 0 ≤ X.1.sc.bad → ∃ v, e = .returned (.tuple #[v, .bool false]) ∧ Fails w w' b s mv X.1.sc.bad

theorem lit_bad {s : ByteArray} {g : Sc} (h : 0 ≤ g.bad) : (lit s g).2.bad = g.bad := by unfold lit; rw [litF_bad h]; rfl
theorem set_bad {s : ByteArray} {g : Sc} (h : 0 ≤ g.bad) : (set s g).2.bad = g.bad := by unfold set; rw [setF_bad h]; rfl
theorem tm_plain {g : Sc} (h : g.t ≠ 40) : tm g = { g with at_ := g.at_ + 1, t := g.t + 1 } := by unfold tm; rw [if_neg h]; rfl
theorem tm_bad {g : Sc} (h : g.t = 40) (hb : g.bad < 0) : (tm g).bad = g.at_ := by unfold tm; rw [if_pos h, wr_eq hb]; rfl

/-- terminal, as the ref's part has it. -/
def tmM (s : ByteArray) (A : St) : St × Nat :=
  if pk s A.sc = 46 then addN { A with sc := tm A.sc } { nd0 with kind := 2, term := A.sc.t }
  else if pk s A.sc = 39 then addN { A with sc := (lit s (tm A.sc)).2 } { nd0 with kind := 0, text := (lit s (tm A.sc)).1, term := A.sc.t }
  else addN { A with sc := (set s (tm A.sc)).2 } { nd0 with kind := 1, rng := (set s (tm A.sc)).1, term := A.sc.t }

theorem mns_none {o : Nat} {N : Nd} (h : N.kind ≠ 3) : mns o [N] = [] := by simp [mns, h]
theorem POut.one {w w' : World} {base b : Nat} {s : ByteArray} {mv : Mv} {T : Nat → Prop} {P : List Nat} {ms : List Mn} {A : St} {N : Nd} {g : Sc} {k : Nat} {e : Ending} (hg : g.bad < 0) (hk3 : N.kind ≠ 3) (hk4 : N.kind ≠ 4) (hl : P.length = A.ns.length)
    (hC : CR w' base b s mv T (P ++ [k]) ms ⟨g, A.ns ++ [N]⟩) (hS : Cs b mv mv w w') (he : e = .returned (.tuple #[.pointer (some ⟨k, 0, none⟩), .bool true])) : POut base b s mv T P ms A w (addN { A with sc := g } N) e w' := by
  refine ⟨fun _ => ⟨mv, [k], [N], ?_, rfl, ?_, hS, by simp [addN], ?_⟩, fun h => absurd (show 0 ≤ g.bad from h) (by omega)⟩
  · rw [he]; unfold ptrAt addN; simp only; rw [getD_app_r (by omega), hl]; simp
  · rw [mns_none hk3, List.append_nil]; exact hC
  · intro h4; exact absurd (by simpa [addN] using h4) hk4

set_option maxRecDepth 100000 in
set_option maxHeartbeats 1600000 in
theorem termT_any (base b : Nat) (s : ByteArray) (mv : Mv) (T : Nat → Prop) (P : List Nat) (ms : List Mn) (A : St) (w : World) (hC : CR w base b s mv T P ms A) (hs : s.size ≤ 400) (hi : Iv s A.sc) (hb : A.sc.bad < 0)
    (hp : pk s A.sc = 46 ∨ pk s A.sc = 39 ∨ pk s A.sc = 91) :
    Calls Tryz.prog 202 #[.pointer (some ⟨b, 0, none⟩)] w fun e w' => POut base b s mv T P ms A w (tmM s A) e w' := by
  obtain ⟨c0, c1, c2, c3, c4⟩ := hC.ris.cells
  have hf := hC.ris.frozen 2
  have ht := hC.t40
  by_cases h40 : A.sc.t = 40
  · have HB : Hid ((tmM s A).1.sc.bad = A.sc.at_) := by
      have h1 := tm_bad h40 hb
      unfold Hid tmM
      split
      · exact h1
      · split
        · show (lit s (tm A.sc)).2.bad = _
          rw [lit_bad (by omega)]; exact h1
        · show (set s (tm A.sc)).2.bad = _
          rw [set_bad (by omega)]; exact h1
    go_enter Tryz.func202, Tryz.ntmps202
    go_wp2
    go_ret2
    exact ⟨fun h => absurd h (by rw [HB.out]; omega), fun _ => ⟨_, rfl, mv, A.sc, hC.ris, by rw [HB.out], Cs.refl _ _ _⟩⟩
  · have hT := tm_plain h40
    have q40 : ((A.sc.t : Int) == 40) = false := beq_eq_false_iff_ne.2 (by omega)
    have hR1 : Ris (w.setCell ⟨b, 2, none⟩ (.int .i64 ((A.sc.t + 1 : Nat) : Int))) b s mv { A.sc with t := A.sc.t + 1 } := hC.ris.setT _
    have hC1 := hC.only ((Kept.refl (· = b) w).setCell (p := ⟨b, 2, none⟩) (fun _ => rfl) (.int .i64 ((A.sc.t + 1 : Nat) : Int))) hR1 (show A.sc.t + 1 ≤ 40 by omega)
    have hK1 : Kept (· = b) w (w.setCell ⟨b, 2, none⟩ (.int .i64 ((A.sc.t + 1 : Nat) : Int))) := (Kept.refl (· = b) w).setCell (p := ⟨b, 2, none⟩) (fun _ => rfl) _
    obtain ⟨g1, hg1⟩ : ∃ g1, g1 = ({ A.sc with t := A.sc.t + 1 } : Sc) := ⟨_, rfl⟩
    rw [← hg1] at hR1 hC1
    have hb1 : g1.bad < 0 := by rw [hg1]; exact hb
    have ha1 : g1.at_ ≤ s.size := by rw [hg1]; exact hi.1 hb
    have hpk : pk s g1 = pk s A.sc := by rw [hg1]; rfl
    have hgt : g1.t ≤ 40 := by rw [hg1]; show A.sc.t + 1 ≤ 40; omega
    have HT : Hid (tm A.sc = adv g1) := by unfold Hid; rw [hT, hg1]; rfl
    have hlt : g1.at_ < s.size := by rw [hg1]; exact (pk_pos (s := s) (g := A.sc) (by omega)).2.1
    have hi1 : Iv s (adv g1) := ⟨fun _ => by rw [adv_at]; omega, by rw [adv_at]; omega⟩
    have ht1 := pk_nx (s := s) hb1 ha1 (c := 39) (by decide)
    have ht2 := pk_nx (s := s) hb1 ha1 (c := 91) (by decide)
    have ht3 := pk_nx (s := s) hb1 ha1 (c := 46) (by decide)
    rw [hpk] at ht1 ht2 ht3
    clear hT hpk hg1
    have hlen := hC.ar.len
    have hbase : base ≤ w.heap.size := by have := hC.bb; have := hC.lt; omega
    go_enter Tryz.func202, Tryz.ntmps202
    go_wp2_with fail
    refine (take_any b s mv g1 39 _ hR1 hs ha1 (by decide)).mono ?_
    rintro e w2 ⟨rfl, hR2, hK2⟩
    have hK2' := hK1.trans hK2
    have hz2 := hK2'.size
    by_cases h39 : pk s A.sc = 39
    · rw [h39] at ht1
      have hq : tkB s g1 39 = true := by rw [ht1]; rfl
      have HX : Hid (tmM s A = addN { A with sc := (lit s (adv g1)).2 } { nd0 with kind := 0, text := (lit s (adv g1)).1, term := A.sc.t }) := by
        unfold Hid tmM; rw [if_neg (by omega), if_pos h39, HT.out]
      have hR2' : Ris w2 b s mv (adv g1) := by unfold tk at hR2; rw [hq] at hR2; exact hR2
      rw [hq]
      clear ht1 ht2 ht3 hq hR2 h39 hp HT
      go_wp2_with fail
      refine (literal_any b s mv (adv g1) _ hR2' hs hi1 hb1).mono ?_
      rintro e w3 ⟨⟨tx, rfl, htx⟩, hE, hK3⟩
      have hK3' := hK2'.trans hK3
      have hlt3 := (lit_facts hi1 (by rw [adv_at]; omega)).2.2.2.1
      rw [adv_t] at hlt3
      generalize lit s (adv g1) = LL at *
      obtain ⟨l, g3⟩ := LL
      dsimp only at *
      cases hq3 : decide (g3.bad < 0)
      · have hb3 : 0 ≤ g3.bad := by simpa using hq3
        obtain ⟨g4, hR4, h4⟩ := hE.bad hb3
        go_wp2
        go_ret2
        rw [HX.out]
        exact ⟨fun h => absurd (show g3.bad < 0 from h) (by omega), fun _ => ⟨_, rfl, mv, g4, hR4.alloc _, h4, Cs.only (hK3'.alloc _)⟩⟩
      · have hb3 : g3.bad < 0 := by simpa using hq3
        have ht := htx hb3
        subst ht
        have hC3 := hC.only hK3' (hE.good hb3) (by omega)
        have hC4 := hC3.add { nd0 with kind := 0, text := l, term := A.sc.t } (World.ownsRow_nil _ _ _ _) (by simp [Value.ownBlock]) (World.ownsRow_nil _ _ _ _) (by simp [Value.ownBlock]) (by simp [nd0]) (by simp [nd0])
        go_wp2
        go_ret2
        rw [HX.out]
        exact POut.one hb3 (by simp [nd0]) (by simp [nd0]) hlen hC4 (Cs.only (hK3'.alloc _)) rfl
    · have hq : tkB s g1 39 = false := by rw [ht1]; simpa using h39
      have hR2' : Ris w2 b s mv g1 := by unfold tk at hR2; rw [hq] at hR2; exact hR2
      rw [hq]
      clear ht1 hq hR2
      go_wp2_with fail
      refine (take_any b s mv g1 91 _ hR2' hs ha1 (by decide)).mono ?_
      rintro e w3 ⟨rfl, hR3, hK3⟩
      have hK3' := hK2'.trans hK3
      have hz3 := hK3'.size
      by_cases h91 : pk s A.sc = 91
      · rw [h91] at ht2
        have hq : tkB s g1 91 = true := by rw [ht2]; rfl
        have HX : Hid (tmM s A = addN { A with sc := (set s (adv g1)).2 } { nd0 with kind := 1, rng := (set s (adv g1)).1, term := A.sc.t }) := by
          unfold Hid tmM; rw [if_neg (by omega), if_neg (by omega), HT.out]
        have hR3' : Ris w3 b s mv (adv g1) := by unfold tk at hR3; rw [hq] at hR3; exact hR3
        rw [hq]
        clear ht2 ht3 hq hR3 h39 h91 hp HT
        go_wp2_with fail
        refine (ranges_any b s mv (adv g1) _ hR3' hs hi1 hb1).mono ?_
        rintro e w4 ⟨⟨v, rfl, hv, hv0⟩, hE, hK4⟩
        have hK4' := hK3'.trans hK4
        have hlt3 := (set_facts hi1 (by rw [adv_at]; omega)).2.2.2.1
        rw [adv_t] at hlt3
        generalize set s (adv g1) = LL at *
        obtain ⟨l, g3⟩ := LL
        dsimp only at *
        cases hq3 : decide (g3.bad < 0)
        · have hb3 : 0 ≤ g3.bad := by simpa using hq3
          obtain ⟨g4, hR4, h4⟩ := hE.bad hb3
          have hv' := hv0 hb3
          subst hv'
          go_wp2_with fail
          refine (classOf_any _ _ _ _ _).mono ?_
          rintro e w5 ⟨rfl, rfl⟩
          go_wp2
          go_ret2
          rw [HX.out]
          exact ⟨fun h => absurd (show g3.bad < 0 from h) (by omega), fun _ => ⟨_, rfl, mv, g4, hR4.alloc _, h4, Cs.only (hK4'.alloc _)⟩⟩
        · have hb3 : g3.bad < 0 := by simpa using hq3
          have hown := hv hb3
          obtain ⟨pp, cap, hvf⟩ := ownsRow_form hown
          have hC3 := hC.only hK4' (hE.good hb3) (by omega)
          have hC4 := hC3.add { nd0 with kind := 1, rng := l, term := A.sc.t } (own_le hown (by omega)) (fun j hj => by
            have := (hown.lt j hj).1
            have h5 := hC.lt
            exact ⟨by omega, fun hx => by have := (hC.own.lt j hx).2; omega, fun hx => by have := hC.told j hx; omega⟩) (World.ownsRow_nil _ _ _ _) (by simp [Value.ownBlock]) (by simp [nd0]) (by simp [nd0])
          subst hvf
          go_wp2_with fail
          refine (classOf_any _ _ _ _ _).mono ?_
          rintro e w5 ⟨rfl, rfl⟩
          go_wp2
          go_ret2
          rw [HX.out]
          exact POut.one hb3 (by simp [nd0]) (by simp [nd0]) hlen hC4 (Cs.only (hK4'.alloc _)) rfl
      · have h46 : pk s A.sc = 46 := by omega
        have hq : tkB s g1 91 = false := by rw [ht2]; simpa using h91
        have hR3' : Ris w3 b s mv g1 := by unfold tk at hR3; rw [hq] at hR3; exact hR3
        rw [hq]
        rw [h46] at ht3
        have hq2 : tkB s g1 46 = true := by rw [ht3]; rfl
        have HX : Hid (tmM s A = addN { A with sc := adv g1 } { nd0 with kind := 2, term := A.sc.t }) := by
          unfold Hid tmM; rw [if_pos h46, HT.out]
        clear ht2 ht3 hq hR3 h39 h91 hp HT
        have hC3 := hC.only hK3' hR3' hgt
        have hC4 := hC3.add { nd0 with kind := 2, term := A.sc.t } (World.ownsRow_nil _ _ _ _) (by simp [Value.ownBlock]) (World.ownsRow_nil _ _ _ _) (by simp [Value.ownBlock]) (by simp [nd0]) (by simp [nd0])
        go_wp2_with fail
        refine (take_any b s mv g1 46 _ hC4.ris hs ha1 (by decide)).mono ?_
        rintro e w5 ⟨rfl, hR5, hK5⟩
        have hR5' : Ris w5 b s mv (adv g1) := by unfold tk at hR5; rw [hq2] at hR5; exact hR5
        have hC5 := hC4.only hK5 hR5' hgt
        rw [hq2]
        go_wp2
        go_ret2
        rw [HX.out]
        exact POut.one hb1 (by simp [nd0]) (by simp [nd0]) hlen hC5 (Cs.only ((hK3'.alloc _).trans hK5)) rfl
end Go.Proofs.YtagklnaaoclmhaaGreatDoor
