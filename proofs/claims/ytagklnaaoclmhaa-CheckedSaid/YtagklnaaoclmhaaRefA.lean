import Derived.Test.YtagklnaaoclmhaaBase
import Derived.Deep.LoopGhost
set_option linter.unusedSimpArgs false
set_option linter.unusedVariables false
namespace Go.Proofs.Ytagklnaaoclmhaa
open Go.RowKit

def letterB (c : Int) : Bool := decide (97 ≤ c ∧ c ≤ 122)

set_option maxHeartbeats 400000 in
theorem letter_any (c : Int) (w : World) :
    Calls Try.prog 31 #[.int .u8 c] w fun e w' => e = .returned (.bool (letterB c)) ∧ w' = w := by
  unfold letterB
  by_cases h1 : 97 ≤ c
  · by_cases h2 : c ≤ 122
    · go_enter Try.func31, Try.ntmps31
      go_wp2
      go_ret
      exact ⟨by simp [h1, h2], rfl⟩
    · go_enter Try.func31, Try.ntmps31
      go_wp2
      go_ret
      exact ⟨by simp [h1, h2], rfl⟩
  · go_enter Try.func31, Try.ntmps31
    go_wp2
    go_ret
    exact ⟨by simp; omega, rfl⟩

/-- The ref's grammar's numbers. -/
structure Sc where
  t : Nat
  bad : Int
  at_ : Nat
  op : Nat

/-- The ref's grammar in memory. -/
def Gis (w : World) (b : Nat) (s : ByteArray) (nv rv : Value) (g : Sc) : Prop :=
  w.heap[b]? = some (.cells #[nv, rv, .int .i64 g.t, .int .i64 g.bad, .string s, .int .i64 g.at_, .int .i64 g.op] 39)

theorem Gis.cells {w : World} {b : Nat} {s : ByteArray} {nv rv : Value} {g : Sc} (h : Gis w b s nv rv g) :
    w.cell? ⟨b, 0, none⟩ = some nv ∧ w.cell? ⟨b, 1, none⟩ = some rv ∧ w.cell? ⟨b, 2, none⟩ = some (.int .i64 g.t) ∧ w.cell? ⟨b, 3, none⟩ = some (.int .i64 g.bad) ∧
    w.cell? ⟨b, 4, none⟩ = some (.string s) ∧ w.cell? ⟨b, 5, none⟩ = some (.int .i64 g.at_) ∧ w.cell? ⟨b, 6, none⟩ = some (.int .i64 g.op) := by
  unfold Gis at h
  refine ⟨?_, ?_, ?_, ?_, ?_, ?_, ?_⟩ <;> simp [World.cell?, h]

theorem Gis.frozen {w : World} {b : Nat} {s : ByteArray} {nv rv : Value} {g : Sc} (h : Gis w b s nv rv g) (o : Nat) : w.frozen? ⟨b, o, none⟩ = false := by
  unfold Gis at h
  simp [World.frozen?, h]

theorem Gis.lt {w : World} {b : Nat} {s : ByteArray} {nv rv : Value} {g : Sc} (h : Gis w b s nv rv g) : b < w.heap.size := by
  unfold Gis at h
  rcases Nat.lt_or_ge b w.heap.size with h1 | h1
  · exact h1
  · rw [Array.getElem?_eq_none h1] at h; cases h

theorem Gis.drewN {w : World} {b : Nat} {s : ByteArray} {nv rv : Value} {g : Sc} (h : Gis w b s nv rv g) (n : Nat) : Gis (w.drewN n) b s nv rv g := h

theorem Gis.kept {w w' : World} {b : Nat} {s : ByteArray} {nv rv : Value} {g : Sc} {S : Nat → Prop} (h : Gis w b s nv rv g) (k : Kept S w w') (hb : ¬ S b) : Gis w' b s nv rv g := by
  have := h.lt
  unfold Gis at *
  rw [k.block b this hb]; exact h

theorem Gis.alloc {w : World} {b : Nat} {s : ByteArray} {nv rv : Value} {g : Sc} (h : Gis w b s nv rv g) (o : Obj) : Gis (w.alloc o) b s nv rv g := by
  have := h.lt
  unfold Gis at *
  rw [Below.heap_alloc _ _ _ this]; exact h

theorem Gis.setOther {w : World} {b : Nat} {s : ByteArray} {nv rv : Value} {g : Sc} (h : Gis w b s nv rv g) {p : Addr} (hp : b ≠ p.block) (u : Value) : Gis (w.setCell p u) b s nv rv g := by
  unfold Gis at *
  rw [Below.heap_setCell _ _ _ _ hp]; exact h

theorem heap_set_at {w : World} {b : Nat} {c : Array Value} {e : TypeId} {f : Nat × Nat} (h : w.heap[b]? = some (.cells c e f)) (o : Nat) (u : Value) :
    (w.setCell ⟨b, o, none⟩ u).heap[b]? = some (.cells (c.setIfInBounds o u) e f) := by
  simp [World.setCell, Array.getElem?_modify, h]

theorem Gis.setT {w : World} {b : Nat} {s : ByteArray} {nv rv : Value} {g : Sc} (h : Gis w b s nv rv g) (x : Nat) : Gis (w.setCell ⟨b, 2, none⟩ (.int .i64 x)) b s nv rv { g with t := x } := by
  unfold Gis at *; rw [heap_set_at h]; simp
theorem Gis.setBad {w : World} {b : Nat} {s : ByteArray} {nv rv : Value} {g : Sc} (h : Gis w b s nv rv g) (x : Int) : Gis (w.setCell ⟨b, 3, none⟩ (.int .i64 x)) b s nv rv { g with bad := x } := by
  unfold Gis at *; rw [heap_set_at h]; simp
theorem Gis.setAt {w : World} {b : Nat} {s : ByteArray} {nv rv : Value} {g : Sc} (h : Gis w b s nv rv g) (x : Nat) : Gis (w.setCell ⟨b, 5, none⟩ (.int .i64 x)) b s nv rv { g with at_ := x } := by
  unfold Gis at *; rw [heap_set_at h]; simp
theorem Gis.setOp {w : World} {b : Nat} {s : ByteArray} {nv rv : Value} {g : Sc} (h : Gis w b s nv rv g) (x : Nat) : Gis (w.setCell ⟨b, 6, none⟩ (.int .i64 x)) b s nv rv { g with op := x } := by
  unfold Gis at *; rw [heap_set_at h]; simp
theorem Gis.setNodes {w : World} {b : Nat} {s : ByteArray} {nv rv : Value} {g : Sc} (h : Gis w b s nv rv g) (x : Value) : Gis (w.setCell ⟨b, 0, none⟩ x) b s x rv g := by
  unfold Gis at *; rw [heap_set_at h]; simp
theorem Gis.setRules {w : World} {b : Nat} {s : ByteArray} {nv rv : Value} {g : Sc} (h : Gis w b s nv rv g) (x : Value) : Gis (w.setCell ⟨b, 1, none⟩ x) b s nv x g := by
  unfold Gis at *; rw [heap_set_at h]; simp

def moreB (s : ByteArray) (g : Sc) : Bool := decide (g.bad < 0 ∧ g.at_ < s.size)

set_option maxHeartbeats 400000 in
theorem more_any (b : Nat) (s : ByteArray) (nv rv : Value) (g : Sc) (w : World) (hG : Gis w b s nv rv g) (hs : s.size ≤ 400) :
    Calls Try.prog 47 #[.pointer (some ⟨b, 0, none⟩)] w fun e w' => e = .returned (.bool (moreB s g)) ∧ ∃ n, w' = w.drewN n := by
  obtain ⟨c0, c1, c2, c3, c4, c5, c6⟩ := hG.cells
  unfold moreB at *
  obtain ⟨t, bad, at_, op⟩ := g
  simp only at *
  by_cases h1 : bad < 0
  · have hd : decide (bad < 0) = true := by simpa using h1
    clear hG
    go_enter Try.func47, Try.ntmps47
    go_wp2
    go_quiet (fail)
    go_wp2
    go_ret
    exact ⟨by simp [h1], _, rfl⟩
  · have hd : decide (bad < 0) = false := by simpa using h1
    clear hG
    go_enter Try.func47, Try.ntmps47
    go_wp2
    go_quiet (fail)
    go_wp2
    go_ret
    exact ⟨by simp; omega, _, rfl⟩

/-- The byte at a place; 0 where there is none. -/
def byteAt (s : ByteArray) (i : Nat) : Nat := (s.data.toList.getD i 0).toNat

theorem byteAt_get {s : ByteArray} {i : Nat} (h : i < s.size) : byteAt s i = s[i].toNat := by
  have h' : i < s.data.toList.length := by simpa using h
  simp [byteAt, List.getD, List.getElem?_eq_getElem h']
  rfl

/-- peek's answer. -/
def pk (s : ByteArray) (g : Sc) : Nat := if g.bad < 0 ∧ g.at_ < s.size then byteAt s g.at_ else 0

theorem ret_u8 {a b : Int} (h : a = b) : Ending.returned (.int .u8 a) = .returned (.int .u8 b) := by rw [h]

set_option maxHeartbeats 400000 in
theorem peek_any (b : Nat) (s : ByteArray) (nv rv : Value) (g : Sc) (w : World) (hG : Gis w b s nv rv g) (hs : s.size ≤ 400) :
    Calls Try.prog 30 #[.pointer (some ⟨b, 0, none⟩)] w fun e w' => e = .returned (.int .u8 (pk s g : Int)) ∧ ∃ n, w' = w.drewN n := by
  obtain ⟨c0, c1, c2, c3, c4, c5, c6⟩ := hG.cells
  obtain ⟨t, bad, at_, op⟩ := g
  simp only at *
  clear hG
  by_cases h1 : bad < 0
  · have hd2 : decide (0 ≤ bad) = false := by simp; omega
    by_cases h2 : at_ < s.size
    · go_enter Try.func30, Try.ntmps30
      go_wp2
      go_quiet (fail)
      go_wp2
      go_quiet (fail)
      go_wp2
      go_ret
      exact ⟨ret_u8 (by simp [pk, h1, h2, byteAt_get]), _, World.drewN_drewN ..⟩
    · go_enter Try.func30, Try.ntmps30
      go_wp2
      go_quiet (fail)
      go_wp2
      go_ret
      exact ⟨ret_u8 (by simp [pk, h1, h2]), _, rfl⟩
  · have hd2 : decide (0 ≤ bad) = true := by simp; omega
    go_enter Try.func30, Try.ntmps30
    go_wp2
    go_quiet (fail)
    go_wp2
    go_ret
    exact ⟨ret_u8 (by rw [pk, if_neg (by simp; omega)]; rfl), _, rfl⟩

end Go.Proofs.Ytagklnaaoclmhaa

namespace Go.Proofs.Ytagklnaaoclmhaa
open Go.RowKit

/-- wrong. -/
def wr (g : Sc) : Sc := if g.bad < 0 then { g with bad := g.at_ } else g

set_option maxHeartbeats 400000 in
theorem wrong_any (b : Nat) (s : ByteArray) (nv rv : Value) (g : Sc) (w : World) (hG : Gis w b s nv rv g) :
    Calls Try.prog 16 #[.pointer (some ⟨b, 0, none⟩)] w fun e w' => e = .returned (.tuple #[]) ∧ Gis w' b s nv rv (wr g) ∧ Kept (· = b) w w' := by
  obtain ⟨c0, c1, c2, c3, c4, c5, c6⟩ := hG.cells
  have hf := hG.frozen 3
  by_cases h1 : g.bad < 0
  · go_enter Try.func16, Try.ntmps16
    go_wp2
    go_end0
    exact ⟨rfl, by rw [wr, if_pos h1]; exact hG.setBad _, (Kept.refl (· = b) _).setCell (fun _ => rfl) _⟩
  · go_enter Try.func16, Try.ntmps16
    go_wp2
    go_end0
    exact ⟨rfl, by rw [wr, if_neg (by omega)]; exact hG, Kept.refl _ _⟩

/-- more, in whatever world of as many draws: a word that the walk does not open. -/
def MoreQ (b : Nat) (w : World) (r : Bool) : Prop := ∀ n, Calls Try.prog 47 #[.pointer (some ⟨b, 0, none⟩)] (w.drewN n) fun e w' => e = .returned (.bool r) ∧ ∃ m, w' = (w.drewN n).drewN m
theorem moreQ {b : Nat} {s : ByteArray} {nv rv : Value} {g : Sc} {w : World} (hG : Gis w b s nv rv g) (hs : s.size ≤ 400) {r : Bool} (h : moreB s g = r) : MoreQ b w r := by
  subst h
  exact fun n => more_any b s nv rv _ _ (hG.drewN n) hs

/-- The first place from i on that is no blank. -/
def skipF (s : ByteArray) : Nat → Nat → Nat
  | 0, i => i
  | f + 1, i => if i < s.size ∧ byteAt s i = 32 then skipF s f (i + 1) else i
def bl (s : ByteArray) (g : Sc) : Sc := if g.bad < 0 then { g with at_ := skipF s (s.size - g.at_) g.at_ } else g

theorem skipF_stop {s : ByteArray} {k : Nat} (h : ¬ (k < s.size ∧ byteAt s k = 32)) (f : Nat) : skipF s f k = k := by
  cases f with
  | zero => rfl
  | succ f => rw [skipF, if_neg h]
theorem bl_eq {s : ByteArray} {g : Sc} {k : Nat} (hF : g.bad < 0 → skipF s (s.size - k) k = skipF s (s.size - g.at_) g.at_) (hB : 0 ≤ g.bad → k = g.at_) (h : g.bad < 0 → ¬ (k < s.size ∧ byteAt s k = 32)) : bl s g = { g with at_ := k } := by
  unfold bl
  by_cases hb : g.bad < 0
  · rw [if_pos hb, ← hF hb, skipF_stop (h hb)]
  · rw [if_neg hb, hB (by omega)]

set_option maxHeartbeats 800000 in
theorem blanks_any (b : Nat) (s : ByteArray) (nv rv : Value) (g : Sc) (w : World) (hG : Gis w b s nv rv g) (hs : s.size ≤ 400) :
    Calls Try.prog 29 #[.pointer (some ⟨b, 0, none⟩)] w fun e w' => e = .returned (.tuple #[]) ∧ Gis w' b s nv rv (bl s g) ∧ Kept (· = b) w w' := by
  go_enter Try.func29, Try.ntmps29
  go_wp2
  go_loopg [] (s.size - g.at_) (fun n wr => ∃ k : Nat, n = s.size - k ∧ Gis wr b s nv rv { g with at_ := k } ∧ Kept (· = b) w wr ∧ (g.bad < 0 → skipF s (s.size - k) k = skipF s (s.size - g.at_) g.at_) ∧ (0 ≤ g.bad → k = g.at_))
  case atStart => exact ⟨_, rfl, hG, Kept.refl _ _, fun _ => rfl, fun _ => rfl⟩
  case round =>
    obtain ⟨k, hn, hR, hK, hF, hB⟩ := hrel
    have HF : Hid (g.bad < 0 → skipF s (s.size - k) k = skipF s (s.size - g.at_) g.at_) := hF
    have HB : Hid (0 ≤ g.bad → k = g.at_) := hB
    have HN : Hid (gk = s.size - k) := hn
    clear hF hB hn
    obtain ⟨c0, c1, c2, c3, c4, c5, c6⟩ := hR.cells
    have hf := hR.frozen 5
    simp only at *
    by_cases hm : g.bad < 0 ∧ k < s.size
    · have HM := moreQ hR hs (r := true) (by simp [moreB, hm])
      by_cases hc : byteAt s k = 32
      · obtain ⟨hm2, hm3⟩ := hm
        rw [byteAt_get hm3] at hc
        have hc' : ((s[k].toNat : Int) == 32) = true := by simp; omega
        go_wp2_with fail
        go_quiet ((go_at_call 47; exact Calls.quiet_of (HM _)))
        go_wp2
        go_roundg (s.size - (k + 1))
        case measure => rw [HN.out]; omega
        case rel => exact ⟨k + 1, rfl, (hR.drewN _).setAt _, (hK.drewN _).setCell (fun _ => rfl) _, fun h => by rw [← HF.out h, show s.size - k = (s.size - (k + 1)) + 1 by omega, skipF, if_pos ⟨hm3, by rw [byteAt_get hm3]; exact hc⟩], fun h => absurd hm2 (by omega)⟩
      · obtain ⟨hm2, hm3⟩ := hm
        rw [byteAt_get hm3] at hc
        have hc' : ((s[k].toNat : Int) == 32) = false := by simp; omega
        go_wp2_with fail
        go_quiet ((go_at_call 47; exact Calls.quiet_of (HM _)))
        go_wp2
        go_end0
        exact ⟨rfl, by rw [bl_eq HF.out HB.out (fun _ h => hc (by rw [← byteAt_get hm3]; exact h.2))]; exact hR.drewN _, hK.drewN _⟩
    · have HM := moreQ hR hs (r := false) (by simp [moreB]; omega)
      go_wp2_with fail
      go_quiet ((go_at_call 47; exact Calls.quiet_of (HM _)))
      go_wp2
      go_end0
      exact ⟨rfl, by rw [bl_eq HF.out HB.out (fun h1 h => hm ⟨h1, h.1⟩)]; exact hR.drewN _, hK.drewN _⟩

/-- sign: does it come? And behind it. -/
def sgB (s : ByteArray) (g : Sc) (c : Nat) : Bool := moreB s (bl s g) && byteAt s (bl s g).at_ == c
def adv (g : Sc) : Sc := { g with at_ := g.at_ + 1 }
def sg (s : ByteArray) (g : Sc) (c : Nat) : Sc := if sgB s g c then adv (bl s g) else bl s g

set_option maxHeartbeats 800000 in
theorem sign_any (b : Nat) (s : ByteArray) (nv rv : Value) (g : Sc) (c : Nat) (w : World) (hG : Gis w b s nv rv g) (hs : s.size ≤ 400) :
    Calls Try.prog 32 #[.pointer (some ⟨b, 0, none⟩), .int .u8 (c : Int)] w fun e w' => e = .returned (.bool (sgB s g c)) ∧ Gis w' b s nv rv (sg s g c) ∧ Kept (· = b) w w' := by
  go_enter Try.func32, Try.ntmps32
  go_wp2_with fail
  refine (blanks_any b s nv rv g _ hG hs).mono ?_
  rintro e w1 ⟨rfl, hR, hK⟩
  have Hr : Hid (∀ r, (moreB s (bl s g) && byteAt s (bl s g).at_ == c) = r → sgB s g c = r ∧ sg s g c = if r then adv (bl s g) else bl s g) := by
    intro r h; subst h; exact ⟨rfl, rfl⟩
  generalize bl s g = g1 at *
  obtain ⟨c0, c1, c2, c3, c4, c5, c6⟩ := hR.cells
  have hf := hR.frozen 5
  by_cases hm : g1.bad < 0 ∧ g1.at_ < s.size
  · obtain ⟨hm2, hm3⟩ := hm
    have HM := moreQ hR hs (r := true) (by simp [moreB, hm2, hm3])
    by_cases hc : byteAt s g1.at_ = c
    · have HH := hide (Hr.out true (by simp [moreB, hm2, hm3, hc]))
      rw [byteAt_get hm3] at hc
      have hc' : ((s[g1.at_].toNat : Int) == (c : Int)) = true := by simp; omega
      clear hc Hr
      go_wp2_with fail
      go_quiet ((go_at_call 47; exact Calls.quiet_of (HM _)))
      go_wp2
      go_ret
      exact ⟨by rw [HH.out.1]; rfl, by rw [HH.out.2]; exact (hR.drewN _).setAt _, (hK.drewN _).setCell (fun _ => rfl) _⟩
    · have HH := hide (Hr.out false (by simp [hc]))
      rw [byteAt_get hm3] at hc
      have hc' : ((s[g1.at_].toNat : Int) == (c : Int)) = false := by simp; omega
      clear hc Hr
      go_wp2_with fail
      go_quiet ((go_at_call 47; exact Calls.quiet_of (HM _)))
      go_wp2
      go_ret
      exact ⟨by rw [HH.out.1]; rfl, by rw [HH.out.2]; exact hR.drewN _, hK.drewN _⟩
  · have HM := moreQ hR hs (r := false) (by simp [moreB]; omega)
    have HH := hide (Hr.out false (by simp [moreB]; omega))
    clear Hr
    go_wp2_with fail
    go_quiet ((go_at_call 47; exact Calls.quiet_of (HM _)))
    go_wp2
    go_ret
    exact ⟨by rw [HH.out.1]; rfl, by rw [HH.out.2]; exact hR.drewN _, hK.drewN _⟩

/-- must. -/
def mu (s : ByteArray) (g : Sc) (c : Nat) : Sc := if sgB s g c then sg s g c else wr (sg s g c)

set_option maxHeartbeats 800000 in
theorem must_any (b : Nat) (s : ByteArray) (nv rv : Value) (g : Sc) (c : Nat) (w : World) (hG : Gis w b s nv rv g) (hs : s.size ≤ 400) :
    Calls Try.prog 18 #[.pointer (some ⟨b, 0, none⟩), .int .u8 (c : Int)] w fun e w' => e = .returned (.tuple #[]) ∧ Gis w' b s nv rv (mu s g c) ∧ Kept (· = b) w w' := by
  go_enter Try.func18, Try.ntmps18
  go_wp2_with fail
  refine (sign_any b s nv rv g c _ hG hs).mono ?_
  rintro e w1 ⟨rfl, hR, hK⟩
  cases hb : sgB s g c
  · have HM : Hid (mu s g c = wr (sg s g c)) := by unfold Hid mu; rw [hb]; rfl
    generalize sg s g c = g1 at *
    go_wp2_with fail
    refine (wrong_any b s nv rv g1 _ hR).mono ?_
    rintro e w2 ⟨rfl, hR2, hK2⟩
    go_wp2
    go_end0
    exact ⟨rfl, by rw [HM.out]; exact hR2, hK.trans hK2⟩
  · have HM : Hid (mu s g c = sg s g c) := by unfold Hid mu; rw [hb]; rfl
    go_wp2
    go_end0
    exact ⟨rfl, by rw [HM.out]; exact hR, hK⟩

/-- terminal. -/
def tm (g : Sc) : Sc := adv { (if g.t = 40 then wr g else g) with t := g.t + 1 }

set_option maxHeartbeats 800000 in
theorem terminal_any (b : Nat) (s : ByteArray) (nv rv : Value) (g : Sc) (w : World) (hG : Gis w b s nv rv g) (ht : g.t ≤ 10000) (hat : g.at_ ≤ 10000) :
    Calls Try.prog 60 #[.pointer (some ⟨b, 0, none⟩)] w fun e w' => e = .returned (.int .i64 (g.t : Int)) ∧ Gis w' b s nv rv (tm g) ∧ Kept (· = b) w w' := by
  obtain ⟨c0, c1, c2, c3, c4, c5, c6⟩ := hG.cells
  have hf2 := hG.frozen 2
  have hf5 := hG.frozen 5
  by_cases h4 : g.t = 40
  · have h40 : ((g.t : Int) == 40) = true := by simp; omega
    have HT : Hid (tm g = adv { wr g with t := g.t + 1 }) := by unfold Hid tm; rw [if_pos h4]
    have HW : Hid ((wr g).t = g.t ∧ (wr g).at_ = g.at_) := by unfold Hid wr; split <;> exact ⟨rfl, rfl⟩
    clear h4
    go_enter Try.func60, Try.ntmps60
    go_wp2_with fail
    refine (wrong_any b s nv rv g _ hG).mono ?_
    rintro e w2 ⟨rfl, hR2, hK2⟩
    generalize wr g = g2 at *
    obtain ⟨t2, bad2, at2, op2⟩ := g2
    obtain ⟨e1, e2⟩ := HW.out
    simp only at e1 e2
    subst e1 e2
    obtain ⟨d0, d1, d2, d3, d4, d5, d6⟩ := hR2.cells
    have hf2 := hR2.frozen 2
    have hf5 := hR2.frozen 5
    go_wp2
    go_ret
    exact ⟨by simp, by rw [HT.out]; exact (hR2.setT (g.t + 1)).setAt (g.at_ + 1), (hK2.setCell (fun _ => rfl) _).setCell (fun _ => rfl) _⟩
  · have h40 : ((g.t : Int) == 40) = false := by simp; omega
    have HT : Hid (tm g = adv { g with t := g.t + 1 }) := by unfold Hid tm; rw [if_neg h4]
    clear h4
    go_enter Try.func60, Try.ntmps60
    go_wp2
    go_ret
    exact ⟨by simp, by rw [HT.out]; exact (hG.setT (g.t + 1)).setAt (g.at_ + 1), ((Kept.refl (· = b) _).setCell (fun _ => rfl) _).setCell (fun _ => rfl) _⟩

end Go.Proofs.Ytagklnaaoclmhaa
