import Derived.Test.YtagklnaaoclmhaaPlnA
set_option linter.unusedSimpArgs false
set_option linter.unusedVariables false
namespace Go.Proofs.Ytagklnaaoclmhaa
open Go.RowKit

/-- The code's reader in memory; its numbers as the ref's. -/
def Ris (w : World) (b : Nat) (s : ByteArray) (mv : Value) (g : Sc) : Prop :=
  ∃ z : Int, w.heap[b]? = some (.cells #[.string s, .int .i64 g.at_, .int .i64 g.t, .int .i64 z, .int .i64 g.op, mv] 47)

theorem Ris.cells {w : World} {b : Nat} {s : ByteArray} {mv : Value} {g : Sc} (h : Ris w b s mv g) :
    w.cell? ⟨b, 0, none⟩ = some (.string s) ∧ w.cell? ⟨b, 1, none⟩ = some (.int .i64 g.at_) ∧ w.cell? ⟨b, 2, none⟩ = some (.int .i64 g.t) ∧ w.cell? ⟨b, 4, none⟩ = some (.int .i64 g.op) ∧ w.cell? ⟨b, 5, none⟩ = some mv := by
  obtain ⟨z, h⟩ := h
  refine ⟨?_, ?_, ?_, ?_, ?_⟩ <;> simp [World.cell?, h]
theorem Ris.frozen {w : World} {b : Nat} {s : ByteArray} {mv : Value} {g : Sc} (h : Ris w b s mv g) (o : Nat) : w.frozen? ⟨b, o, none⟩ = false := by
  obtain ⟨z, h⟩ := h
  simp [World.frozen?, h]
theorem Ris.lt {w : World} {b : Nat} {s : ByteArray} {mv : Value} {g : Sc} (h : Ris w b s mv g) : b < w.heap.size := by
  obtain ⟨z, h⟩ := h
  exact objAt_lt (show objAt w b = _ from h)
theorem Ris.drewN {w : World} {b : Nat} {s : ByteArray} {mv : Value} {g : Sc} (h : Ris w b s mv g) (n : Nat) : Ris (w.drewN n) b s mv g := h
theorem Ris.same {w w' : World} {b : Nat} {s : ByteArray} {mv : Value} {g : Sc} (h : Ris w b s mv g) (he : w'.heap[b]? = w.heap[b]?) : Ris w' b s mv g := by
  obtain ⟨z, h⟩ := h
  exact ⟨z, by rw [he]; exact h⟩
theorem Ris.kept {w w' : World} {b : Nat} {s : ByteArray} {mv : Value} {g : Sc} {S : Nat → Prop} (h : Ris w b s mv g) (k : Kept S w w') (hb : ¬ S b) : Ris w' b s mv g := h.same (k.block b h.lt hb)
theorem Ris.alloc {w : World} {b : Nat} {s : ByteArray} {mv : Value} {g : Sc} (h : Ris w b s mv g) (o : Obj) : Ris (w.alloc o) b s mv g := h.same (Below.heap_alloc _ _ _ h.lt)
theorem Ris.setAt {w : World} {b : Nat} {s : ByteArray} {mv : Value} {g : Sc} (h : Ris w b s mv g) (x : Nat) : Ris (w.setCell ⟨b, 1, none⟩ (.int .i64 x)) b s mv { g with at_ := x } := by
  obtain ⟨z, h⟩ := h; refine ⟨z, ?_⟩; rw [heap_set_at h]; simp
theorem Ris.setT {w : World} {b : Nat} {s : ByteArray} {mv : Value} {g : Sc} (h : Ris w b s mv g) (x : Nat) : Ris (w.setCell ⟨b, 2, none⟩ (.int .i64 x)) b s mv { g with t := x } := by
  obtain ⟨z, h⟩ := h; refine ⟨z, ?_⟩; rw [heap_set_at h]; simp
theorem Ris.setOp {w : World} {b : Nat} {s : ByteArray} {mv : Value} {g : Sc} (h : Ris w b s mv g) (x : Nat) : Ris (w.setCell ⟨b, 4, none⟩ (.int .i64 x)) b s mv { g with op := x } := by
  obtain ⟨z, h⟩ := h; refine ⟨z, ?_⟩; rw [heap_set_at h]; simp
theorem Ris.setM {w : World} {b : Nat} {s : ByteArray} {mv : Value} {g : Sc} (h : Ris w b s mv g) (x : Value) : Ris (w.setCell ⟨b, 5, none⟩ x) b s x g := by
  obtain ⟨z, h⟩ := h; refine ⟨z, ?_⟩; rw [heap_set_at h]; simp
/-- The number of brackets is some number. -/
theorem Ris.brk {w : World} {b : Nat} {s : ByteArray} {mv : Value} {g : Sc} (h : Ris w b s mv g) : ∃ z : Int, w.cell? ⟨b, 3, none⟩ = some (.int .i64 z) := by
  obtain ⟨z, h⟩ := h
  exact ⟨z, by simp [World.cell?, h]⟩
theorem Ris.setB {w : World} {b : Nat} {s : ByteArray} {mv : Value} {g : Sc} (h : Ris w b s mv g) (x : Int) : Ris (w.setCell ⟨b, 3, none⟩ (.int .i64 x)) b s mv g := by
  obtain ⟨z, h⟩ := h; refine ⟨x, ?_⟩; rw [heap_set_at h]; simp
/-- What is wrong with a text is no matter of the reader's. -/
theorem Ris.bad {w : World} {b : Nat} {s : ByteArray} {mv : Value} {g : Sc} (h : Ris w b s mv g) (x : Int) : Ris w b s mv { g with bad := x } := h

/-- next. -/
def nx (s : ByteArray) (a : Nat) : Int := if a = s.size then -1 else (byteAt s a : Int)

set_option maxHeartbeats 800000 in
theorem next_any (b : Nat) (s : ByteArray) (mv : Value) (g : Sc) (w : World) (hR : Ris w b s mv g) (hs : s.size ≤ 400) (ha : g.at_ ≤ s.size) :
    Calls Try.prog 24 #[.pointer (some ⟨b, 0, none⟩)] w fun e w' => e = .returned (.int .i64 (nx s g.at_)) ∧ ∃ n, w' = w.drewN n := by
  obtain ⟨c0, c1, c2, c3, c4⟩ := hR.cells
  by_cases h1 : g.at_ = s.size
  · have HN : Hid (nx s g.at_ = -1) := by unfold Hid nx; rw [if_pos h1]
    have q : ((g.at_ : Int) == (s.size : Int)) = true := beq_iff_eq.2 (by omega)
    clear h1
    go_enter Try.func24, Try.ntmps24
    go_wp2
    go_quiet (fail)
    go_wp2
    go_ret
    exact ⟨by rw [HN.out]; rfl, _, rfl⟩
  · have hlt : g.at_ < s.size := by omega
    have HN : Hid (nx s g.at_ = (s[g.at_].toNat : Int)) := by unfold Hid nx; rw [if_neg h1, byteAt_get hlt]
    have q : ((g.at_ : Int) == (s.size : Int)) = false := beq_eq_false_iff_ne.2 (by omega)
    have hb := UInt8.toNat_lt s[g.at_]
    clear h1
    go_enter Try.func24, Try.ntmps24
    go_wp2
    go_quiet (fail)
    go_wp2
    go_quiet (fail)
    go_wp2
    go_ret
    exact ⟨by rw [HN.out]; rfl, _, World.drewN_drewN ..⟩

/-- take: is it the next? -/
def tkB (s : ByteArray) (g : Sc) (c : Nat) : Bool := decide (nx s g.at_ = (c : Int))
def tk (s : ByteArray) (g : Sc) (c : Nat) : Sc := if tkB s g c then adv g else g

theorem nx_pos {s : ByteArray} {a c : Nat} (h : nx s a = (c : Int)) (ha : a ≤ s.size) : a < s.size ∧ byteAt s a = c := by
  unfold nx at h
  split at h
  · omega
  · exact ⟨by omega, by omega⟩

set_option maxHeartbeats 800000 in
theorem take_any (b : Nat) (s : ByteArray) (mv : Value) (g : Sc) (c : Nat) (w : World) (hR : Ris w b s mv g) (hs : s.size ≤ 400) (ha : g.at_ ≤ s.size) (hc : c < 256) :
    Calls Try.prog 49 #[.pointer (some ⟨b, 0, none⟩), .int .u8 (c : Int)] w fun e w' => e = .returned (.bool (tkB s g c)) ∧ Ris w' b s mv (tk s g c) ∧ Kept (· = b) w w' := by
  obtain ⟨c0, c1, c2, c3, c4⟩ := hR.cells
  have hf := hR.frozen 1
  go_enter Try.func49, Try.ntmps49
  go_wp2_with fail
  refine (next_any b s mv g _ hR hs ha).mono ?_
  rintro e w1 ⟨rfl, n1, rfl⟩
  by_cases h : nx s g.at_ = (c : Int)
  · have H1 : Hid (tkB s g c = true ∧ tk s g c = adv g) := by unfold Hid tk tkB; simp [h]
    have q : ((nx s g.at_) != (c : Int)) = false := by simp [h]
    clear h
    generalize nx s g.at_ = x at *
    go_wp2
    go_ret
    exact ⟨by rw [H1.out.1]; rfl, by rw [H1.out.2]; exact (hR.drewN _).setAt _, ((Kept.refl (· = b) w).drewN _).setCell (fun _ => rfl) _⟩
  · have H1 : Hid (tkB s g c = false ∧ tk s g c = g) := by unfold Hid tk tkB; simp [h]
    have q : ((nx s g.at_) != (c : Int)) = true := by simp [h]
    clear h
    generalize nx s g.at_ = x at *
    go_wp2
    go_ret
    exact ⟨by rw [H1.out.1]; rfl, by rw [H1.out.2]; exact hR.drewN _, (Kept.refl _ _).drewN _⟩

end Go.Proofs.Ytagklnaaoclmhaa

namespace Go.Proofs.Ytagklnaaoclmhaa
open Go.RowKit

theorem tkB_eq {s : ByteArray} {g : Sc} (hb : g.bad < 0) (ha : g.at_ ≤ s.size) (c : Nat) : tkB s g c = (moreB s g && byteAt s g.at_ == c) := by
  unfold tkB moreB nx
  by_cases h : g.at_ = s.size
  · rw [if_pos h]
    have : ¬ g.at_ < s.size := by omega
    simp [this]
  · rw [if_neg h]
    have h2 : g.at_ < s.size := by omega
    rw [Bool.eq_iff_iff]
    simp only [decide_eq_true_eq, Bool.and_eq_true, beq_iff_eq]
    constructor
    · intro h3; exact ⟨⟨hb, h2⟩, by omega⟩
    · intro h3; have := h3.2; omega

set_option maxHeartbeats 800000 in
theorem skipBlanks_any (b : Nat) (s : ByteArray) (mv : Value) (g : Sc) (w : World) (hR : Ris w b s mv g) (hs : s.size ≤ 400) (ha : g.at_ ≤ s.size) (hb : g.bad < 0) :
    Calls Try.prog 35 #[.pointer (some ⟨b, 0, none⟩)] w fun e w' => e = .returned (.tuple #[]) ∧ Ris w' b s mv (bl s g) ∧ Kept (· = b) w w' := by
  go_enter Try.func35, Try.ntmps35
  go_wp2
  go_loopg [] (s.size - g.at_) (fun n wr => ∃ k : Nat, n = s.size - k ∧ k ≤ s.size ∧ Ris wr b s mv { g with at_ := k } ∧ Kept (· = b) w wr ∧ Hid (skipF s (s.size - k) k = skipF s (s.size - g.at_) g.at_))
  case atStart => exact ⟨_, rfl, ha, hR, Kept.refl _ _, rfl⟩
  case round =>
    obtain ⟨k, hn, hk, hR2, hK, HF⟩ := hrel
    have HN := hide hn
    clear hn
    go_wp2_with fail
    refine (take_any b s mv { g with at_ := k } 32 _ hR2 hs hk (by decide)).mono ?_
    rintro e w1 ⟨rfl, hR1, hK1⟩
    have ht := tkB_eq (s := s) (g := { g with at_ := k }) hb hk 32
    cases hq : tkB s { g with at_ := k } 32
    · have HB : Hid (bl s g = { g with at_ := k }) := by
        unfold Hid
        refine bl_eq (fun _ => HF.out) (fun h => absurd h (by omega)) (fun _ h => ?_)
        rw [hq] at ht
        have h3 : moreB s { g with at_ := k } = true := by simp [moreB, hb, h.1]
        rw [h3] at ht
        simp [h.2] at ht
      have hR1' : Ris w1 b s mv { g with at_ := k } := by
        have := hR1; unfold tk at this; rw [hq] at this; exact this
      clear ht hR1
      go_wp2
      go_end0
      exact ⟨rfl, by rw [HB.out]; exact hR1', hK.trans hK1⟩
    · have hp := nx_pos (s := s) (a := k) (c := 32) (by unfold tkB at hq; simpa using hq) hk
      have hR1' : Ris w1 b s mv { g with at_ := k + 1 } := by
        have := hR1; unfold tk at this; rw [hq] at this; exact this
      clear ht hR1
      go_wp2
      go_roundg (s.size - (k + 1))
      case measure => have := HN.out; omega
      case rel => exact ⟨k + 1, rfl, by omega, hR1', hK.trans hK1, by rw [← HF.out, show s.size - k = (s.size - (k + 1)) + 1 by omega, skipF, if_pos hp]; rfl⟩

set_option maxHeartbeats 800000 in
theorem takeSign_any (b : Nat) (s : ByteArray) (mv : Value) (g : Sc) (c : Nat) (w : World) (hR : Ris w b s mv g) (hs : s.size ≤ 400) (hi : Iv s g) (hb : g.bad < 0) (hc : c < 256) :
    Calls Try.prog 37 #[.pointer (some ⟨b, 0, none⟩), .int .u8 (c : Int)] w fun e w' => e = .returned (.bool (sgB s g c)) ∧ Ris w' b s mv (sg s g c) ∧ Kept (· = b) w w' := by
  have hba : (bl s g).at_ ≤ s.size := hi.bl.1 (by rw [bl_bad]; exact hb)
  have ht := tkB_eq (s := s) (g := bl s g) (by rw [bl_bad]; exact hb) hba c
  have HS : Hid (sgB s g c = tkB s (bl s g) c ∧ sg s g c = tk s (bl s g) c) := by
    have h1 : sgB s g c = tkB s (bl s g) c := by rw [ht]; rfl
    exact ⟨h1, by unfold sg tk; rw [h1]⟩
  clear ht
  go_enter Try.func37, Try.ntmps37
  go_wp2_with fail
  refine (skipBlanks_any b s mv g _ hR hs (hi.1 hb) hb).mono ?_
  rintro e w1 ⟨rfl, hR1, hK1⟩
  go_wp2_with fail
  refine (take_any b s mv (bl s g) c _ hR1 hs hba hc).mono ?_
  rintro e w2 ⟨rfl, hR2, hK2⟩
  go_wp2
  go_ret
  exact ⟨by rw [HS.out.1]; rfl, by rw [HS.out.2]; exact hR2, hK1.trans hK2⟩

set_option maxHeartbeats 400000 in
theorem isLetter_any (c : Int) (w : World) :
    Calls Try.prog 50 #[.int .i64 c] w fun e w' => e = .returned (.bool (letterB c)) ∧ w' = w := by
  unfold letterB
  by_cases h1 : 97 ≤ c
  · by_cases h2 : c ≤ 122
    · go_enter Try.func50, Try.ntmps50
      go_wp2
      go_ret
      exact ⟨by simp [h1, h2], rfl⟩
    · go_enter Try.func50, Try.ntmps50
      go_wp2
      go_ret
      exact ⟨by simp [h1, h2], rfl⟩
  · go_enter Try.func50, Try.ntmps50
    go_wp2
    go_ret
    exact ⟨by simp; omega, rfl⟩

def biB (c : Int) : Bool := decide (c = 38 ∨ c = 33 ∨ c = 39 ∨ c = 91 ∨ c = 46 ∨ c = 40) || letterB c
set_option maxHeartbeats 800000 in
theorem beginsItem_any (c : Int) (w : World) :
    Calls Try.prog 59 #[.int .i64 c] w fun e w' => e = .returned (.bool (biB c)) ∧ w' = w := by
  by_cases h : c = 38 ∨ c = 33 ∨ c = 39 ∨ c = 91 ∨ c = 46 ∨ c = 40
  · have HB : Hid (biB c = true) := by unfold Hid biB; simp [h]
    rcases h with h | h | h | h | h | h
    all_goals
      subst h
      go_enter Try.func59, Try.ntmps59
      go_wp2
      go_ret
      exact ⟨by rw [HB.out]; rfl, rfl⟩
  · have HB : Hid (biB c = letterB c) := by unfold Hid biB; simp [h]
    have q1 : (c == 38) = false := beq_eq_false_iff_ne.2 (by omega)
    have q2 : (c == 33) = false := beq_eq_false_iff_ne.2 (by omega)
    have q3 : (c == 39) = false := beq_eq_false_iff_ne.2 (by omega)
    have q4 : (c == 91) = false := beq_eq_false_iff_ne.2 (by omega)
    have q5 : (c == 46) = false := beq_eq_false_iff_ne.2 (by omega)
    have q6 : (c == 40) = false := beq_eq_false_iff_ne.2 (by omega)
    clear h
    go_enter Try.func59, Try.ntmps59
    go_wp2_with fail
    refine (isLetter_any c _).mono ?_
    rintro e w1 ⟨rfl, rfl⟩
    go_wp2
    go_ret
    exact ⟨by rw [HB.out]; rfl, rfl⟩

/-- meaning. -/
def mnB (c : Int) : Bool := decide (c = 110 ∨ c = 39 ∨ c = 92 ∨ c = 93 ∨ c = 45)
def mnV (c : Int) : Int := if c = 110 then 10 else if mnB c then c else 0
set_option maxHeartbeats 800000 in
theorem meaning_any (c : Int) (w : World) :
    Calls Try.prog 75 #[.int .i64 c] w fun e w' => e = .returned (.tuple #[.int .u8 (mnV c), .bool (mnB c)]) ∧ w' = w := by
  by_cases h : c = 110 ∨ c = 39 ∨ c = 92 ∨ c = 93 ∨ c = 45
  · rcases h with h | h | h | h | h
    all_goals
      subst h
      go_enter Try.func75, Try.ntmps75
      go_wp2
      go_ret2
      exact ⟨rfl, rfl⟩
  · have HB : Hid (mnB c = false ∧ mnV c = 0) := by
      have h1 : mnB c = false := by unfold mnB; simp [h]
      refine ⟨h1, ?_⟩
      unfold mnV; rw [if_neg (by omega), h1]; rfl
    have q1 : (c == 110) = false := beq_eq_false_iff_ne.2 (by omega)
    have q2 : (c == 39) = false := beq_eq_false_iff_ne.2 (by omega)
    have q3 : (c == 92) = false := beq_eq_false_iff_ne.2 (by omega)
    have q4 : (c == 93) = false := beq_eq_false_iff_ne.2 (by omega)
    have q5 : (c == 45) = false := beq_eq_false_iff_ne.2 (by omega)
    clear h
    go_enter Try.func75, Try.ntmps75
    go_wp2
    go_ret2
    exact ⟨by rw [HB.out.1, HB.out.2]; rfl, rfl⟩

end Go.Proofs.Ytagklnaaoclmhaa
