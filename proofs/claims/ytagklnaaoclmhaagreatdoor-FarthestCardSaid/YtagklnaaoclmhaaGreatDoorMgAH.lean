import Derived.Test.YtagklnaaoclmhaaGreatDoorMgAA
import Derived.Lib.Bytealg
import Derived.Laws.IdiomStrings
set_option linter.unusedSimpArgs false
set_option linter.unusedVariables false
namespace Go.Proofs.YtagklnaaoclmhaaGreatDoor
open Go.RowKit

/-- The row of the names that were read, and the parts that are brackets, by their numbers. -/
structure Mv where
  v : Value
  L : List Nat
instance : Coe Mv Value := ⟨Mv.v⟩
abbrev Mv.ownBlock (m : Mv) : Option Nat := m.v.ownBlock

/-- The code's reader in memory; its numbers as the ref's. -/
def Ris (w : World) (b : Nat) (s : ByteArray) (mv : Mv) (g : Sc) : Prop :=
  ∃ z : Int, z = (mv.L.length : Int) ∧ w.heap[b]? = some (.cells #[.string s, .int .i64 g.at_, .int .i64 g.t, .int .i64 z, .int .i64 g.op, mv.v] 138)

theorem Ris.cells {w : World} {b : Nat} {s : ByteArray} {mv : Mv} {g : Sc} (h : Ris w b s mv g) :
    w.cell? ⟨b, 0, none⟩ = some (.string s) ∧ w.cell? ⟨b, 1, none⟩ = some (.int .i64 g.at_) ∧ w.cell? ⟨b, 2, none⟩ = some (.int .i64 g.t) ∧ w.cell? ⟨b, 4, none⟩ = some (.int .i64 g.op) ∧ w.cell? ⟨b, 5, none⟩ = some mv.v := by
  obtain ⟨z, _, h⟩ := h
  refine ⟨?_, ?_, ?_, ?_, ?_⟩ <;> simp [World.cell?, h]
theorem Ris.frozen {w : World} {b : Nat} {s : ByteArray} {mv : Mv} {g : Sc} (h : Ris w b s mv g) (o : Nat) : w.frozen? ⟨b, o, none⟩ = false := by
  obtain ⟨z, _, h⟩ := h
  simp [World.frozen?, h]
theorem Ris.lt {w : World} {b : Nat} {s : ByteArray} {mv : Mv} {g : Sc} (h : Ris w b s mv g) : b < w.heap.size := by
  obtain ⟨z, _, h⟩ := h
  exact objAt_lt (show objAt w b = _ from h)
theorem Ris.drewN {w : World} {b : Nat} {s : ByteArray} {mv : Mv} {g : Sc} (h : Ris w b s mv g) (n : Nat) : Ris (w.drewN n) b s mv g := h
theorem Ris.same {w w' : World} {b : Nat} {s : ByteArray} {mv : Mv} {g : Sc} (h : Ris w b s mv g) (he : w'.heap[b]? = w.heap[b]?) : Ris w' b s mv g := by
  obtain ⟨z, hz, h⟩ := h
  exact ⟨z, hz, by rw [he]; exact h⟩
theorem Ris.kept {w w' : World} {b : Nat} {s : ByteArray} {mv : Mv} {g : Sc} {S : Nat → Prop} (h : Ris w b s mv g) (k : Kept S w w') (hb : ¬ S b) : Ris w' b s mv g := h.same (k.block b h.lt hb)
theorem Ris.alloc {w : World} {b : Nat} {s : ByteArray} {mv : Mv} {g : Sc} (h : Ris w b s mv g) (o : Obj) : Ris (w.alloc o) b s mv g := h.same (Below.heap_alloc _ _ _ h.lt)
theorem Ris.setAt {w : World} {b : Nat} {s : ByteArray} {mv : Mv} {g : Sc} (h : Ris w b s mv g) (x : Nat) : Ris (w.setCell ⟨b, 1, none⟩ (.int .i64 x)) b s mv { g with at_ := x } := by
  obtain ⟨z, hz, h⟩ := h; refine ⟨z, hz, ?_⟩; rw [heap_set_at h]; simp
theorem Ris.setT {w : World} {b : Nat} {s : ByteArray} {mv : Mv} {g : Sc} (h : Ris w b s mv g) (x : Nat) : Ris (w.setCell ⟨b, 2, none⟩ (.int .i64 x)) b s mv { g with t := x } := by
  obtain ⟨z, hz, h⟩ := h; refine ⟨z, hz, ?_⟩; rw [heap_set_at h]; simp
theorem Ris.setOp {w : World} {b : Nat} {s : ByteArray} {mv : Mv} {g : Sc} (h : Ris w b s mv g) (x : Nat) : Ris (w.setCell ⟨b, 4, none⟩ (.int .i64 x)) b s mv { g with op := x } := by
  obtain ⟨z, hz, h⟩ := h; refine ⟨z, hz, ?_⟩; rw [heap_set_at h]; simp
theorem Ris.setM {w : World} {b : Nat} {s : ByteArray} {mv : Mv} {g : Sc} (h : Ris w b s mv g) (x : Value) : Ris (w.setCell ⟨b, 5, none⟩ x) b s ⟨x, mv.L⟩ g := by
  obtain ⟨z, hz, h⟩ := h; refine ⟨z, hz, ?_⟩; rw [heap_set_at h]; simp
/-- The number of brackets is some number. -/
theorem Ris.brk {w : World} {b : Nat} {s : ByteArray} {mv : Mv} {g : Sc} (h : Ris w b s mv g) : w.cell? ⟨b, 3, none⟩ = some (.int .i64 (mv.L.length : Int)) := by
  obtain ⟨z, rfl, h⟩ := h
  simp [World.cell?, h]
theorem Ris.setB {w : World} {b : Nat} {s : ByteArray} {mv : Mv} {g : Sc} (h : Ris w b s mv g) (x : Nat) : Ris (w.setCell ⟨b, 3, none⟩ (.int .i64 ((mv.L.length : Int) + 1))) b s ⟨mv.v, mv.L ++ [x]⟩ g := by
  obtain ⟨z, hz, h⟩ := h; refine ⟨(mv.L.length : Int) + 1, by simp, ?_⟩; rw [heap_set_at h]; simp
/-- What is wrong with a text is no matter of the reader's. -/
theorem Ris.bad {w : World} {b : Nat} {s : ByteArray} {mv : Mv} {g : Sc} (h : Ris w b s mv g) (x : Int) : Ris w b s mv { g with bad := x } := h

/-- next. -/
def nx (s : ByteArray) (a : Nat) : Int := if a = s.size then -1 else (byteAt s a : Int)

set_option maxRecDepth 100000 in
set_option maxHeartbeats 800000 in
theorem next_any (b : Nat) (s : ByteArray) (mv : Mv) (g : Sc) (w : World) (hR : Ris w b s mv g) (hs : s.size ≤ 400) (ha : g.at_ ≤ s.size) :
    Calls Tryz.prog 96 #[.pointer (some ⟨b, 0, none⟩)] w fun e w' => e = .returned (.int .i64 (nx s g.at_)) ∧ ∃ n, w' = w.drewN n := by
  obtain ⟨c0, c1, c2, c3, c4⟩ := hR.cells
  by_cases h1 : g.at_ = s.size
  · have HN : Hid (nx s g.at_ = -1) := by unfold Hid nx; rw [if_pos h1]
    have q : ((g.at_ : Int) == (s.size : Int)) = true := beq_iff_eq.2 (by omega)
    clear h1
    go_enter Tryz.func96, Tryz.ntmps96
    go_wp2
    go_quiet (fail)
    go_wp2
    go_ret
    exact ⟨by rw [HN.out]; rfl, _, rfl⟩
  · have hlt : g.at_ < s.size := by omega
    have HN : Hid (nx s g.at_ = (s[g.at_].toNat : Int)) := by unfold Hid nx; rw [if_neg h1, byteAt_get hlt]
    have q : ((g.at_ : Int) == (s.size : Int)) = false := beq_eq_false_iff_ne.2 (by omega)
    have hb := UInt8.toNat_lt s[g.at_]
    clear h1
    go_enter Tryz.func96, Tryz.ntmps96
    go_wp2
    go_quiet (fail)
    go_wp2
    go_quiet (fail)
    go_wp2
    go_ret
    exact ⟨by rw [HN.out]; rfl, _, World.drewN_drewN ..⟩

/-- take: is it the next? -/
def tkB (s : ByteArray) (g : Sc) (c : Nat) : Bool := decide (nx s g.at_ = (c : Int))
def tk (s : ByteArray) (g : Sc) (c : Nat) : Sc := if tkB s g c then adv g else g

theorem nx_pos {s : ByteArray} {a c : Nat} (h : nx s a = (c : Int)) (ha : a ≤ s.size) : a < s.size ∧ byteAt s a = c := by
  unfold nx at h
  split at h
  · omega
  · exact ⟨by omega, by omega⟩

set_option maxRecDepth 100000 in
set_option maxHeartbeats 800000 in
theorem take_any (b : Nat) (s : ByteArray) (mv : Mv) (g : Sc) (c : Nat) (w : World) (hR : Ris w b s mv g) (hs : s.size ≤ 400) (ha : g.at_ ≤ s.size) (hc : c < 256) :
    Calls Tryz.prog 163 #[.pointer (some ⟨b, 0, none⟩), .int .u8 (c : Int)] w fun e w' => e = .returned (.bool (tkB s g c)) ∧ Ris w' b s mv (tk s g c) ∧ Kept (· = b) w w' := by
  obtain ⟨c0, c1, c2, c3, c4⟩ := hR.cells
  have hf := hR.frozen 1
  go_enter Tryz.func163, Tryz.ntmps163
  go_wp2_with fail
  refine (next_any b s mv g _ hR hs ha).mono ?_
  rintro e w1 ⟨rfl, n1, rfl⟩
  by_cases h : nx s g.at_ = (c : Int)
  · have H1 : Hid (tkB s g c = true ∧ tk s g c = adv g) := by unfold Hid tk tkB; simp [h]
    have q : ((nx s g.at_) != (c : Int)) = false := by simp [h]
    clear h
    generalize nx s g.at_ = x at *
    go_wp2
    go_ret
    exact ⟨by rw [H1.out.1]; rfl, by rw [H1.out.2]; exact (hR.drewN _).setAt _, ((Kept.refl (· = b) w).drewN _).setCell (fun _ => rfl) _⟩
  · have H1 : Hid (tkB s g c = false ∧ tk s g c = g) := by unfold Hid tk tkB; simp [h]
    have q : ((nx s g.at_) != (c : Int)) = true := by simp [h]
    clear h
    generalize nx s g.at_ = x at *
    go_wp2
    go_ret
    exact ⟨by rw [H1.out.1]; rfl, by rw [H1.out.2]; exact hR.drewN _, (Kept.refl _ _).drewN _⟩

end Go.Proofs.YtagklnaaoclmhaaGreatDoor

namespace Go.Proofs.YtagklnaaoclmhaaGreatDoor
open Go.RowKit

theorem tkB_eq {s : ByteArray} {g : Sc} (hb : g.bad < 0) (ha : g.at_ ≤ s.size) (c : Nat) : tkB s g c = (moreB s g && byteAt s g.at_ == c) := by
  unfold tkB moreB nx
  by_cases h : g.at_ = s.size
  · rw [if_pos h]
    have : ¬ g.at_ < s.size := by omega
    simp [this]
  · rw [if_neg h]
    have h2 : g.at_ < s.size := by omega
    rw [Bool.eq_iff_iff]
    simp only [decide_eq_true_eq, Bool.and_eq_true, beq_iff_eq]
    constructor
    · intro h3; exact ⟨⟨hb, h2⟩, by omega⟩
    · intro h3; have := h3.2; omega

set_option maxRecDepth 100000 in
set_option maxHeartbeats 800000 in
theorem skipBlanks_any (b : Nat) (s : ByteArray) (mv : Mv) (g : Sc) (w : World) (hR : Ris w b s mv g) (hs : s.size ≤ 400) (ha : g.at_ ≤ s.size) (hb : g.bad < 0) :
    Calls Tryz.prog 138 #[.pointer (some ⟨b, 0, none⟩)] w fun e w' => e = .returned (.tuple #[]) ∧ Ris w' b s mv (bl s g) ∧ Kept (· = b) w w' := by
  go_enter Tryz.func138, Tryz.ntmps138
  go_wp2
  go_loopg [] (s.size - g.at_) (fun n wr => ∃ k : Nat, n = s.size - k ∧ k ≤ s.size ∧ Ris wr b s mv { g with at_ := k } ∧ Kept (· = b) w wr ∧ Hid (skipF s (s.size - k) k = skipF s (s.size - g.at_) g.at_))
  case atStart => exact ⟨_, rfl, ha, hR, Kept.refl _ _, rfl⟩
  case round =>
    obtain ⟨k, hn, hk, hR2, hK, HF⟩ := hrel
    have HN := hide hn
    clear hn
    go_wp2_with fail
    refine (take_any b s mv { g with at_ := k } 32 _ hR2 hs hk (by decide)).mono ?_
    rintro e w1 ⟨rfl, hR1, hK1⟩
    have ht := tkB_eq (s := s) (g := { g with at_ := k }) hb hk 32
    cases hq : tkB s { g with at_ := k } 32
    · have HB : Hid (bl s g = { g with at_ := k }) := by
        unfold Hid
        refine bl_eq (fun _ => HF.out) (fun h => absurd h (by omega)) (fun _ h => ?_)
        rw [hq] at ht
        have h3 : moreB s { g with at_ := k } = true := by simp [moreB, hb, h.1]
        rw [h3] at ht
        simp [h.2] at ht
      have hR1' : Ris w1 b s mv { g with at_ := k } := by
        have := hR1; unfold tk at this; rw [hq] at this; exact this
      clear ht hR1
      go_wp2
      go_end0
      exact ⟨rfl, by rw [HB.out]; exact hR1', hK.trans hK1⟩
    · have hp := nx_pos (s := s) (a := k) (c := 32) (by unfold tkB at hq; simpa using hq) hk
      have hR1' : Ris w1 b s mv { g with at_ := k + 1 } := by
        have := hR1; unfold tk at this; rw [hq] at this; exact this
      clear ht hR1
      go_wp2
      go_roundg (s.size - (k + 1))
      case measure => have := HN.out; omega
      case rel => exact ⟨k + 1, rfl, by omega, hR1', hK.trans hK1, by rw [← HF.out, show s.size - k = (s.size - (k + 1)) + 1 by omega, skipF, if_pos hp]; rfl⟩

set_option maxRecDepth 100000 in
set_option maxHeartbeats 800000 in
theorem takeSign_any (b : Nat) (s : ByteArray) (mv : Mv) (g : Sc) (c : Nat) (w : World) (hR : Ris w b s mv g) (hs : s.size ≤ 400) (hi : Iv s g) (hb : g.bad < 0) (hc : c < 256) :
    Calls Tryz.prog 140 #[.pointer (some ⟨b, 0, none⟩), .int .u8 (c : Int)] w fun e w' => e = .returned (.bool (sgB s g c)) ∧ Ris w' b s mv (sg s g c) ∧ Kept (· = b) w w' := by
  have hba : (bl s g).at_ ≤ s.size := hi.bl.1 (by rw [bl_bad]; exact hb)
  have ht := tkB_eq (s := s) (g := bl s g) (by rw [bl_bad]; exact hb) hba c
  have HS : Hid (sgB s g c = tkB s (bl s g) c ∧ sg s g c = tk s (bl s g) c) := by
    have h1 : sgB s g c = tkB s (bl s g) c := by rw [ht]; rfl
    exact ⟨h1, by unfold sg tk; rw [h1]⟩
  clear ht
  go_enter Tryz.func140, Tryz.ntmps140
  go_wp2_with fail
  refine (skipBlanks_any b s mv g _ hR hs (hi.1 hb) hb).mono ?_
  rintro e w1 ⟨rfl, hR1, hK1⟩
  go_wp2_with fail
  refine (take_any b s mv (bl s g) c _ hR1 hs hba hc).mono ?_
  rintro e w2 ⟨rfl, hR2, hK2⟩
  go_wp2
  go_ret
  exact ⟨by rw [HS.out.1]; rfl, by rw [HS.out.2]; exact hR2, hK1.trans hK2⟩

set_option maxRecDepth 100000 in
set_option maxHeartbeats 400000 in
theorem isLetter_any (c : Int) (w : World) :
    Calls Tryz.prog 164 #[.int .i64 c] w fun e w' => e = .returned (.bool (letterB c)) ∧ w' = w := by
  unfold letterB
  by_cases h1 : 97 ≤ c
  · by_cases h2 : c ≤ 122
    · go_enter Tryz.func164, Tryz.ntmps164
      go_wp2
      go_ret
      exact ⟨by simp [h1, h2], rfl⟩
    · go_enter Tryz.func164, Tryz.ntmps164
      go_wp2
      go_ret
      exact ⟨by simp [h1, h2], rfl⟩
  · go_enter Tryz.func164, Tryz.ntmps164
    go_wp2
    go_ret
    exact ⟨by simp; omega, rfl⟩

def biB (c : Int) : Bool := decide (c = 38 ∨ c = 33 ∨ c = 39 ∨ c = 91 ∨ c = 46 ∨ c = 40) || letterB c
set_option maxRecDepth 100000 in
set_option maxHeartbeats 800000 in
theorem beginsItem_any (c : Int) (w : World) :
    Calls Tryz.prog 178 #[.int .i64 c] w fun e w' => e = .returned (.bool (biB c)) ∧ w' = w := by
  by_cases h : c = 38 ∨ c = 33 ∨ c = 39 ∨ c = 91 ∨ c = 46 ∨ c = 40
  · have HB : Hid (biB c = true) := by unfold Hid biB; simp [h]
    rcases h with h | h | h | h | h | h
    all_goals
      subst h
      go_enter Tryz.func178, Tryz.ntmps178
      go_wp2
      go_ret
      exact ⟨by rw [HB.out]; rfl, rfl⟩
  · have HB : Hid (biB c = letterB c) := by unfold Hid biB; simp [h]
    have q1 : (c == 38) = false := beq_eq_false_iff_ne.2 (by omega)
    have q2 : (c == 33) = false := beq_eq_false_iff_ne.2 (by omega)
    have q3 : (c == 39) = false := beq_eq_false_iff_ne.2 (by omega)
    have q4 : (c == 91) = false := beq_eq_false_iff_ne.2 (by omega)
    have q5 : (c == 46) = false := beq_eq_false_iff_ne.2 (by omega)
    have q6 : (c == 40) = false := beq_eq_false_iff_ne.2 (by omega)
    clear h
    go_enter Tryz.func178, Tryz.ntmps178
    go_wp2_with fail
    refine (isLetter_any c _).mono ?_
    rintro e w1 ⟨rfl, rfl⟩
    go_wp2
    go_ret
    exact ⟨by rw [HB.out]; rfl, rfl⟩

/-- meaning. -/
def mnB (c : Int) : Bool := decide (c = 110 ∨ c = 39 ∨ c = 92 ∨ c = 93 ∨ c = 45)
def mnV (c : Int) : Int := if c = 110 then 10 else if mnB c then c else 0
set_option maxRecDepth 100000 in
set_option maxHeartbeats 800000 in
theorem meaning_any (c : Int) (w : World) :
    Calls Tryz.prog 217 #[.int .i64 c] w fun e w' => e = .returned (.tuple #[.int .u8 (mnV c), .bool (mnB c)]) ∧ w' = w := by
  by_cases h : c = 110 ∨ c = 39 ∨ c = 92 ∨ c = 93 ∨ c = 45
  · rcases h with h | h | h | h | h
    all_goals
      subst h
      go_enter Tryz.func217, Tryz.ntmps217
      go_wp2
      go_ret2
      exact ⟨rfl, rfl⟩
  · have HB : Hid (mnB c = false ∧ mnV c = 0) := by
      have h1 : mnB c = false := by unfold mnB; simp [h]
      refine ⟨h1, ?_⟩
      unfold mnV; rw [if_neg (by omega), h1]; rfl
    have q1 : (c == 110) = false := beq_eq_false_iff_ne.2 (by omega)
    have q2 : (c == 39) = false := beq_eq_false_iff_ne.2 (by omega)
    have q3 : (c == 92) = false := beq_eq_false_iff_ne.2 (by omega)
    have q4 : (c == 93) = false := beq_eq_false_iff_ne.2 (by omega)
    have q5 : (c == 45) = false := beq_eq_false_iff_ne.2 (by omega)
    clear h
    go_enter Tryz.func217, Tryz.ntmps217
    go_wp2
    go_ret2
    exact ⟨by rw [HB.out.1, HB.out.2]; rfl, rfl⟩

end Go.Proofs.YtagklnaaoclmhaaGreatDoor

namespace Go.Proofs.YtagklnaaoclmhaaGreatDoor
open Go.RowKit

theorem indexByte_in : ∀ (l : List UInt8) (c : UInt8), (0 ≤ Lib.indexByte l c ↔ inB l c.toNat = true)
  | [], c => by simp [Lib.indexByte, inB]
  | b :: l, c => by
    have ih := indexByte_in l c
    have hg := Lib.indexByte_ge l c
    unfold Lib.indexByte
    by_cases h : b = c
    · subst h; simp [inB]
    · have h2 : (b == c) = false := beq_eq_false_iff_ne.2 h
      have h3 : (b.toNat == c.toNat) = false := beq_eq_false_iff_ne.2 (fun e => h (UInt8.toNat_inj.1 e))
      rw [if_neg (by simp [h2])]
      have h4 : inB (b :: l) c.toNat = inB l c.toNat := by simp [inB, h3]
      rw [h4, ← ih]
      by_cases h5 : Lib.indexByte l c = -1
      · rw [h5]; simp
      · rw [if_neg (by simpa using h5)]; omega

set_option maxRecDepth 100000 in
set_option maxHeartbeats 800000 in
theorem indexByte_any (s : ByteArray) (c : Nat) (w : World) (hs : s.size ≤ 1000) (hc : c < 256) :
    Calls Tryz.prog 216 #[.string s, .int .u8 (c : Int)] w fun e w' => ∃ i : Int, e = .returned (.int .i64 i) ∧ (0 ≤ i ↔ inB s.data.toList c = true) ∧ w' = w := by
  have h1 := indexByte_in s.data.toList c.toUInt8
  rw [show c.toUInt8.toNat = c by simp [Nat.toUInt8]; omega] at h1
  go_enter Tryz.func216, Tryz.ntmps216
  go_wp2_with fail
  go_wp2
  rw [run_callFunc_extern Tryz.func219 (by kernel_rfl) (by kernel_rfl) (by kernel_rfl) (e := Extern.BytealgIndexByte.indexByte) (by kernel_rfl), Lib.run_indexByteString]
  simp only [Result.andThen]
  rw [Oper.upon_value]
  go_wp2
  go_ret
  exact ⟨_, rfl, h1, rfl⟩

theorem inB_esc (c : Nat) : inB esc c = mnB (c : Int) := by
  unfold inB esc mnB
  rw [Bool.eq_iff_iff]
  simp
  omega
theorem nx_lt {s : ByteArray} {a : Nat} (h : a < s.size) : nx s a = (byteAt s a : Int) := by unfold nx; rw [if_neg (by omega)]
theorem wr_eq {g : Sc} (h : g.bad < 0) : wr g = { g with bad := g.at_ } := by unfold wr; rw [if_pos h]
theorem mnV_eq {c : Nat} (h : mnB (c : Int) = true) : mnV (c : Int) = ((if c = 110 then 10 else c : Nat) : Int) := by
  unfold mnV
  by_cases hc : c = 110
  · rw [if_pos (by omega), if_pos hc]; rfl
  · rw [if_neg (by omega), if_neg hc, if_pos h]

def escX (s : ByteArray) (g : Sc) (least : Nat) : Nat × Sc := if 93 < least then (0, wr g) else inner2 s (adv g) least

set_option maxRecDepth 100000 in
set_option maxHeartbeats 800000 in
theorem escaped_any (b : Nat) (s : ByteArray) (mv : Mv) (g : Sc) (least : Nat) (w : World) (hR : Ris w b s mv g) (hs : s.size ≤ 400) (hb : g.bad < 0) (hm : g.at_ < s.size) (h92 : byteAt s g.at_ = 92) (hl : least < 256) :
    Calls Tryz.prog 215 #[.pointer (some ⟨b, 0, none⟩), .int .u8 (least : Int)] w fun e w' => e = .returned (.tuple #[.int .u8 ((escX s g least).1 : Int), .bool (decide ((escX s g least).2.bad < 0))]) ∧ Ris w' b s mv (escX s g least).2 ∧ Kept (· = b) w w' := by
  by_cases hl2 : 93 < least
  · have HX : Hid (escX s g least = (0, { g with bad := g.at_ })) := by unfold Hid escX; rw [if_pos hl2, wr_eq hb]
    go_enter Tryz.func215, Tryz.ntmps215
    go_wp2
    go_ret2
    exact ⟨by rw [HX.out]; simp [show ¬ ((g.at_ : Int) < 0) by omega], by rw [HX.out]; exact hR.bad _, Kept.refl _ _⟩
  · have HX : Hid (escX s g least = inner2 s (adv g) least) := by unfold Hid escX; rw [if_neg hl2]
    have hT : tkB s g 92 = true := by unfold tkB; rw [nx_lt hm, h92]; rfl
    have hT2 : tk s g 92 = adv g := by unfold tk; rw [hT]; rfl
    go_enter Tryz.func215, Tryz.ntmps215
    go_wp2_with fail
    refine (take_any b s mv g 92 _ hR hs (by omega) (by decide)).mono ?_
    rintro e w1 ⟨rfl, hR1, hK1⟩
    rw [hT2] at hR1
    rw [hT]
    clear hT hT2 h92
    go_wp2_with fail
    refine (next_any b s mv (adv g) _ hR1 hs (by rw [adv_at]; omega)).mono ?_
    rintro e w2 ⟨rfl, n, rfl⟩
    go_wp2_with fail
    refine (meaning_any _ _).mono ?_
    rintro e w2 ⟨rfl, rfl⟩
    have hR2 := hR1.drewN n
    obtain ⟨c0, c1, c2, c3, c4⟩ := hR2.cells
    have hf := hR2.frozen 1
    have hat : (adv g).at_ ≤ s.size := by rw [adv_at]; omega
    have hbad : (adv g).bad < 0 := hb
    by_cases hq : mnB (nx s (adv g).at_) = true
    · have hlt : (adv g).at_ < s.size := by
        by_cases h : (adv g).at_ = s.size
        · exfalso; revert hq; unfold nx; rw [if_pos h]; decide
        · omega
      have hmore : moreB s (adv g) = true := moreB_true.2 ⟨hb, hlt⟩
      rw [nx_lt hlt] at hq ⊢
      have hv := mnV_eq hq
      rw [hv, hq]
      have hin : inner2 s (adv g) least = if (if byteAt s (adv g).at_ = 110 then 10 else byteAt s (adv g).at_) < least then (0, wr (adv g)) else ((if byteAt s (adv g).at_ = 110 then 10 else byteAt s (adv g).at_), adv (adv g)) := by
        unfold inner2; rw [hmore, inB_esc, hq]; rfl
      have hv2 : (if byteAt s (adv g).at_ = 110 then 10 else byteAt s (adv g).at_) < 256 := by
        have := byteAt_lt s (adv g).at_
        split <;> omega
      clear hv hq
      generalize (if byteAt s (adv g).at_ = 110 then 10 else byteAt s (adv g).at_) = v at *
      by_cases hv3 : v < least
      · rw [if_pos hv3, wr_eq hbad] at hin
        have HX2 := hide (HX.out.trans hin)
        clear hin HX
        go_wp2
        go_ret2
        exact ⟨by rw [HX2.out]; simp [show ¬ (((adv g).at_ : Int) < 0) by omega], by rw [HX2.out]; exact hR2.bad _, hK1.drewN _⟩
      · rw [if_neg hv3] at hin
        have HX2 := hide (HX.out.trans hin)
        clear hin HX
        go_wp2
        go_ret2
        exact ⟨by rw [HX2.out]; simp [show ((adv (adv g)).bad < 0) from hb], by rw [HX2.out]; exact hR2.setAt _, (hK1.drewN _).setCell (fun _ => rfl) _⟩
    · have hq' : mnB (nx s (adv g).at_) = false := by simpa using hq
      have hin : inner2 s (adv g) least = (0, wr (adv g)) := by
        unfold inner2
        cases hm2 : moreB s (adv g)
        · rfl
        · have hlt := (moreB_true.1 hm2).2
          rw [nx_lt hlt, ← inB_esc] at hq'
          rw [hq']; rfl
      rw [wr_eq hbad] at hin
      have HX2 := hide (HX.out.trans hin)
      rw [hq']
      clear hin HX hq
      generalize mnV (nx s (adv g).at_) = v at *
      go_wp2
      go_ret2
      exact ⟨by rw [HX2.out]; simp [show ¬ (((adv g).at_ : Int) < 0) by omega], by rw [HX2.out]; exact hR2.bad _, hK1.drewN _⟩

set_option maxRecDepth 100000 in
set_option maxHeartbeats 800000 in
theorem byteFrom_any (b : Nat) (s bs : ByteArray) (mv : Mv) (g : Sc) (least : Nat) (w : World) (hR : Ris w b s mv g) (hs : s.size ≤ 400) (ha : g.at_ ≤ s.size) (hb : g.bad < 0) (hl : least < 256) (hbs : bs.size ≤ 1000) :
    Calls Tryz.prog 212 #[.pointer (some ⟨b, 0, none⟩), .int .u8 (least : Int), .string bs] w fun e w' => e = .returned (.tuple #[.int .u8 ((inner s g bs.data.toList least).1 : Int), .bool (decide ((inner s g bs.data.toList least).2.bad < 0))]) ∧ Ris w' b s mv (inner s g bs.data.toList least).2 ∧ Kept (· = b) w w' := by
  by_cases hm : g.at_ = s.size
  · have HX : Hid (inner s g bs.data.toList least = (0, { g with bad := g.at_ })) := by
      unfold Hid inner; rw [if_pos (by unfold moreB; simp; omega), wr_eq hb]
    have HN : nx s g.at_ = -1 := by unfold nx; rw [if_pos hm]
    go_enter Tryz.func212, Tryz.ntmps212
    go_wp2_with fail
    refine (next_any b s mv g _ hR hs ha).mono ?_
    rintro e w2 ⟨rfl, n, rfl⟩
    rw [HN]
    clear HN hm
    go_wp2
    go_ret2
    exact ⟨by rw [HX.out]; simp [show ¬ ((g.at_ : Int) < 0) by omega], by rw [HX.out]; exact (hR.drewN n).bad _, (Kept.refl _ _).drewN _⟩
  · have hlt : g.at_ < s.size := by omega
    have hmore : moreB s g = true := moreB_true.2 ⟨hb, hlt⟩
    have HN := nx_lt hlt
    have hv := byteAt_lt s g.at_
    by_cases h92 : byteAt s g.at_ = 92
    · have HX : Hid (inner s g bs.data.toList least = escX s g least) := by
        unfold Hid inner escX; rw [hmore, if_neg (by simp), if_neg (by simp [h92])]
      go_enter Tryz.func212, Tryz.ntmps212
      go_wp2_with fail
      refine (next_any b s mv g _ hR hs ha).mono ?_
      rintro e w2 ⟨rfl, n, rfl⟩
      rw [HN, h92]
      clear HN hm
      go_wp2_with fail
      refine (escaped_any b s mv g least _ (hR.drewN n) hs hb hlt h92 hl).mono ?_
      rintro e w3 ⟨rfl, hR3, hK3⟩
      go_wp2
      go_ret2
      exact ⟨by rw [HX.out]; rfl, by rw [HX.out]; exact hR3, ((Kept.refl _ _).drewN _).trans hK3⟩
    · have hin : inner s g bs.data.toList least = if inB bs.data.toList (byteAt s g.at_) = true then (0, wr g) else if byteAt s g.at_ < least then (0, wr g) else (byteAt s g.at_, adv g) := by
        unfold inner; rw [hmore, if_neg (by simp), if_pos h92]
      go_enter Tryz.func212, Tryz.ntmps212
      go_wp2_with fail
      refine (next_any b s mv g _ hR hs ha).mono ?_
      rintro e w2 ⟨rfl, n, rfl⟩
      rw [HN]
      have hR2 := hR.drewN n
      obtain ⟨c0, c1, c2, c3, c4⟩ := hR2.cells
      have hf := hR2.frozen 1
      clear HN hm
      generalize byteAt s g.at_ = c at *
      have q1 : ((c : Int) == -1) = false := beq_eq_false_iff_ne.2 (by omega)
      have q2 : ((c : Int) == 92) = false := beq_eq_false_iff_ne.2 (by omega)
      by_cases h3 : c < least
      · have HX : Hid (inner s g bs.data.toList least = (0, { g with bad := g.at_ })) := by
          unfold Hid; rw [hin, if_pos h3, ite_self, wr_eq hb]
        clear hin
        go_wp2
        go_ret2
        exact ⟨by rw [HX.out]; simp [show ¬ ((g.at_ : Int) < 0) by omega], by rw [HX.out]; exact hR2.bad _, (Kept.refl _ _).drewN _⟩
      · rw [if_neg h3] at hin
        go_wp2_with fail
        refine (indexByte_any bs c _ hbs hv).mono ?_
        rintro e w3 ⟨i, rfl, hi, rfl⟩
        cases h4 : inB bs.data.toList c
        · rw [h4] at hin hi
          have HX : Hid (inner s g bs.data.toList least = (c, adv g)) := hin
          have hi2 : i < 0 := by
            by_cases h : 0 ≤ i
            · exact absurd (hi.1 h) (by simp)
            · omega
          clear hin hi
          go_wp2
          go_ret2
          exact ⟨by rw [HX.out]; simp [show ((adv g).bad < 0) from hb], by rw [HX.out]; exact hR2.setAt _, ((Kept.refl (· = b) w).drewN _).setCell (fun _ => rfl) _⟩
        · rw [h4] at hin hi
          have HX : Hid (inner s g bs.data.toList least = (0, { g with bad := g.at_ })) := by
            unfold Hid; rw [hin, if_pos rfl, wr_eq hb]
          have hi2 : 0 ≤ i := hi.2 rfl
          clear hin hi
          go_wp2
          go_ret2
          exact ⟨by rw [HX.out]; simp [show ¬ ((g.at_ : Int) < 0) by omega], by rw [HX.out]; exact hR2.bad _, (Kept.refl _ _).drewN _⟩

end Go.Proofs.YtagklnaaoclmhaaGreatDoor

namespace Go.Proofs.YtagklnaaoclmhaaGreatDoor
open Go.RowKit
theorem pk_nx {s : ByteArray} {g : Sc} (hb : g.bad < 0) (ha : g.at_ ≤ s.size) {c : Nat} (hc : 0 < c) : tkB s g c = decide (pk s g = c) := by
  unfold tkB nx pk
  by_cases h : g.at_ = s.size
  · rw [if_pos h, if_neg (by omega)]
    rw [Bool.eq_iff_iff]; simp; omega
  · rw [if_neg h, if_pos ⟨hb, by omega⟩]
    rw [Bool.eq_iff_iff]; simp; omega


theorem byteFrom_c0 (b : Nat) (s : ByteArray) (mv : Mv) (g : Sc) (w : World) (hR : Ris w b s mv g) (hs : s.size ≤ 400) (ha : g.at_ ≤ s.size) (hb : g.bad < 0) :
    Calls Tryz.prog 212 #[.pointer (some ⟨b, 0, none⟩), .int .u8 0, .string ⟨#[10, 93, 45]⟩] w fun e w' => e = .returned (.tuple #[.int .u8 ((inner s g barC 0).1 : Int), .bool (decide ((inner s g barC 0).2.bad < 0))]) ∧ Ris w' b s mv (inner s g barC 0).2 ∧ Kept (· = b) w w' :=
  byteFrom_any b s ⟨#[10, 93, 45]⟩ mv g 0 w hR hs ha hb (by decide) (by decide)
theorem byteFrom_c (b : Nat) (s : ByteArray) (mv : Mv) (g : Sc) (least : Nat) (w : World) (hR : Ris w b s mv g) (hs : s.size ≤ 400) (ha : g.at_ ≤ s.size) (hb : g.bad < 0) (hl : least < 256) :
    Calls Tryz.prog 212 #[.pointer (some ⟨b, 0, none⟩), .int .u8 (least : Int), .string ⟨#[10, 93, 45]⟩] w fun e w' => e = .returned (.tuple #[.int .u8 ((inner s g barC least).1 : Int), .bool (decide ((inner s g barC least).2.bad < 0))]) ∧ Ris w' b s mv (inner s g barC least).2 ∧ Kept (· = b) w w' :=
  byteFrom_any b s ⟨#[10, 93, 45]⟩ mv g least w hR hs ha hb hl (by decide)
theorem byteFrom_l0 (b : Nat) (s : ByteArray) (mv : Mv) (g : Sc) (w : World) (hR : Ris w b s mv g) (hs : s.size ≤ 400) (ha : g.at_ ≤ s.size) (hb : g.bad < 0) :
    Calls Tryz.prog 212 #[.pointer (some ⟨b, 0, none⟩), .int .u8 0, .string ⟨#[10, 39]⟩] w fun e w' => e = .returned (.tuple #[.int .u8 ((inner s g barL 0).1 : Int), .bool (decide ((inner s g barL 0).2.bad < 0))]) ∧ Ris w' b s mv (inner s g barL 0).2 ∧ Kept (· = b) w w' :=
  byteFrom_any b s ⟨#[10, 39]⟩ mv g 0 w hR hs ha hb (by decide) (by decide)

theorem Ris.setO {w : World} {b : Nat} {s : ByteArray} {mv : Mv} {g : Sc} (h : Ris w b s mv g) {k : Nat} (hk : b ≠ k) (o : Nat) (u : Value) : Ris (w.setCell ⟨k, o, none⟩ u) b s mv g := by
  unfold Ris at *
  rw [Below.heap_setCell _ _ _ _ hk]; exact h

theorem cells2 {w : World} {k t : Nat} {u v : Value} (h : w.heap[k]? = some (.cells #[u, v] t)) : w.cell? ⟨k, 0, none⟩ = some u ∧ w.cell? ⟨k, 1, none⟩ = some v ∧ w.frozen? ⟨k, 0, none⟩ = false ∧ w.frozen? ⟨k, 1, none⟩ = false := by
  refine ⟨?_, ?_, ?_, ?_⟩ <;> simp [World.cell?, World.frozen?, h]

set_option maxRecDepth 100000 in
set_option maxHeartbeats 800000 in
theorem oneRange_any (b : Nat) (s : ByteArray) (mv : Mv) (g : Sc) (w : World) (hR : Ris w b s mv g) (hs : s.size ≤ 400) (hi : Iv s g) (hb : g.bad < 0) :
    Calls Tryz.prog 213 #[.pointer (some ⟨b, 0, none⟩)] w fun e w' => e = .returned (.tuple #[.agg #[.int .u8 ((setR s g).1.1 : Int), .int .u8 ((setR s g).1.2 : Int)], .bool (decide ((setR s g).2.bad < 0))]) ∧ Ris w' b s mv (setR s g).2 ∧ Kept (· = b) w w' := by
  obtain ⟨i1, i2, i3, i4, i5, i6⟩ := inner_facts hi barC 0
  have hbl := hR.lt
  go_enter Tryz.func213, Tryz.ntmps213
  go_wp2_with fail
  refine (byteFrom_c0 b s mv g _ (hR.alloc _) hs (hi.1 hb) hb).mono ?_
  rintro e w1 ⟨rfl, hR1, hK1⟩
  have hc : w1.heap[w.heap.size]? = some (.cells #[.int .u8 0, .int .u8 0] 321) := by
    rw [hK1.block _ (by simp) (by omega)]; exact heap_alloc_new _ _
  have hz := hK1.size
  have HK : Hid (Kept (· = b) w w1) := ((Kept.refl _ _).alloc _).trans hK1
  obtain ⟨k0, k1, l0, l1⟩ := cells2 hc
  cases hq : decide ((inner s g barC 0).2.bad < 0)
  · have HS : Hid (setR s g = (((inner s g barC 0).1, (inner s g barC 0).1), (inner s g barC 0).2)) := by
      have hq' : ¬ (inner s g barC 0).2.bad < 0 := by simpa using hq
      unfold Hid setR
      rw [if_neg]
      unfold pk
      rw [if_neg (fun h => hq' h.1)]; decide
    go_wp2
    refine bodyPost_ret (v := .tuple #[.agg #[.int .u8 ((inner s g barC 0).1 : Int), .int .u8 ((inner s g barC 0).1 : Int)], .bool false]) (by simp [results, Tryz.results213, go_sem, k0, k1]) rfl ⟨?_, ?_, ?_⟩
    · rw [HS.out, hq]
    · rw [HS.out]
      exact (hR1.setO (by omega) _ _).setO (by omega) _ _
    · exact (HK.out.setCell (fun h => absurd h (Nat.lt_irrefl _)) _).setCell (fun h => absurd h (Nat.lt_irrefl _)) _
  · have hq1 : (inner s g barC 0).2.bad < 0 := by simpa using hq
    have hpk := pk_nx (s := s) hq1 (i1.1 hq1) (c := 45) (by decide)
    go_wp2_with fail
    refine (take_any b s mv _ 45 _ hR1 hs (i1.1 hq1) (by decide)).mono ?_
    rintro e w2 ⟨rfl, hR2, hK2⟩
    have hc2 : w2.heap[w.heap.size]? = some (.cells #[.int .u8 0, .int .u8 0] 321) := by
      rw [hK2.block _ (by simp at hz; omega) (by omega)]; exact hc
    have HK2 := hide (HK.out.trans hK2)
    obtain ⟨m0, m1, n0, n1⟩ := cells2 hc2
    cases ht : tkB s (inner s g barC 0).2 45
    · have HS : Hid (setR s g = (((inner s g barC 0).1, (inner s g barC 0).1), (inner s g barC 0).2)) := by
        unfold Hid setR
        rw [if_neg]
        rw [ht] at hpk
        simpa using hpk.symm
      have hR2' : Ris w2 b s mv (inner s g barC 0).2 := by unfold tk at hR2; rw [ht] at hR2; exact hR2
      clear hpk hR2
      go_wp2
      refine bodyPost_ret (v := .tuple #[.agg #[.int .u8 ((inner s g barC 0).1 : Int), .int .u8 ((inner s g barC 0).1 : Int)], .bool true]) (by simp [results, Tryz.results213, go_sem, m0, m1]) rfl ⟨?_, ?_, ?_⟩
      · rw [HS.out, hq]
      · rw [HS.out]
        exact (hR2'.setO (by omega) _ _).setO (by omega) _ _
      · exact (HK2.out.setCell (fun h => absurd h (Nat.lt_irrefl _)) _).setCell (fun h => absurd h (Nat.lt_irrefl _)) _
    · have HS : Hid (setR s g = (((inner s g barC 0).1, (inner s (adv (inner s g barC 0).2) barC (inner s g barC 0).1).1), (inner s (adv (inner s g barC 0).2) barC (inner s g barC 0).1).2)) := by
        unfold Hid setR
        rw [if_pos]
        rw [ht] at hpk
        simpa using hpk.symm
      have hR2' : Ris w2 b s mv (adv (inner s g barC 0).2) := by unfold tk at hR2; rw [ht] at hR2; exact hR2
      have hp := nx_pos (s := s) (a := (inner s g barC 0).2.at_) (c := 45) (by unfold tkB at ht; simpa using ht) (i1.1 hq1)
      have j3 := (inner_facts (i1.adv hp.1) barC (inner s g barC 0).1).2.2.1
      clear hpk hR2
      go_wp2_with fail
      refine (byteFrom_c b s mv (adv (inner s g barC 0).2) (inner s g barC 0).1 _ hR2' hs (by rw [adv_at]; omega) hq1 i3).mono ?_
      rintro e w3 ⟨rfl, hR3, hK3⟩
      have hz2 := hK2.size
      have hc3 : w3.heap[w.heap.size]? = some (.cells #[.int .u8 0, .int .u8 0] 321) := by
        rw [hK3.block _ (by simp at hz; omega) (by omega)]; exact hc2
      have HK3 := hide (HK2.out.trans hK3)
      obtain ⟨o0, o1, p0, p1⟩ := cells2 hc3
      go_wp2
      refine bodyPost_ret (v := .tuple #[.agg #[.int .u8 ((inner s g barC 0).1 : Int), .int .u8 ((inner s (adv (inner s g barC 0).2) barC (inner s g barC 0).1).1 : Int)], .bool (decide ((inner s (adv (inner s g barC 0).2) barC (inner s g barC 0).1).2.bad < 0))]) (by simp [results, Tryz.results213, go_sem, o0, o1]) rfl ⟨?_, ?_, ?_⟩
      · rw [HS.out]
      · rw [HS.out]
        exact (hR3.setO (by omega) _ _).setO (by omega) _ _
      · exact (HK3.out.setCell (fun h => absurd h (Nat.lt_irrefl _)) _).setCell (fun h => absurd h (Nat.lt_irrefl _)) _
end Go.Proofs.YtagklnaaoclmhaaGreatDoor

namespace Go.Proofs.YtagklnaaoclmhaaGreatDoor
open Go.RowKit

/-- Where the reader stands behind a piece: at its end, or at what is wrong. -/
structure Ends (w : World) (b : Nat) (s : ByteArray) (mv : Mv) (g : Sc) : Prop where
  good : g.bad < 0 → Ris w b s mv g
  bad : 0 ≤ g.bad → ∃ g', Ris w b s mv g' ∧ (g'.at_ : Int) = g.bad

theorem wr_place (g : Sc) (hb : g.bad < 0) : ((wr g).at_ : Int) = (wr g).bad := by rw [wr_eq hb]
theorem inner2_place {s : ByteArray} {g : Sc} (hb : g.bad < 0) (least : Nat) (h : 0 ≤ (inner2 s g least).2.bad) : ((inner2 s g least).2.at_ : Int) = (inner2 s g least).2.bad := by
  revert h
  unfold inner2
  generalize (if byteAt s g.at_ = 110 then 10 else byteAt s g.at_) = v
  split
  · intro _; exact wr_place g hb
  · split
    · intro _; exact wr_place g hb
    · split
      · intro _; exact wr_place g hb
      · intro h; exact absurd h (by simp [adv]; omega)
theorem inner_place {s : ByteArray} {g : Sc} (hb : g.bad < 0) (l : List UInt8) (least : Nat) (h : 0 ≤ (inner s g l least).2.bad) : ((inner s g l least).2.at_ : Int) = (inner s g l least).2.bad := by
  revert h
  unfold inner
  split
  · intro _; exact wr_place g hb
  · split
    · split
      · intro _; exact wr_place g hb
      · split
        · intro _; exact wr_place g hb
        · intro h; exact absurd h (by simp [adv]; omega)
    · split
      · intro _; exact wr_place g hb
      · intro h; exact inner2_place (g := adv g) hb least h

theorem litF_bad {s : ByteArray} {n : Nat} {acc : List UInt8} {g : Sc} (h : 0 ≤ g.bad) : litF s n acc g = (acc, g) := by
  cases n with
  | zero => rfl
  | succ n => rw [litF, if_neg (by omega)]

def u8V (b : UInt8) : Value := .int .u8 (b.toNat : Int)
theorem info5 : (Tryz.prog.info? 5).map (fun i => (i.zero, i.size, i.bytes)) = some (some (.int .u8 0), 1, 1) := by kernel_rfl

/-- A list of bytes of one's own, made a text. -/
theorem convert_own {w : World} {base : Nat} {v : Value} {l : List UInt8} (h : w.ownsRow base 5 1 v l.length (l.map u8V)) :
    (convert 110 9 v).run Tryz.prog w = .ok (.string (ba l)) w := by
  rcases h.2 with ⟨rfl, h0⟩ | ⟨g, cap, cur, rfl, _, hg, _, _, _, htake⟩
  · have : l = [] := List.length_eq_zero_iff.1 h0
    subst this
    rw [run_convert_bytes_string w 110 9 5 _ 0 0 Tryz.underlying110 Tryz.underlying5 Tryz.underlying9]
    rfl
  · refine run_convert_bytes_back (P := Tryz.prog) w 110 9 5 ⟨g, 0, none⟩ cap l Tryz.underlying110 Tryz.underlying5 Tryz.underlying9 (fun j hj => ?_)
    exact h.cells rfl j _ (by rw [List.getElem?_map, List.getElem?_eq_getElem hj]; rfl)

theorem own_kept {w w' : World} {S : Nat → Prop} {base e size n : Nat} {v : Value} {xs : List Value} (h : w.ownsRow base e size v n xs) (k : Kept S w w') (hn : ∀ i, v.ownBlock = some i → ¬ S i) : w'.ownsRow base e size v n xs := by
  refine ⟨h.1, ?_⟩
  rcases h.2 with hv | ⟨g, cap, cur, rfl, hb, hgg, rest⟩
  · exact .inl hv
  · refine .inr ⟨g, cap, cur, rfl, hb, ?_, rest⟩
    rw [k.block g (Array.getElem?_eq_some_iff.1 hgg).1 (hn g rfl)]
    exact hgg

set_option maxRecDepth 100000 in
set_option maxHeartbeats 800000 in
theorem literal_any (b : Nat) (s : ByteArray) (mv : Mv) (g : Sc) (w : World) (hR : Ris w b s mv g) (hs : s.size ≤ 400) (hi : Iv s g) (hb : g.bad < 0) :
    Calls Tryz.prog 206 #[.pointer (some ⟨b, 0, none⟩)] w fun e w' => (∃ t, e = .returned (.tuple #[.string t, .bool (decide ((lit s g).2.bad < 0))]) ∧ ((lit s g).2.bad < 0 → t = ba (lit s g).1)) ∧ Ends w' b s mv (lit s g).2 ∧ Kept (· = b) w w' := by
  obtain ⟨i0, hi0, hz0, hz1, hz2⟩ := info_parts info5
  have hbw := hR.lt
  obtain ⟨L, hL⟩ : ∃ L, litF s (s.size + 2) [] g = L := ⟨_, rfl⟩
  have HP : Hid (lit s g = (L.1, adv L.2)) := by unfold Hid lit; rw [hL]
  have HL : Hid (litF s (s.size + 1 + 1) [] g = L) := hL
  clear hL
  go_enter Tryz.func206, Tryz.ntmps206
  go_wp2
  go_loopg [4] (s.size + 1) (fun n v wx => ∃ acc g6, rk s g6 ≤ n ∧ Iv s g6 ∧ g6.bad < 0 ∧ acc.length + rk s g6 ≤ 401 ∧ Ris wx b s mv g6 ∧ wx.ownsRow w.heap.size 5 1 v acc.length (acc.map u8V) ∧ Kept (· = b) w wx ∧ Hid (litF s (n + 1) acc g6 = L))
  case atStart => exact ⟨[], g, rk_le _ _, hi, hb, by have := rk_le s g; simp; omega, hR, World.ownsRow_nil _ _ _ _, Kept.refl _ _, HL.out⟩
  case round =>
    obtain ⟨acc, g6, hrk, hI6, hb6, hal, hR6, hO6, hK6, HR⟩ := hrel
    obtain ⟨m, hm⟩ : ∃ m, m = gk := ⟨gk, rfl⟩
    subst hm
    have ht := pk_nx (s := s) hb6 (hI6.1 hb6) (c := 39) (by decide)
    go_wp2_with fail
    refine (take_any b s mv g6 39 _ hR6 hs (hI6.1 hb6) (by decide)).mono ?_
    rintro e w7 ⟨rfl, hR7, hK7⟩
    have hO7 := own_kept hO6 hK7 (fun i hi' => by have := (hO6.lt i hi').1; omega)
    have hK7' := hK6.trans hK7
    cases hq : tkB s g6 39
    · have hpk : pk s g6 ≠ 39 := by rw [hq] at ht; simpa using ht.symm
      have h1 := HR.out
      rw [litF, if_pos ⟨hb6, hpk⟩] at h1
      have H1 := hide h1
      have hR7' : Ris w7 b s mv g6 := by unfold tk at hR7; rw [hq] at hR7; exact hR7
      clear h1 HR hpk ht hR7
      obtain ⟨i1, i2, i3, i4, i5, i6⟩ := inner_facts hI6 barL 0
      have hpl := inner_place (s := s) hb6 barL 0
      have HM : Hid (rk s (inner s g6 barL 0).2 < rk s g6 ∧ rk s g6 ≤ m ∧ acc.length + rk s g6 ≤ 401) := ⟨rk_lt hI6 hb6 (fun h => (i6 h).2), hrk, hal⟩
      have hal' : acc.length ≤ 401 := by omega
      clear hrk hal
      go_wp2_with fail
      refine (byteFrom_l0 b s mv g6 _ hR7' hs (hI6.1 hb6) hb6).mono ?_
      rintro e w8 ⟨rfl, hR8, hK8⟩
      have hO8 := own_kept hO7 hK8 (fun i hi' => by have := (hO7.lt i hi').1; omega)
      have hK8' := hK7'.trans hK8
      have hz8 := hK8'.size
      generalize inner s g6 barL 0 = I at *
      obtain ⟨x, g8⟩ := I
      dsimp only at *
      cases hq8 : decide (g8.bad < 0)
      · have hb8 : ¬ g8.bad < 0 := by simpa using hq8
        have h2 := H1.out
        rw [litF_bad (by omega)] at h2
        subst h2
        have HP2 : Hid ((lit s g).2.bad = g8.bad) := by unfold Hid; rw [HP.out]; rfl
        go_wp2
        go_ret2
        refine ⟨⟨_, by rw [HP2.out, hq8]; rfl, fun h => absurd h (by rw [HP2.out]; omega)⟩, ⟨fun h => absurd h (by rw [HP2.out]; omega), fun _ => ⟨g8, hR8, by rw [HP2.out]; exact hpl (by omega)⟩⟩, hK8'⟩
      · have hb8 : g8.bad < 0 := by simpa using hq8
        go_wp2_with (at_builtin; refine wpList_append_lies _ rfl _ _ _ rfl w.heap.size 5 i0 _ 1 1 Tryz.underlying110 hi0 hz0 hz1 hz2 rfl (by omega) u4 acc.length (acc.map u8V) (by rfl) (hO8.alloc _) ⟨w8.heap.size, 0, none⟩ 1 1 [.int .u8 (x : Int)] (by rfl) rfl (World.news_of_block (cs := #[.int .u8 (x : Int)]) (t := 5) (fr := (0, 0)) (heap_alloc_new w8 _)) (by simp [Value.oneCell']) (by omega) (by simp [maxLen]; omega) (by omega) (by simp; omega) (w8.heap.size + 1) (by simp) ?_; intro gg cap w9 hown hgrow hat hlt)
        go_roundg (m - 1)
        case measure => have := HM.out; omega
        case rel =>
          have := HM.out
          have hKg : Kept (· = b) w w9 := (hK8'.alloc _).grown hgrow (fun k hk hlt' => by have := (hO8.lt k hk).1; omega)
          refine ⟨acc ++ [x.toUInt8], g8, by omega, i1, hb8, by simp; omega, ?_, ?_, hKg, ?_⟩
          · have hk8 : Kept (fun k => u4.ownBlock = some k) w8 w9 := ((Kept.refl _ w8).alloc _).grown hgrow (fun k hk _ => hk)
            exact hR8.kept hk8 (fun h => by have := (hO8.lt b h).1; omega)
          · have hx : u8V x.toUInt8 = .int .u8 (x : Int) := by
              unfold u8V
              rw [show x.toUInt8.toNat = x by simp [Nat.toUInt8]; omega]
            rw [List.length_append, List.map_append, List.map_cons, List.map_nil, hx]
            exact hown
          · rw [show m - 1 + 1 = m by omega]; exact H1.out
    · have hpk : pk s g6 = 39 := by rw [hq] at ht; simpa using ht.symm
      have h1 := HR.out
      rw [litF, if_neg (by simp [hpk])] at h1
      subst h1
      have hR7' : Ris w7 b s mv (adv g6) := by unfold tk at hR7; rw [hq] at hR7; exact hR7
      have hcv := convert_own hO7
      have HP2 : Hid (lit s g = (acc, adv g6)) := HP
      clear HR hpk ht hR7 HL
      go_wp2
      go_ret2
      refine ⟨⟨ba acc, by rw [HP2.out]; simp [show (adv g6).bad < 0 from hb6], fun h => by rw [HP2.out]⟩, by rw [HP2.out]; exact ⟨fun _ => hR7', fun h => absurd h (by show ¬ 0 ≤ g6.bad; omega)⟩, hK7'⟩
end Go.Proofs.YtagklnaaoclmhaaGreatDoor

namespace Go.Proofs.YtagklnaaoclmhaaGreatDoor
open Go.RowKit

theorem setR_place {s : ByteArray} {g : Sc} (hi : Iv s g) (hb : g.bad < 0) (h : 0 ≤ (setR s g).2.bad) : ((setR s g).2.at_ : Int) = (setR s g).2.bad := by
  revert h
  unfold setR
  split
  · next h45 =>
    obtain ⟨p1, p2, p3⟩ := pk_pos (s := s) (g := (inner s g barC 0).2) (by omega)
    intro h; exact inner_place (g := adv (inner s g barC 0).2) p1 _ _ h
  · intro h; exact inner_place hb _ _ h

theorem setF_bad {s : ByteArray} {n : Nat} {f : Bool} {g : Sc} (h : 0 ≤ g.bad) : setF s n f g = ([], g) := by
  cases n with
  | zero => rfl
  | succ n => rw [setF, if_neg (by omega)]
theorem setF_end {s : ByteArray} {n : Nat} {g : Sc} (h : pk s g = 93) : setF s n false g = ([], g) := by
  cases n with
  | zero => rfl
  | succ n => rw [setF, if_neg (by simp [h])]
theorem setF_first {s : ByteArray} {n : Nat} {g : Sc} (hb : g.bad < 0) (h : pk s g ≠ 93) : setF s (n + 1) false g = setF s (n + 1) true g := by
  rw [setF, setF, if_pos ⟨hb, .inr h⟩, if_pos ⟨hb, .inl rfl⟩]

def rgV (r : Nat × Nat) : List Value := [.int .u8 (r.1 : Int), .int .u8 (r.2 : Int)]
theorem info118 : (Tryz.prog.info? 321).map (fun i => (i.zero, i.size, i.bytes)) = some (some (.agg #[.int .u8 0, .int .u8 0]), 2, 2) := by kernel_rfl

set_option maxRecDepth 100000 in
set_option maxHeartbeats 1600000 in
theorem ranges_any (b : Nat) (s : ByteArray) (mv : Mv) (g : Sc) (w : World) (hR : Ris w b s mv g) (hs : s.size ≤ 400) (hi : Iv s g) (hb : g.bad < 0) :
    Calls Tryz.prog 207 #[.pointer (some ⟨b, 0, none⟩)] w fun e w' => (∃ v, e = .returned (.tuple #[v, .bool (decide ((set s g).2.bad < 0))]) ∧ ((set s g).2.bad < 0 → w'.ownsRow w.heap.size 321 2 v (set s g).1.length ((set s g).1.flatMap rgV)) ∧ (0 ≤ (set s g).2.bad → v = .slice none 0 0)) ∧ Ends w' b s mv (set s g).2 ∧ Kept (· = b) w w' := by
  obtain ⟨i0, hi0, hz0, hz1, hz2⟩ := info_parts info118
  have hbw := hR.lt
  obtain ⟨L, hL⟩ : ∃ L, setF s (s.size + 2) true g = L := ⟨_, rfl⟩
  have HP : Hid (set s g = (L.1, adv L.2)) := by unfold Hid set; rw [hL]
  have HL : Hid ([] ++ (setF s (s.size + 1 + 1) true g).1 = L.1 ∧ (setF s (s.size + 1 + 1) true g).2 = L.2) := by
    unfold Hid; rw [hL]; exact ⟨rfl, rfl⟩
  clear hL
  go_enter Tryz.func207, Tryz.ntmps207
  go_wp2
  go_loopg [4] (s.size + 1) (fun n v wx => ∃ acc g6, rk s g6 ≤ n ∧ Iv s g6 ∧ g6.bad < 0 ∧ acc.length + rk s g6 ≤ 401 ∧ Ris wx b s mv g6 ∧ wx.ownsRow w.heap.size 321 2 v acc.length (acc.flatMap rgV) ∧ Kept (· = b) w wx ∧ Hid (acc ++ (setF s (n + 1) true g6).1 = L.1 ∧ (setF s (n + 1) true g6).2 = L.2))
  case atStart => exact ⟨[], g, rk_le _ _, hi, hb, by have := rk_le s g; simp; omega, hR, World.ownsRow_nil _ _ _ _, Kept.refl _ _, HL.out⟩
  case round =>
    obtain ⟨acc, g6, hrk, hI6, hb6, hal, hR6, hO6, hK6, HR⟩ := hrel
    obtain ⟨m, hm⟩ : ∃ m, m = gk := ⟨gk, rfl⟩
    subst hm
    have h1 := HR.out
    rw [setF, if_pos ⟨hb6, .inl rfl⟩] at h1
    have H1 := hide h1
    clear h1 HR
    obtain ⟨i1, i2, i3, i4, i5, i6, i7⟩ := setR_facts hI6
    have hpl := setR_place hI6 hb6
    have HM : Hid (rk s (setR s g6).2 < rk s g6 ∧ rk s g6 ≤ m ∧ acc.length + rk s g6 ≤ 401) := ⟨rk_lt hI6 hb6 (fun h => (i7 h).2), hrk, hal⟩
    have hal' : acc.length ≤ 401 := by omega
    clear hrk hal
    go_wp2_with fail
    refine (oneRange_any b s mv g6 _ hR6 hs hI6 hb6).mono ?_
    rintro e w8 ⟨rfl, hR8, hK8⟩
    have hO8 := own_kept hO6 hK8 (fun i hi' => by have := (hO6.lt i hi').1; omega)
    have hK8' := hK6.trans hK8
    have hz8 := hK8'.size
    generalize setR s g6 = I at *
    obtain ⟨⟨x, y⟩, g8⟩ := I
    dsimp only at *
    cases hq8 : decide (g8.bad < 0)
    · have hb8 : ¬ g8.bad < 0 := by simpa using hq8
      have h2 := H1.out
      rw [setF_bad (by omega)] at h2
      have HP2 : Hid ((set s g).2.bad = g8.bad) := by unfold Hid; rw [HP.out, ← h2.2]; rfl
      go_wp2
      go_ret2
      refine ⟨⟨.slice none 0 0, by rw [HP2.out, hq8]; rfl, fun h => absurd h (by rw [HP2.out]; omega), fun _ => rfl⟩, ⟨fun h => absurd h (by rw [HP2.out]; omega), fun _ => ⟨g8, hR8.alloc _, by rw [HP2.out]; exact hpl (by omega)⟩⟩, hK8'.alloc _⟩
    · have hb8 : g8.bad < 0 := by simpa using hq8
      have ht := pk_nx (s := s) hb8 (i1.1 hb8) (c := 93) (by decide)
      go_wp2_with (at_builtin; refine wpList_append_lies _ rfl _ _ _ rfl w.heap.size 321 i0 _ 2 2 Tryz.underlying200 hi0 hz0 hz1 hz2 rfl (by omega) u4 acc.length (acc.flatMap rgV) (by rfl) ((hO8.alloc _).alloc _) ⟨w8.heap.size + 1, 0, none⟩ 1 1 [.int .u8 (x : Int), .int .u8 (y : Int)] (by rfl) rfl (World.news_of_block (cs := #[.int .u8 (x : Int), .int .u8 (y : Int)]) (t := 321) (fr := (0, 0)) (by simpa using heap_alloc_new (w8.alloc (.cells #[.int .u8 (x : Int), .int .u8 (y : Int)] 321)) _)) (by simp [Value.oneCell']) (by omega) (by simp [maxLen]; omega) (by omega) (by simp; omega) (w8.heap.size + 2) (by simp) ?_; intro gg cap w9 hown hgrow hat hlt)
      have hKg : Kept (· = b) w w9 := ((hK8'.alloc _).alloc _).grown hgrow (fun k hk hlt' => by have := (hO8.lt k hk).1; omega)
      have hk8 : Kept (fun k => u4.ownBlock = some k) w8 w9 := (((Kept.refl _ w8).alloc _).alloc _).grown hgrow (fun k hk _ => hk)
      have hR9 : Ris w9 b s mv g8 := hR8.kept hk8 (fun h => by have := (hO8.lt b h).1; omega)
      have hO9 : w9.ownsRow w.heap.size 321 2 (.slice (some ⟨gg, 0, none⟩) (acc.length + 1) cap) (acc ++ [(x, y)]).length ((acc ++ [(x, y)]).flatMap rgV) := by
        rw [List.length_append, List.flatMap_append]
        simpa [rgV] using hown
      refine (take_any b s mv g8 93 _ hR9 hs (i1.1 hb8) (by decide)).mono ?_
      rintro e w10 ⟨rfl, hR10, hK10⟩
      have hO10 := own_kept hO9 hK10 (fun i hi' => by have := (hO9.lt i hi').1; omega)
      have hK10' := hKg.trans hK10
      generalize hsl : Value.slice (some ⟨gg, 0, none⟩) (acc.length + 1) cap = v10 at *
      clear hown hgrow hat hlt hKg hk8 hR9 hO9 hK10 hO8 hK8' hK8
      cases hq : tkB s g8 93
      · have hpk : pk s g8 ≠ 93 := by rw [hq] at ht; simpa using ht.symm
        have hR10' : Ris w10 b s mv g8 := by unfold tk at hR10; rw [hq] at hR10; exact hR10
        clear hR10 ht
        have hrk8 : 0 < rk s g8 := by
          have := i1.1 hb8
          unfold rk; rw [if_pos hb8]; omega
        have HH : Hid (0 < m) := by have := HM.out; unfold Hid; omega
        have H2 : Hid ((acc ++ [(x, y)]) ++ (setF s (m - 1 + 1) true g8).1 = L.1 ∧ (setF s (m - 1 + 1) true g8).2 = L.2) := by
          have := HH.out
          have h2 := H1.out
          rw [← setF_first hb8 hpk, show m - 1 + 1 = m by omega]
          exact ⟨by rw [List.append_assoc]; exact h2.1, h2.2⟩
        clear hrk8
        go_wp2
        go_roundg (m - 1)
        case measure => have := HM.out; omega
        case rel =>
          have := HM.out
          exact ⟨acc ++ [(x, y)], g8, by omega, i1, hb8, by simp; omega, hR10', hO10, hK10', H2.out⟩
      · have hpk : pk s g8 = 93 := by rw [hq] at ht; simpa using ht.symm
        have hR10' : Ris w10 b s mv (adv g8) := by unfold tk at hR10; rw [hq] at hR10; exact hR10
        clear hR10 ht
        have h2 := H1.out
        rw [setF_end hpk] at h2
        have HP2 : Hid (set s g = (acc ++ [(x, y)], adv g8)) := by unfold Hid; rw [HP.out, ← h2.1, ← h2.2]
        clear h2 H1 HP HL
        go_wp2
        go_ret2
        refine ⟨⟨v10, by rw [HP2.out]; simp [show (adv g8).bad < 0 from hb8], fun h => by rw [HP2.out]; exact hO10, fun h => absurd h (by rw [HP2.out]; show ¬ 0 ≤ g8.bad; omega)⟩, by rw [HP2.out]; exact ⟨fun _ => hR10', fun h => absurd h (by show ¬ 0 ≤ g8.bad; omega)⟩, hK10'⟩
end Go.Proofs.YtagklnaaoclmhaaGreatDoor
