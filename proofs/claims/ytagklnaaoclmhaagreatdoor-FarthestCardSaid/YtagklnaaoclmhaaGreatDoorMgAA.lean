import Derived.Test.YtagklnaaoclmhaaGreatDoorRows
import Derived.WalkKit
import Derived.WalkSpells
import Derived.WalkLawsBesides
import Derived.BigQuiet
import Derived.Deep.QuietTactic
import Derived.Deep.RegionHeld3
import Derived.Deep.RegionLaw
import Derived.Deep.AppendLies
import Derived.OwnWalk
import Derived.BigRegion
import Derived.Deep.LoopGhost
import Derived.Deep.MidRow
import Derived.Deep.WholeRow
import Derived.Laws.BytesString
set_option linter.unusedSimpArgs false
set_option linter.unusedVariables false
namespace Go.Proofs.YtagklnaaoclmhaaGreatDoor
open Go.RowKit

/-- Each is one cell. -/
def ones (c : Array Value) : Bool := c.all (·.oneCell')

theorem hide {p : Prop} (h : p) : Hid p := h

theorem unhide {p : Prop} (h : Hid p) : p := h

/-- What lies at a block: a word that the walk's simp does not open. -/
def objAt (w : World) (k : Nat) : Option Obj := w.heap[k]?

theorem objAt_drew (w : World) (k : Nat) : objAt w.drew k = objAt w k := rfl

theorem objAt_drewN (w : World) (n k : Nat) : objAt (w.drewN n) k = objAt w k := rfl

theorem objAt_new (w : World) (o : Obj) : objAt (w.alloc o) w.heap.size = some o := by
  show (w.heap.push o)[w.heap.size]? = some o
  simp

theorem objAt_old (w : World) (o : Obj) {k : Nat} (h : k < w.heap.size) : objAt (w.alloc o) k = objAt w k := Below.heap_alloc w o k h

theorem objAt_lt {w : World} {k : Nat} {o : Obj} (h : objAt w k = some o) : k < w.heap.size := by
  unfold objAt at h
  rcases Nat.lt_or_ge k w.heap.size with h1 | h1
  · exact h1
  · rw [Array.getElem?_eq_none h1] at h; cases h

theorem objAt_other (w : World) (a : Addr) (u : Value) {k : Nat} (h : k ≠ a.block) : objAt (w.setCell a u) k = objAt w k := Below.heap_setCell w a u k h

/-- Of what was there, all blocks outside S are as they were. -/
structure Kept (S : Nat → Prop) (w w' : World) : Prop where
  os : w'.os = w.os
  tape : w'.tape = w.tape
  output : w'.output = w.output
  size : w.heap.size ≤ w'.heap.size
  block : ∀ k, k < w.heap.size → ¬ S k → w'.heap[k]? = w.heap[k]?

theorem Kept.refl (S : Nat → Prop) (w : World) : Kept S w w := ⟨rfl, rfl, rfl, Nat.le_refl _, fun _ _ _ => rfl⟩

theorem Kept.trans {S : Nat → Prop} {a b c : World} (h : Kept S a b) (k : Kept S b c) : Kept S a c :=
  ⟨k.os.trans h.os, k.tape.trans h.tape, k.output.trans h.output, Nat.le_trans h.size k.size, fun i hi hs => (k.block i (Nat.lt_of_lt_of_le hi h.size) hs).trans (h.block i hi hs)⟩

theorem Kept.mono {S T : Nat → Prop} {a b : World} (h : Kept S a b) (hs : ∀ k, k < a.heap.size → S k → T k) : Kept T a b :=
  ⟨h.os, h.tape, h.output, h.size, fun i hi ht => h.block i hi (fun x => ht (hs i hi x))⟩

theorem Kept.drewN {S : Nat → Prop} {a w : World} (h : Kept S a w) (n : Nat) : Kept S a (w.drewN n) := ⟨h.os, h.tape, h.output, h.size, h.block⟩

theorem Kept.drew {S : Nat → Prop} {a w : World} (h : Kept S a w) : Kept S a w.drew := ⟨h.os, h.tape, h.output, h.size, h.block⟩

theorem Kept.alloc {S : Nat → Prop} {a w : World} (h : Kept S a w) (o : Obj) : Kept S a (w.alloc o) :=
  h.trans ⟨rfl, rfl, rfl, by simp, fun k hk _ => Below.heap_alloc _ _ _ hk⟩

theorem Kept.setCell {S : Nat → Prop} {a w : World} (h : Kept S a w) {p : Addr} (hp : p.block < a.heap.size → S p.block) (u : Value) : Kept S a (w.setCell p u) :=
  ⟨h.os, h.tape, h.output, by simpa [World.setCell] using h.size, fun k hk hs => by
    have hne : k ≠ p.block := fun e => by subst e; exact hs (hp hk)
    rw [Below.heap_setCell _ _ _ _ hne]; exact h.block k hk hs⟩

theorem Kept.grown {S : Nat → Prop} {a w w' : World} {row : Option Nat} (h : Kept S a w) (hg : w.grownBy w' row) (hr : ∀ k, row = some k → k < a.heap.size → S k) : Kept S a w' :=
  ⟨hg.os.trans h.os, hg.tape.trans h.tape, hg.output.trans h.output, Nat.le_trans h.size hg.size, fun k hk hs => by
    rw [hg.block k (Nat.lt_of_lt_of_le hk h.size) (fun e => hs (hr k e.symm hk))]; exact h.block k hk hs⟩

theorem Kept.cell {S : Nat → Prop} {w w' : World} (h : Kept S w w') {p : Addr} (hp : p.block < w.heap.size) (hs : ¬ S p.block) : w'.cell? p = w.cell? p := World.cell?_of_block (w := w) (h.block p.block hp hs)

theorem Kept.frozen {S : Nat → Prop} {w w' : World} (h : Kept S w w') {p : Addr} (hp : p.block < w.heap.size) (hs : ¬ S p.block) : w'.frozen? p = w.frozen? p := World.frozen?_of_block (w := w) (h.block p.block hp hs)

theorem Kept.below {B : Nat} {w w' : World} (h : Kept (fun k => B ≤ k) w w') (hB : B ≤ w.heap.size) : Below B w w' :=
  ⟨h.os, h.tape, h.output, h.size, fun k hk => h.block k (by omega) (by omega)⟩

def letterB (c : Int) : Bool := decide (97 ≤ c ∧ c ≤ 122)

/-- The ref's grammar's numbers. -/
structure Sc where
  t : Nat
  bad : Int
  at_ : Nat
  op : Nat

/-- The ref's grammar in memory. -/
def Gis (w : World) (b : Nat) (s : ByteArray) (nv rv : Value) (g : Sc) : Prop :=
  w.heap[b]? = some (.cells #[nv, rv, .int .i64 g.t, .int .i64 g.bad, .string s, .int .i64 g.at_, .int .i64 g.op] 66)

theorem Gis.cells {w : World} {b : Nat} {s : ByteArray} {nv rv : Value} {g : Sc} (h : Gis w b s nv rv g) :
    w.cell? ⟨b, 0, none⟩ = some nv ∧ w.cell? ⟨b, 1, none⟩ = some rv ∧ w.cell? ⟨b, 2, none⟩ = some (.int .i64 g.t) ∧ w.cell? ⟨b, 3, none⟩ = some (.int .i64 g.bad) ∧
    w.cell? ⟨b, 4, none⟩ = some (.string s) ∧ w.cell? ⟨b, 5, none⟩ = some (.int .i64 g.at_) ∧ w.cell? ⟨b, 6, none⟩ = some (.int .i64 g.op) := by
  unfold Gis at h
  refine ⟨?_, ?_, ?_, ?_, ?_, ?_, ?_⟩ <;> simp [World.cell?, h]

theorem Gis.frozen {w : World} {b : Nat} {s : ByteArray} {nv rv : Value} {g : Sc} (h : Gis w b s nv rv g) (o : Nat) : w.frozen? ⟨b, o, none⟩ = false := by
  unfold Gis at h
  simp [World.frozen?, h]

theorem Gis.lt {w : World} {b : Nat} {s : ByteArray} {nv rv : Value} {g : Sc} (h : Gis w b s nv rv g) : b < w.heap.size := by
  unfold Gis at h
  rcases Nat.lt_or_ge b w.heap.size with h1 | h1
  · exact h1
  · rw [Array.getElem?_eq_none h1] at h; cases h

theorem Gis.drewN {w : World} {b : Nat} {s : ByteArray} {nv rv : Value} {g : Sc} (h : Gis w b s nv rv g) (n : Nat) : Gis (w.drewN n) b s nv rv g := h

theorem Gis.kept {w w' : World} {b : Nat} {s : ByteArray} {nv rv : Value} {g : Sc} {S : Nat → Prop} (h : Gis w b s nv rv g) (k : Kept S w w') (hb : ¬ S b) : Gis w' b s nv rv g := by
  have := h.lt
  unfold Gis at *
  rw [k.block b this hb]; exact h

theorem Gis.alloc {w : World} {b : Nat} {s : ByteArray} {nv rv : Value} {g : Sc} (h : Gis w b s nv rv g) (o : Obj) : Gis (w.alloc o) b s nv rv g := by
  have := h.lt
  unfold Gis at *
  rw [Below.heap_alloc _ _ _ this]; exact h

theorem Gis.setOther {w : World} {b : Nat} {s : ByteArray} {nv rv : Value} {g : Sc} (h : Gis w b s nv rv g) {p : Addr} (hp : b ≠ p.block) (u : Value) : Gis (w.setCell p u) b s nv rv g := by
  unfold Gis at *
  rw [Below.heap_setCell _ _ _ _ hp]; exact h

theorem heap_set_at {w : World} {b : Nat} {c : Array Value} {e : TypeId} {f : Nat × Nat} (h : w.heap[b]? = some (.cells c e f)) (o : Nat) (u : Value) :
    (w.setCell ⟨b, o, none⟩ u).heap[b]? = some (.cells (c.setIfInBounds o u) e f) := by
  simp [World.setCell, Array.getElem?_modify, h]

theorem Gis.setT {w : World} {b : Nat} {s : ByteArray} {nv rv : Value} {g : Sc} (h : Gis w b s nv rv g) (x : Nat) : Gis (w.setCell ⟨b, 2, none⟩ (.int .i64 x)) b s nv rv { g with t := x } := by
  unfold Gis at *; rw [heap_set_at h]; simp

theorem Gis.setBad {w : World} {b : Nat} {s : ByteArray} {nv rv : Value} {g : Sc} (h : Gis w b s nv rv g) (x : Int) : Gis (w.setCell ⟨b, 3, none⟩ (.int .i64 x)) b s nv rv { g with bad := x } := by
  unfold Gis at *; rw [heap_set_at h]; simp

theorem Gis.setAt {w : World} {b : Nat} {s : ByteArray} {nv rv : Value} {g : Sc} (h : Gis w b s nv rv g) (x : Nat) : Gis (w.setCell ⟨b, 5, none⟩ (.int .i64 x)) b s nv rv { g with at_ := x } := by
  unfold Gis at *; rw [heap_set_at h]; simp

theorem Gis.setOp {w : World} {b : Nat} {s : ByteArray} {nv rv : Value} {g : Sc} (h : Gis w b s nv rv g) (x : Nat) : Gis (w.setCell ⟨b, 6, none⟩ (.int .i64 x)) b s nv rv { g with op := x } := by
  unfold Gis at *; rw [heap_set_at h]; simp

theorem Gis.setNodes {w : World} {b : Nat} {s : ByteArray} {nv rv : Value} {g : Sc} (h : Gis w b s nv rv g) (x : Value) : Gis (w.setCell ⟨b, 0, none⟩ x) b s x rv g := by
  unfold Gis at *; rw [heap_set_at h]; simp

theorem Gis.setRules {w : World} {b : Nat} {s : ByteArray} {nv rv : Value} {g : Sc} (h : Gis w b s nv rv g) (x : Value) : Gis (w.setCell ⟨b, 1, none⟩ x) b s nv x g := by
  unfold Gis at *; rw [heap_set_at h]; simp

def moreB (s : ByteArray) (g : Sc) : Bool := decide (g.bad < 0 ∧ g.at_ < s.size)

/-- The byte at a place; 0 where there is none. -/
def byteAt (s : ByteArray) (i : Nat) : Nat := (s.data.toList.getD i 0).toNat

theorem byteAt_get {s : ByteArray} {i : Nat} (h : i < s.size) : byteAt s i = s[i].toNat := by
  have h' : i < s.data.toList.length := by simpa using h
  simp [byteAt, List.getD, List.getElem?_eq_getElem h']
  rfl

/-- peek's answer. -/
def pk (s : ByteArray) (g : Sc) : Nat := if g.bad < 0 ∧ g.at_ < s.size then byteAt s g.at_ else 0

theorem ret_u8 {a b : Int} (h : a = b) : Ending.returned (.int .u8 a) = .returned (.int .u8 b) := by rw [h]

/-- wrong. -/
def wr (g : Sc) : Sc := if g.bad < 0 then { g with bad := g.at_ } else g

/-- The first place from i on that is no blank. -/
def skipF (s : ByteArray) : Nat → Nat → Nat
  | 0, i => i
  | f + 1, i => if i < s.size ∧ byteAt s i = 32 then skipF s f (i + 1) else i

def bl (s : ByteArray) (g : Sc) : Sc := if g.bad < 0 then { g with at_ := skipF s (s.size - g.at_) g.at_ } else g

theorem skipF_stop {s : ByteArray} {k : Nat} (h : ¬ (k < s.size ∧ byteAt s k = 32)) (f : Nat) : skipF s f k = k := by
  cases f with
  | zero => rfl
  | succ f => rw [skipF, if_neg h]

theorem bl_eq {s : ByteArray} {g : Sc} {k : Nat} (hF : g.bad < 0 → skipF s (s.size - k) k = skipF s (s.size - g.at_) g.at_) (hB : 0 ≤ g.bad → k = g.at_) (h : g.bad < 0 → ¬ (k < s.size ∧ byteAt s k = 32)) : bl s g = { g with at_ := k } := by
  unfold bl
  by_cases hb : g.bad < 0
  · rw [if_pos hb, ← hF hb, skipF_stop (h hb)]
  · rw [if_neg hb, hB (by omega)]

/-- sign: does it come? And behind it. -/
def sgB (s : ByteArray) (g : Sc) (c : Nat) : Bool := moreB s (bl s g) && byteAt s (bl s g).at_ == c

def adv (g : Sc) : Sc := { g with at_ := g.at_ + 1 }

def sg (s : ByteArray) (g : Sc) (c : Nat) : Sc := if sgB s g c then adv (bl s g) else bl s g

/-- must. -/
def mu (s : ByteArray) (g : Sc) (c : Nat) : Sc := if sgB s g c then sg s g c else wr (sg s g c)

/-- terminal. -/
def tm (g : Sc) : Sc := adv { (if g.t = 40 then wr g else g) with t := g.t + 1 }

theorem own_ne {w : World} {base e size n b e' : Nat} {v : Value} {xs : List Value} {c : Array Value} {fr : Nat × Nat} (h : w.ownsRow base e size v n xs) (hb : w.heap[b]? = some (.cells c e' fr)) (hne : e ≠ e') : v.ownBlock ≠ some b := by
  intro he
  rcases h.2 with ⟨h', _⟩ | ⟨g, cap, cur, h', _, hg, _⟩
  · rw [h'] at he; cases he
  · rw [h'] at he
    simp only [Value.ownBlock, Option.some.injEq] at he
    subst he
    rw [hb] at hg
    simp only [Option.some.injEq, Obj.cells.injEq] at hg
    exact hne hg.2.1.symm

theorem ownsRow_setCell_other {w : World} {base : Nat} {e : TypeId} {size : Nat} {v : Value} {n : Nat} {xs : List Value} (h : w.ownsRow base e size v n xs) {a : Addr} (ha : v.ownBlock ≠ some a.block) (u : Value) : (w.setCell a u).ownsRow base e size v n xs := by
  obtain ⟨h1, h2⟩ := h
  refine ⟨h1, ?_⟩
  rcases h2 with h2 | ⟨g, cap, cur, hv, hg, hh, r⟩
  · exact Or.inl h2
  · refine Or.inr ⟨g, cap, cur, hv, hg, ?_, r⟩
    rw [Below.heap_setCell _ _ _ _ (fun e => ha (by rw [hv, ← e]; rfl))]; exact hh

/-- word's loop. -/
def wd (s : ByteArray) : Nat → List UInt8 → Sc → List UInt8 × Sc
  | 0, acc, g => (acc, g)
  | f + 1, acc, g =>
    if letterB (pk s g) then (if acc.length = 8 then (acc, wr g) else wd s f (acc ++ [(pk s g).toUInt8]) (adv g))
    else (acc, if acc = [] then wr g else g)

def word (s : ByteArray) (g : Sc) : List UInt8 × Sc := wd s 10 [] (bl s g)

def ba (l : List UInt8) : ByteArray := ⟨l.toArray⟩

theorem ba_toList (l : List UInt8) : (ba l).toList = l := ByteArray.toList_mk l

theorem ba_append (l m : List UInt8) : ba (l ++ m) = ba l ++ ba m := by
  apply ByteArray.ext
  simp [ba]

/-- peek, where the walk stops. -/
theorem pk_le (s : ByteArray) (g : Sc) : pk s g < 256 := by
  unfold pk byteAt
  split
  · exact UInt8.toNat_lt _
  · omega

theorem skipF_le (s : ByteArray) : ∀ f i, skipF s f i ≤ i + f
  | 0, i => by simp [skipF]
  | f + 1, i => by
    rw [skipF]
    split
    · have := skipF_le s f (i + 1); omega
    · omega

theorem bl_at_le (s : ByteArray) (g : Sc) : (bl s g).at_ ≤ g.at_ + s.size := by
  unfold bl
  split
  · have := skipF_le s (s.size - g.at_) g.at_
    show skipF s (s.size - g.at_) g.at_ ≤ _
    omega
  · omega

def inB (l : List UInt8) (c : Nat) : Bool := l.any (fun b => b.toNat == c)

theorem any_take_succ {l : List UInt8} {k : Nat} (h : k < l.length) (p : UInt8 → Bool) : (l.take (k + 1)).any p = ((l.take k).any p || p l[k]) := by
  rw [List.take_succ_eq_append_getElem h, List.any_append]; simp

def esc : List UInt8 := [110, 39, 92, 93, 45]

/-- inner. -/
def inner2 (s : ByteArray) (g : Sc) (least : Nat) : Nat × Sc :=
  if moreB s g = false then (0, wr g)
  else if inB esc (byteAt s g.at_) = false then (0, wr g)
  else if (if byteAt s g.at_ = 110 then 10 else byteAt s g.at_) < least then (0, wr g)
  else ((if byteAt s g.at_ = 110 then 10 else byteAt s g.at_), adv g)

def inner (s : ByteArray) (g : Sc) (barred : List UInt8) (least : Nat) : Nat × Sc :=
  if moreB s g = false then (0, wr g)
  else if byteAt s g.at_ ≠ 92 then
    if inB barred (byteAt s g.at_) = true then (0, wr g)
    else if byteAt s g.at_ < least then (0, wr g)
    else (byteAt s g.at_, adv g)
  else if 93 < least then (0, wr g)
  else inner2 s (adv g) least

theorem ret_i64 {a b : Int} (h : a = b) : Ending.returned (.int .i64 a) = .returned (.int .i64 b) := by rw [h]

theorem byteAt_lt (s : ByteArray) (i : Nat) : byteAt s i < 256 := UInt8.toNat_lt _

theorem wrap64_byte' (n : Nat) (h : n < 256) : wrap64 (n : Int) = n := by unfold wrap64; omega

/-- What always holds of the ref's place. -/
def Iv (s : ByteArray) (g : Sc) : Prop := (g.bad < 0 → g.at_ ≤ s.size) ∧ g.at_ ≤ s.size + 1

theorem wr_at (g : Sc) : (wr g).at_ = g.at_ := by unfold wr; split <;> rfl

theorem wr_t (g : Sc) : (wr g).t = g.t := by unfold wr; split <;> rfl

theorem wr_op (g : Sc) : (wr g).op = g.op := by unfold wr; split <;> rfl

theorem wr_bad (g : Sc) : 0 ≤ (wr g).bad := by
  unfold wr; split
  · exact Int.natCast_nonneg _
  · omega

theorem wr_of_bad {g : Sc} (h : 0 ≤ g.bad) : wr g = g := by unfold wr; rw [if_neg (by omega)]

theorem Iv.wr {s : ByteArray} {g : Sc} (h : Iv s g) : Iv s (wr g) := ⟨fun hb => absurd hb (by have := wr_bad g; omega), by rw [wr_at]; exact h.2⟩

theorem skipF_ge (s : ByteArray) : ∀ f i, i ≤ skipF s f i
  | 0, i => by simp [skipF]
  | f + 1, i => by
    rw [skipF]; split
    · have := skipF_ge s f (i + 1); omega
    · omega

theorem bl_bad (s : ByteArray) (g : Sc) : (bl s g).bad = g.bad := by unfold bl; split <;> rfl

theorem bl_t (s : ByteArray) (g : Sc) : (bl s g).t = g.t := by unfold bl; split <;> rfl

theorem bl_op (s : ByteArray) (g : Sc) : (bl s g).op = g.op := by unfold bl; split <;> rfl

theorem bl_ge (s : ByteArray) (g : Sc) : g.at_ ≤ (bl s g).at_ := by
  unfold bl; split
  · exact skipF_ge _ _ _
  · exact Nat.le_refl _

theorem bl_of_bad {s : ByteArray} {g : Sc} (h : 0 ≤ g.bad) : bl s g = g := by unfold bl; rw [if_neg (by omega)]

theorem Iv.bl {s : ByteArray} {g : Sc} (h : Iv s g) : Iv s (bl s g) := by
  unfold Go.Proofs.YtagklnaaoclmhaaGreatDoor.bl
  split
  · next hb =>
    have h1 := h.1 hb
    have := skipF_le s (s.size - g.at_) g.at_
    refine ⟨fun _ => ?_, ?_⟩ <;> (show skipF s (s.size - g.at_) g.at_ ≤ _) <;> omega
  · exact h

theorem moreB_true {s : ByteArray} {g : Sc} : moreB s g = true ↔ g.bad < 0 ∧ g.at_ < s.size := by simp [moreB]

theorem moreB_bad {s : ByteArray} {g : Sc} (h : 0 ≤ g.bad) : moreB s g = false := by simp [moreB]; omega

theorem Iv.adv {s : ByteArray} {g : Sc} (h : Iv s g) (hm : g.at_ < s.size) : Iv s (adv g) := ⟨fun _ => by simp [Go.Proofs.YtagklnaaoclmhaaGreatDoor.adv]; omega, by simp [Go.Proofs.YtagklnaaoclmhaaGreatDoor.adv]; omega⟩

theorem adv_at (g : Sc) : (adv g).at_ = g.at_ + 1 := rfl

theorem adv_bad (g : Sc) : (adv g).bad = g.bad := rfl

theorem adv_t (g : Sc) : (adv g).t = g.t := rfl

theorem adv_op (g : Sc) : (adv g).op = g.op := rfl

theorem pk_bad {s : ByteArray} {g : Sc} (h : 0 ≤ g.bad) : pk s g = 0 := by unfold pk; rw [if_neg (by omega)]

theorem pk_pos {s : ByteArray} {g : Sc} (h : 0 < pk s g) : g.bad < 0 ∧ g.at_ < s.size ∧ pk s g = byteAt s g.at_ := by
  unfold pk at *
  split at h
  · next hc => exact ⟨hc.1, hc.2, by rw [if_pos hc]⟩
  · omega

theorem sgB_bad {s : ByteArray} {g : Sc} (c : Nat) (h : 0 ≤ g.bad) : sgB s g c = false := by unfold sgB; rw [moreB_bad (by rw [bl_bad]; exact h)]; rfl

theorem sgB_true {s : ByteArray} {g : Sc} {c : Nat} (h : sgB s g c = true) : g.bad < 0 ∧ (bl s g).at_ < s.size := by
  unfold sgB at h
  simp only [Bool.and_eq_true] at h
  have := moreB_true.1 h.1
  rw [bl_bad] at this
  exact this

theorem Iv.sg {s : ByteArray} {g : Sc} (h : Iv s g) (c : Nat) : Iv s (sg s g c) := by
  unfold Go.Proofs.YtagklnaaoclmhaaGreatDoor.sg
  split
  · next hc => exact h.bl.adv (sgB_true hc).2
  · exact h.bl

theorem sg_ge (s : ByteArray) (g : Sc) (c : Nat) : g.at_ ≤ (sg s g c).at_ := by
  have := bl_ge s g
  unfold sg; split
  · rw [adv_at]; omega
  · exact this

theorem sg_bad (s : ByteArray) (g : Sc) (c : Nat) : (sg s g c).bad = g.bad := by unfold sg; split <;> simp [adv_bad, bl_bad]

theorem sg_t (s : ByteArray) (g : Sc) (c : Nat) : (sg s g c).t = g.t := by unfold sg; split <;> simp [adv_t, bl_t]

theorem sg_op (s : ByteArray) (g : Sc) (c : Nat) : (sg s g c).op = g.op := by unfold sg; split <;> simp [adv_op, bl_op]

theorem sg_of_bad {s : ByteArray} {g : Sc} (c : Nat) (h : 0 ≤ g.bad) : sg s g c = g := by unfold sg; rw [sgB_bad c h]; simp [bl_of_bad h]

theorem Iv.mu {s : ByteArray} {g : Sc} (h : Iv s g) (c : Nat) : Iv s (mu s g c) := by
  unfold Go.Proofs.YtagklnaaoclmhaaGreatDoor.mu
  split
  · exact h.sg c
  · exact (h.sg c).wr

theorem mu_ge (s : ByteArray) (g : Sc) (c : Nat) : g.at_ ≤ (mu s g c).at_ := by
  have := sg_ge s g c
  unfold mu; split
  · exact this
  · rw [wr_at]; exact this

theorem mu_t (s : ByteArray) (g : Sc) (c : Nat) : (mu s g c).t = g.t := by unfold mu; split <;> simp [wr_t, sg_t]

theorem mu_op (s : ByteArray) (g : Sc) (c : Nat) : (mu s g c).op = g.op := by unfold mu; split <;> simp [wr_op, sg_op]

theorem mu_of_bad {s : ByteArray} {g : Sc} (c : Nat) (h : 0 ≤ g.bad) : mu s g c = g := by unfold mu; rw [sgB_bad c h]; simp [sg_of_bad c h, wr_of_bad h]

theorem mu_good {s : ByteArray} {g : Sc} {c : Nat} (h : (mu s g c).bad < 0) : sgB s g c = true ∧ g.bad < 0 ∧ mu s g c = sg s g c := by
  unfold mu at *
  cases hc : sgB s g c
  · rw [hc] at h
    have := wr_bad (sg s g c)
    simp only [Bool.false_eq_true, if_false] at h
    omega
  · exact ⟨rfl, (sgB_true hc).1, by simp⟩

theorem inner2_facts {s : ByteArray} {g : Sc} (h : Iv s g) (least : Nat) :
    Iv s (inner2 s g least).2 ∧ g.at_ ≤ (inner2 s g least).2.at_ ∧ (inner2 s g least).1 < 256 ∧ (inner2 s g least).2.t = g.t ∧ (inner2 s g least).2.op = g.op ∧ ((inner2 s g least).2.bad < 0 → g.bad < 0) := by
  have hb := byteAt_lt s g.at_
  unfold inner2
  have hv : (if byteAt s g.at_ = 110 then 10 else byteAt s g.at_) < 256 := by split <;> omega
  generalize (if byteAt s g.at_ = 110 then 10 else byteAt s g.at_) = v at *
  cases hm : moreB s g
  · simp only [if_true]; exact ⟨h.wr, by rw [wr_at]; exact Nat.le_refl _, by omega, wr_t _, wr_op _, fun h' => absurd h' (by have := wr_bad g; omega)⟩
  · have hm' := moreB_true.1 hm
    simp only [Bool.true_eq_false, if_false]
    split
    · exact ⟨h.wr, by rw [wr_at]; exact Nat.le_refl _, by omega, wr_t _, wr_op _, fun _ => hm'.1⟩
    · split
      · exact ⟨h.wr, by rw [wr_at]; exact Nat.le_refl _, by omega, wr_t _, wr_op _, fun _ => hm'.1⟩
      · exact ⟨h.adv hm'.2, by rw [adv_at]; omega, hv, rfl, rfl, fun _ => hm'.1⟩

theorem inner_facts {s : ByteArray} {g : Sc} (h : Iv s g) (l : List UInt8) (least : Nat) :
    Iv s (inner s g l least).2 ∧ g.at_ ≤ (inner s g l least).2.at_ ∧ (inner s g l least).1 < 256 ∧ (inner s g l least).2.t = g.t ∧ (inner s g l least).2.op = g.op ∧
    ((inner s g l least).2.bad < 0 → g.bad < 0 ∧ g.at_ < (inner s g l least).2.at_) := by
  have hb := byteAt_lt s g.at_
  have hw := wr_bad g
  unfold inner
  cases hm : moreB s g
  · simp only [if_true]; exact ⟨h.wr, by rw [wr_at]; exact Nat.le_refl _, by omega, wr_t _, wr_op _, fun h' => absurd h' (by omega)⟩
  · have hm' := moreB_true.1 hm
    simp only [Bool.true_eq_false, if_false]
    split
    · split
      · exact ⟨h.wr, by rw [wr_at]; exact Nat.le_refl _, by omega, wr_t _, wr_op _, fun h' => absurd h' (by simp only; omega)⟩
      · split
        · exact ⟨h.wr, by rw [wr_at]; exact Nat.le_refl _, by omega, wr_t _, wr_op _, fun h' => absurd h' (by simp only; omega)⟩
        · exact ⟨h.adv hm'.2, by rw [adv_at]; omega, hb, rfl, rfl, fun _ => ⟨hm'.1, by rw [adv_at]; omega⟩⟩
    · split
      · exact ⟨h.wr, by rw [wr_at]; exact Nat.le_refl _, by omega, wr_t _, wr_op _, fun h' => absurd h' (by simp only; omega)⟩
      · obtain ⟨i1, i2, i3, i4, i5, i6⟩ := inner2_facts (h.adv hm'.2) least
        rw [adv_at] at i2
        exact ⟨i1, by omega, i3, i4, i5, fun h' => ⟨i6 h', by omega⟩⟩

def barC : List UInt8 := [10, 93, 45]

def barL : List UInt8 := [10, 39]

/-- The ranges of a class: a round. -/
def setR (s : ByteArray) (g : Sc) : (Nat × Nat) × Sc :=
  if pk s (inner s g barC 0).2 = 45 then (((inner s g barC 0).1, (inner s (adv (inner s g barC 0).2) barC (inner s g barC 0).1).1), (inner s (adv (inner s g barC 0).2) barC (inner s g barC 0).1).2)
  else (((inner s g barC 0).1, (inner s g barC 0).1), (inner s g barC 0).2)

def setF (s : ByteArray) : Nat → Bool → Sc → List (Nat × Nat) × Sc
  | 0, _, g => ([], g)
  | f + 1, first, g =>
    if g.bad < 0 ∧ (first = true ∨ pk s g ≠ 93) then ((setR s g).1 :: (setF s f false (setR s g).2).1, (setF s f false (setR s g).2).2)
    else ([], g)

theorem setR_facts {s : ByteArray} {g : Sc} (h : Iv s g) : Iv s (setR s g).2 ∧ g.at_ ≤ (setR s g).2.at_ ∧ (setR s g).1.1 < 256 ∧ (setR s g).1.2 < 256 ∧ (setR s g).2.t = g.t ∧ (setR s g).2.op = g.op ∧
    ((setR s g).2.bad < 0 → g.bad < 0 ∧ g.at_ < (setR s g).2.at_) := by
  obtain ⟨i1, i2, i3, i4, i5, i6⟩ := inner_facts h barC 0
  unfold setR
  split
  · next h45 =>
    obtain ⟨p1, p2, p3⟩ := pk_pos (s := s) (g := (inner s g barC 0).2) (by omega)
    obtain ⟨j1, j2, j3, j4, j5, j6⟩ := inner_facts (i1.adv p2) barC (inner s g barC 0).1
    rw [adv_at] at j2
    exact ⟨j1, by simp only; omega, i3, j3, by simp only; rw [j4, adv_t, i4], by simp only; rw [j5, adv_op, i5], fun h' => ⟨(i6 p1).1, by simp only; omega⟩⟩
  · exact ⟨i1, i2, i3, i3, i4, i5, i6⟩

/-- How many rounds may still come. -/
def rk (s : ByteArray) (g : Sc) : Nat := if g.bad < 0 then s.size + 1 - g.at_ else 0

theorem rk_lt {s : ByteArray} {g g' : Sc} (h : Iv s g) (hb : g.bad < 0) (hp : g'.bad < 0 → g.at_ < g'.at_) : rk s g' < rk s g := by
  unfold rk
  rw [if_pos hb]
  have := h.1 hb
  split
  · next h' => have := hp h'; omega
  · omega

theorem rk_le (s : ByteArray) (g : Sc) : rk s g ≤ s.size + 1 := by unfold rk; split <;> omega

/-- n bits from a on are set in a node's cells. -/
def markN (c : Array Value) (a : Nat) : Nat → Array Value
  | 0 => c
  | n + 1 => (markN c a n).setIfInBounds (2 + (a + n)) (.bool true)

def marks (c : Array Value) (l : List (Nat × Nat)) : Array Value := l.foldl (fun c r => markN c r.1 (r.2 + 1 - r.1)) c

theorem markN_size (c : Array Value) (a : Nat) : ∀ n, (markN c a n).size = c.size
  | 0 => rfl
  | n + 1 => by simp [markN, markN_size c a n]

theorem marks_size (l : List (Nat × Nat)) : ∀ c, (marks c l).size = c.size := by
  induction l with
  | nil => intro c; rfl
  | cons r l ih => intro c; simp only [marks, List.foldl_cons] at *; rw [ih, markN_size]

theorem marks_snoc (c : Array Value) (l : List (Nat × Nat)) (r : Nat × Nat) : marks c (l ++ [r]) = markN (marks c l) r.1 (r.2 + 1 - r.1) := by simp [marks]

theorem objAt_cell {w : World} {k i : Nat} {c : Array Value} {e : TypeId} {fr : Nat × Nat} (h : objAt w k = some (.cells c e fr)) : w.cell? ⟨k, i, none⟩ = c[i]? := cell_of_row w k i c e fr h

theorem objAt_frozen {w : World} {k i : Nat} {c : Array Value} {e : TypeId} (h : objAt w k = some (.cells c e (0, 0))) : w.frozen? ⟨k, i, none⟩ = false := by
  have h' : w.heap[k]? = _ := h
  simp [World.frozen?, h']

theorem objAt_set {w : World} {k i : Nat} {c : Array Value} {e : TypeId} {fr : Nat × Nat} (h : objAt w k = some (.cells c e fr)) (u : Value) : objAt (w.setCell ⟨k, i, none⟩ u) k = some (.cells (c.setIfInBounds i u) e fr) := heap_set_at h i u

theorem objAt_kept {S : Nat → Prop} {w w' : World} {k : Nat} {o : Obj} (h : objAt w k = some o) (hk : Kept S w w') (hs : ¬ S k) : objAt w' k = some o := by
  have := objAt_lt h
  unfold objAt at *
  rw [hk.block k this hs]; exact h

/-- set. -/
def set (s : ByteArray) (g : Sc) : List (Nat × Nat) × Sc := ((setF s (s.size + 2) true g).1, adv (setF s (s.size + 2) true g).2)

/-- A node of the ref's list. -/
structure Nd where
  kind : Nat
  text : List UInt8
  rng : List (Nat × Nat)
  term : Nat
  name : List UInt8
  at_ : Nat
  subs : List Nat

/-- The ref's grammar while it is read: its numbers, its nodes. -/
structure St where
  sc : Sc
  ns : List Nd

def addN (A : St) (N : Nd) : St × Nat := ({ A with ns := A.ns ++ [N] }, A.ns.length)

/-- A literal's bytes. -/
def litF (s : ByteArray) : Nat → List UInt8 → Sc → List UInt8 × Sc
  | 0, acc, g => (acc, g)
  | f + 1, acc, g => if g.bad < 0 ∧ pk s g ≠ 39 then litF s f (acc ++ [(inner s g barL 0).1.toUInt8]) (inner s g barL 0).2 else (acc, g)

def lit (s : ByteArray) (g : Sc) : List UInt8 × Sc := ((litF s (s.size + 2) [] g).1, adv (litF s (s.size + 2) [] g).2)

def nd0 : Nd := ⟨0, [], [], 0, [], 0, []⟩

def opn (g : Sc) : Sc := { g with at_ := g.at_ + 1, op := g.op + 1 }

def shut (g : Sc) : Sc := { g with op := g.op - 1 }

/-- part. -/
def partM (s : ByteArray) (ch : St → St × Nat) (A : St) : St × Nat :=
  if letterB (pk s (bl s A.sc)) then addN { A with sc := (word s (bl s A.sc)).2 } { nd0 with kind := 3, name := (word s (bl s A.sc)).1, at_ := (bl s A.sc).at_ }
  else if pk s (bl s A.sc) = 46 then addN { A with sc := tm (bl s A.sc) } { nd0 with kind := 2, term := (bl s A.sc).t }
  else if pk s (bl s A.sc) = 39 then addN { A with sc := (lit s (tm (bl s A.sc))).2 } { nd0 with kind := 0, text := (lit s (tm (bl s A.sc))).1, term := (bl s A.sc).t }
  else if pk s (bl s A.sc) = 91 then addN { A with sc := (set s (tm (bl s A.sc))).2 } { nd0 with kind := 1, rng := (set s (tm (bl s A.sc))).1, term := (bl s A.sc).t }
  else if pk s (bl s A.sc) = 40 ∧ (bl s A.sc).op < 5 then
    ({ (ch { A with sc := opn (bl s A.sc) }).1 with sc := shut (mu s (ch { A with sc := opn (bl s A.sc) }).1.sc 41) }, (ch { A with sc := opn (bl s A.sc) }).2)
  else addN { A with sc := wr (bl s A.sc) } nd0

/-- item, behind the part: what stands behind it. -/
def kindOf (c : Nat) : Nat := if c = 63 then 6 else if c = 42 then 7 else if c = 43 then 8 else 0

def aheadK (s : ByteArray) (g : Sc) : Nat := if sgB s g 38 then 9 else if sgB s (sg s g 38) 33 then 10 else 0

def aheadS (s : ByteArray) (g : Sc) : Sc := if sgB s g 38 then sg s g 38 else sg s (sg s g 38) 33

def repM (s : ByteArray) (X : St × Nat) : St × Nat :=
  if kindOf (pk s (bl s X.1.sc)) > 0 then addN { X.1 with sc := adv (bl s X.1.sc) } { nd0 with kind := kindOf (pk s (bl s X.1.sc)), subs := [X.2] }
  else ({ X.1 with sc := bl s X.1.sc }, X.2)

def aheadM (k : Nat) (X : St × Nat) : St × Nat := if k > 0 then addN X.1 { nd0 with kind := k, subs := [X.2] } else X

def itemM (s : ByteArray) (ch : St → St × Nat) (A : St) : St × Nat :=
  aheadM (aheadK s A.sc) (repM s (partM s ch { A with sc := aheadS s A.sc }))

/-- sequence. -/
def seqEnd (s : ByteArray) (g : Sc) : Bool := !moreB s g || pk s g == 10 || pk s g == 47 || (pk s g == 41 && decide (0 < g.op))

def seqF (s : ByteArray) (ch : St → St × Nat) : Nat → List Nat → St → St × List Nat
  | 0, acc, A => (A, acc)
  | f + 1, acc, A =>
    if seqEnd s (bl s (itemM s ch A).1.sc) then ({ (itemM s ch A).1 with sc := bl s (itemM s ch A).1.sc }, acc ++ [(itemM s ch A).2])
    else seqF s ch f (acc ++ [(itemM s ch A).2]) { (itemM s ch A).1 with sc := bl s (itemM s ch A).1.sc }

def seqM (s : ByteArray) (ch : St → St × Nat) (A : St) : St × Nat :=
  addN (seqF s ch (s.size + 3) [] A).1 { nd0 with kind := 5, subs := (seqF s ch (s.size + 3) [] A).2 }

/-- choice. -/
def choF (s : ByteArray) (ch : St → St × Nat) : Nat → List Nat → St → St × List Nat
  | 0, acc, A => (A, acc)
  | f + 1, acc, A =>
    if sgB s (seqM s ch A).1.sc 47 then choF s ch f (acc ++ [(seqM s ch A).2]) { (seqM s ch A).1 with sc := sg s (seqM s ch A).1.sc 47 }
    else ({ (seqM s ch A).1 with sc := sg s (seqM s ch A).1.sc 47 }, acc ++ [(seqM s ch A).2])

def choM (s : ByteArray) (ch : St → St × Nat) (A : St) : St × Nat :=
  addN (choF s ch (s.size + 3) [] A).1 { nd0 with kind := 4, subs := (choF s ch (s.size + 3) [] A).2 }

/-- choice, d brackets deep at most. -/
def choD (s : ByteArray) : Nat → St → St × Nat
  | 0 => fun A => addN A nd0
  | d + 1 => choM s (choD s d)

def rest (s : ByteArray) (g : Sc) : Nat := if g.bad < 0 then s.size + 1 - g.at_ else 0

def Pt (s : ByteArray) (A : St) : Nat := A.ns.length + 4 * rest s A.sc

/-- From A to B: nothing goes back. k: what is gained where it began well, j: what is added else. -/
structure Fc (s : ByteArray) (A B : St) (k j : Nat) : Prop where
  iv : Iv s B.sc
  ge : A.sc.at_ ≤ B.sc.at_
  op : B.sc.op = A.sc.op
  t : A.sc.t ≤ B.sc.t
  tn : B.sc.t + A.ns.length ≤ A.sc.t + B.ns.length
  good : B.sc.bad < 0 → A.sc.bad < 0
  same : 0 ≤ A.sc.bad → B.sc = A.sc
  len : A.ns.length ≤ B.ns.length
  prog : B.sc.bad < 0 → A.sc.at_ < B.sc.at_
  pot : A.sc.bad < 0 → Pt s B + k ≤ Pt s A + 3
  pot' : Pt s B ≤ Pt s A + j

theorem rest_le {s : ByteArray} {g g' : Sc} (h : g'.bad < 0 → g.bad < 0) (ha : g.at_ ≤ g'.at_) : rest s g' ≤ rest s g := by
  unfold rest; split
  · next hb => rw [if_pos (h hb)]; omega
  · omega

theorem rest_lt {s : ByteArray} {g g' : Sc} (hi : Iv s g) (hb : g.bad < 0) (ha : g'.bad < 0 → g.at_ < g'.at_) : rest s g' + 1 ≤ rest s g := by
  have := hi.1 hb
  unfold rest; rw [if_pos hb]; split
  · next hb' => have := ha hb'; omega
  · omega

/-- Of the numbers alone. -/
structure Fs (s : ByteArray) (g h : Sc) : Prop where
  iv : Iv s h
  ge : g.at_ ≤ h.at_
  op : h.op = g.op
  good : h.bad < 0 → g.bad < 0
  same : 0 ≤ g.bad → h = g

theorem Fs.refl {s : ByteArray} {g : Sc} (h : Iv s g) : Fs s g g := ⟨h, Nat.le_refl _, rfl, id, fun _ => rfl⟩

theorem Fs.trans {s : ByteArray} {a b c : Sc} (h : Fs s a b) (k : Fs s b c) : Fs s a c :=
  ⟨k.iv, Nat.le_trans h.ge k.ge, k.op.trans h.op, fun x => h.good (k.good x), fun x => by have e := h.same x; rw [k.same (by rw [e]; exact x), e]⟩

theorem Fs.bl {s : ByteArray} {g : Sc} (h : Iv s g) : Fs s g (bl s g) := ⟨h.bl, bl_ge s g, bl_op s g, fun x => by rw [bl_bad] at x; exact x, fun x => bl_of_bad x⟩

theorem Fs.wr {s : ByteArray} {g : Sc} (h : Iv s g) : Fs s g (wr g) := ⟨h.wr, by rw [wr_at]; exact Nat.le_refl _, wr_op g, fun x => absurd x (by have := wr_bad g; omega), fun x => wr_of_bad x⟩

theorem Fs.sg {s : ByteArray} {g : Sc} (h : Iv s g) (c : Nat) : Fs s g (sg s g c) := ⟨h.sg c, sg_ge s g c, sg_op s g c, fun x => by rw [sg_bad] at x; exact x, fun x => sg_of_bad c x⟩

theorem Fs.mu {s : ByteArray} {g : Sc} (h : Iv s g) (c : Nat) : Fs s g (mu s g c) := ⟨h.mu c, mu_ge s g c, mu_op s g c, fun x => (mu_good x).2.1, fun x => mu_of_bad c x⟩

theorem Fs.rest {s : ByteArray} {g h : Sc} (f : Fs s g h) : rest s h ≤ rest s g := rest_le f.good f.ge

theorem letterB_pos {c : Nat} (h : letterB c = true) : 0 < c := by unfold letterB at h; simp at h; omega

theorem wd_facts {s : ByteArray} : ∀ f acc g, Iv s g → Iv s (wd s f acc g).2 ∧ g.at_ ≤ (wd s f acc g).2.at_ ∧ (wd s f acc g).2.op = g.op ∧ (wd s f acc g).2.t = g.t ∧ ((wd s f acc g).2.bad < 0 → g.bad < 0) ∧
    ((wd s f acc g).2.bad < 0 → 0 < f → acc = [] → g.at_ < (wd s f acc g).2.at_) ∧ (0 ≤ g.bad → 0 < f → (wd s f acc g).2 = g)
  | 0, acc, g, h => ⟨h, Nat.le_refl _, rfl, rfl, id, fun _ x => absurd x (by omega), fun _ x => absurd x (by omega)⟩
  | f + 1, acc, g, h => by
    rw [wd]
    have hw := wr_bad g
    cases hl : letterB (pk s g : Int)
    · simp only [Bool.false_eq_true, if_false]
      by_cases ha : acc = []
      · rw [if_pos ha]
        exact ⟨h.wr, by rw [wr_at]; exact Nat.le_refl _, wr_op g, wr_t g, fun x => absurd x (by omega), fun x => absurd x (by omega), fun x _ => wr_of_bad x⟩
      · rw [if_neg ha]
        exact ⟨h, Nat.le_refl _, rfl, rfl, id, fun _ _ x => absurd x ha, fun _ _ => rfl⟩
    · simp only [if_true]
      obtain ⟨p1, p2, p3⟩ := pk_pos (letterB_pos hl)
      by_cases h8 : acc.length = 8
      · rw [if_pos h8]
        exact ⟨h.wr, by rw [wr_at]; exact Nat.le_refl _, wr_op g, wr_t g, fun x => absurd x (by simp only; omega), fun x => absurd x (by simp only; omega), fun x _ => absurd x (by omega)⟩
      · rw [if_neg h8]
        obtain ⟨q1, q2, q3, q4, q5, q6, q7⟩ := wd_facts f (acc ++ [(pk s g).toUInt8]) (adv g) (h.adv p2)
        rw [adv_at] at q2
        exact ⟨q1, by omega, q3, q4, q5, fun _ _ _ => by omega, fun x _ => absurd x (by omega)⟩

theorem word_fs {s : ByteArray} {g : Sc} (h : Iv s g) : Fs s g (word s g).2 ∧ (word s g).2.t = g.t ∧ ((word s g).2.bad < 0 → g.at_ < (word s g).2.at_) := by
  obtain ⟨q1, q2, q3, q4, q5, q6, q7⟩ := wd_facts (s := s) 10 [] (bl s g) h.bl
  have hb := Fs.bl h
  refine ⟨⟨q1, Nat.le_trans hb.ge q2, q3.trans hb.op, fun x => hb.good (q5 x), fun x => ?_⟩, q4.trans (bl_t s g), fun x => ?_⟩
  · have e := hb.same x
    show (wd s 10 [] (Go.Proofs.YtagklnaaoclmhaaGreatDoor.bl s g)).2 = g
    rw [q7 (by rw [e]; exact x) (by omega), e]
  · have := q6 x (by omega) rfl
    have := hb.ge
    show g.at_ < (wd s 10 [] (Go.Proofs.YtagklnaaoclmhaaGreatDoor.bl s g)).2.at_
    omega

theorem tm_at (g : Sc) : (tm g).at_ = g.at_ + 1 := by unfold tm adv; split <;> simp [wr_at]

theorem tm_t (g : Sc) : (tm g).t = g.t + 1 := by unfold tm adv; split <;> rfl

theorem tm_op (g : Sc) : (tm g).op = g.op := by unfold tm adv; split <;> simp [wr_op]

theorem tm_good {g : Sc} (h : (tm g).bad < 0) : g.bad < 0 := by
  unfold tm adv at h; split at h
  · have := wr_bad g; simp only at h; omega
  · exact h

theorem tm_iv {s : ByteArray} {g : Sc} (h : Iv s g) (hp : g.at_ < s.size) : Iv s (tm g) := ⟨fun _ => by rw [tm_at]; omega, by rw [tm_at]; omega⟩

theorem litF_facts {s : ByteArray} : ∀ f acc g, Iv s g → rk s g < f → Iv s (litF s f acc g).2 ∧ g.at_ ≤ (litF s f acc g).2.at_ ∧ (litF s f acc g).2.op = g.op ∧ (litF s f acc g).2.t = g.t ∧ ((litF s f acc g).2.bad < 0 → g.bad < 0 ∧ pk s (litF s f acc g).2 = 39) ∧
    (litF s f acc g).1.length ≤ acc.length + rk s g
  | 0, acc, g, h, hr => absurd hr (by omega)
  | f + 1, acc, g, h, hr => by
    rw [litF]
    split
    · next hc =>
      obtain ⟨i1, i2, i3, i4, i5, i6⟩ := inner_facts h barL 0
      have hlt := rk_lt (g' := (inner s g barL 0).2) h hc.1 (fun x => (i6 x).2)
      obtain ⟨q1, q2, q3, q4, q5, q6⟩ := litF_facts f (acc ++ [(inner s g barL 0).1.toUInt8]) (inner s g barL 0).2 i1 (by omega)
      simp only [List.length_append, List.length_cons, List.length_nil] at q6
      exact ⟨q1, by omega, by rw [q3, i5], by rw [q4, i4], fun x => ⟨hc.1, (q5 x).2⟩, by omega⟩
    · next hc =>
      exact ⟨h, Nat.le_refl _, rfl, rfl, fun x => ⟨x, Decidable.byContradiction fun hn => hc ⟨x, hn⟩⟩, by simp only; omega⟩

theorem inner2_le {s : ByteArray} {g : Sc} (h : g.at_ ≤ s.size) (least : Nat) : (inner2 s g least).2.at_ ≤ s.size := by
  unfold inner2
  generalize (if byteAt s g.at_ = 110 then 10 else byteAt s g.at_) = v
  cases hm : moreB s g
  · simp only [if_true]; rw [wr_at]; exact h
  · have hm' := moreB_true.1 hm
    simp only [Bool.true_eq_false, if_false]
    split
    · simp only; rw [wr_at]; exact h
    · split
      · simp only; rw [wr_at]; exact h
      · simp only; rw [adv_at]; omega

theorem inner_le {s : ByteArray} {g : Sc} (h : g.at_ ≤ s.size) (l : List UInt8) (least : Nat) : (inner s g l least).2.at_ ≤ s.size := by
  unfold inner
  cases hm : moreB s g
  · simp only [if_true]; rw [wr_at]; exact h
  · have hm' := moreB_true.1 hm
    simp only [Bool.true_eq_false, if_false]
    split
    · split
      · simp only; rw [wr_at]; exact h
      · split
        · simp only; rw [wr_at]; exact h
        · simp only; rw [adv_at]; omega
    · split
      · simp only; rw [wr_at]; exact h
      · exact inner2_le (by rw [adv_at]; omega) least

theorem litF_le {s : ByteArray} : ∀ f acc g, g.at_ ≤ s.size → (litF s f acc g).2.at_ ≤ s.size
  | 0, acc, g, h => h
  | f + 1, acc, g, h => by
    rw [litF]; split
    · exact litF_le f _ _ (inner_le h _ _)
    · exact h

theorem setR_le {s : ByteArray} {g : Sc} (h : g.at_ ≤ s.size) : (setR s g).2.at_ ≤ s.size := by
  unfold setR; split
  · next h45 =>
    obtain ⟨p1, p2, p3⟩ := pk_pos (s := s) (g := (inner s g barC 0).2) (by omega)
    exact inner_le (by rw [adv_at]; omega) _ _
  · exact inner_le h _ _

theorem setF_le {s : ByteArray} : ∀ f fst g, g.at_ ≤ s.size → (setF s f fst g).2.at_ ≤ s.size
  | 0, _, g, h => h
  | f + 1, fst, g, h => by
    rw [setF]; split
    · exact setF_le f _ _ (setR_le h)
    · exact h

theorem setF_facts {s : ByteArray} : ∀ f fst g, Iv s g → rk s g < f → Iv s (setF s f fst g).2 ∧ g.at_ ≤ (setF s f fst g).2.at_ ∧ (setF s f fst g).2.op = g.op ∧ (setF s f fst g).2.t = g.t ∧ ((setF s f fst g).2.bad < 0 → g.bad < 0 ∧ pk s (setF s f fst g).2 = 93)
  | 0, fst, g, h, hr => absurd hr (by omega)
  | f + 1, fst, g, h, hr => by
    rw [setF]
    split
    · next hc =>
      obtain ⟨i1, i2, i3, i4, i5, i6, i7⟩ := setR_facts h
      have hlt := rk_lt (g' := (setR s g).2) h hc.1 (fun x => (i7 x).2)
      obtain ⟨q1, q2, q3, q4, q5⟩ := setF_facts f false (setR s g).2 i1 (by omega)
      exact ⟨q1, by simp only; omega, by rw [q3, i6], by rw [q4, i5], fun x => ⟨hc.1, (q5 x).2⟩⟩
    · next hc =>
      exact ⟨h, Nat.le_refl _, rfl, rfl, fun x => ⟨x, Decidable.byContradiction fun hn => hc ⟨x, Or.inr hn⟩⟩⟩

theorem lit_facts {s : ByteArray} {g : Sc} (h : Iv s g) (hm : g.at_ ≤ s.size) : Iv s (lit s g).2 ∧ g.at_ ≤ (lit s g).2.at_ ∧ (lit s g).2.op = g.op ∧ (lit s g).2.t = g.t ∧ ((lit s g).2.bad < 0 → g.bad < 0) := by
  have := rk_le s g
  obtain ⟨q1, q2, q3, q4, q5, q6⟩ := litF_facts (s := s) (s.size + 2) [] g h (by omega)
  have hl := litF_le (s := s) (s.size + 2) [] g hm
  unfold lit
  refine ⟨⟨fun x => ?_, by rw [adv_at]; omega⟩, by rw [adv_at]; omega, q3, q4, fun x => (q5 x).1⟩
  obtain ⟨p1, p2, p3⟩ := pk_pos (s := s) (g := (litF s (s.size + 2) [] g).2) (by have := (q5 x).2; omega)
  rw [adv_at]; omega

theorem set_facts {s : ByteArray} {g : Sc} (h : Iv s g) (hm : g.at_ ≤ s.size) : Iv s (set s g).2 ∧ g.at_ ≤ (set s g).2.at_ ∧ (set s g).2.op = g.op ∧ (set s g).2.t = g.t ∧ ((set s g).2.bad < 0 → g.bad < 0) := by
  have := rk_le s g
  obtain ⟨q1, q2, q3, q4, q5⟩ := setF_facts (s := s) (s.size + 2) true g h (by omega)
  have hl := setF_le (s := s) (s.size + 2) true g hm
  unfold set
  refine ⟨⟨fun x => ?_, by rw [adv_at]; omega⟩, by rw [adv_at]; omega, q3, q4, fun x => (q5 x).1⟩
  obtain ⟨p1, p2, p3⟩ := pk_pos (s := s) (g := (setF s (s.size + 2) true g).2) (by have := (q5 x).2; omega)
  rw [adv_at]; omega

/-- A good answer of ch. -/
def Good (s : ByteArray) (ch : St → St × Nat) (d : Nat) : Prop := ∀ A, Iv s A.sc → 5 ≤ A.sc.op + d → Fc s A (ch A).1 4 3

theorem Pt_add (s : ByteArray) (A : St) (g : Sc) (N : Nd) : Pt s (addN { A with sc := g } N).1 = A.ns.length + 1 + 4 * rest s g := by simp [Pt, addN]

/-- One node more, behind numbers that have moved on. -/
theorem Fc.one {s : ByteArray} {A : St} {g : Sc} (N : Nd) (hf : Fs s A.sc g) (hp : g.bad < 0 → A.sc.at_ < g.at_) (hi : Iv s A.sc) (ht : A.sc.t ≤ g.t) (ht' : g.t ≤ A.sc.t + 1) : Fc s A (addN { A with sc := g } N).1 6 1 where
  iv := hf.iv
  ge := hf.ge
  op := hf.op
  t := ht
  tn := by simp [addN]; omega
  good := hf.good
  same := hf.same
  len := by simp [addN]
  prog := hp
  pot := fun hb => by
    rw [Pt_add]; unfold Pt
    have := rest_lt (s := s) (g := A.sc) (g' := g) hi hb hp
    omega
  pot' := by rw [Pt_add]; unfold Pt; have := hf.rest; omega

theorem part_fc {s : ByteArray} {ch : St → St × Nat} {d : Nat} (hch : d = 0 ∨ Good s ch (d - 1)) {A : St} (hi : Iv s A.sc) (hd : 5 ≤ A.sc.op + d) : Fc s A (partM s ch A).1 6 1 := by
  have hb := Fs.bl hi
  unfold partM
  have hbt := bl_t s A.sc
  generalize bl s A.sc = g at *
  cases hl : letterB (pk s g : Int)
  · simp only [Bool.false_eq_true, if_false]
    split
    · next h46 =>
      obtain ⟨p1, p2, p3⟩ := pk_pos (s := s) (g := g) (by omega)
      refine Fc.one _ ⟨tm_iv hb.iv p2, by rw [tm_at]; have := hb.ge; omega, (tm_op g).trans hb.op, fun x => hb.good (tm_good x), fun x => absurd x (by have := hb.good p1; omega)⟩ (fun _ => by rw [tm_at]; have := hb.ge; omega) hi (by rw [tm_t]; omega) (by rw [tm_t]; omega)
    · split
      · next h39 =>
        obtain ⟨p1, p2, p3⟩ := pk_pos (s := s) (g := g) (by omega)
        obtain ⟨l1, l2, l3, l4, l5⟩ := lit_facts (tm_iv hb.iv p2) (by rw [tm_at]; omega)
        rw [tm_at] at l2
        refine Fc.one _ ⟨l1, by have := hb.ge; omega, l3.trans ((tm_op g).trans hb.op), fun x => hb.good (tm_good (l5 x)), fun x => absurd x (by have := hb.good p1; omega)⟩ (fun _ => by have := hb.ge; omega) hi (by rw [l4, tm_t]; omega) (by rw [l4, tm_t]; omega)
      · split
        · next h91 =>
          obtain ⟨p1, p2, p3⟩ := pk_pos (s := s) (g := g) (by omega)
          obtain ⟨l1, l2, l3, l4, l5⟩ := set_facts (tm_iv hb.iv p2) (by rw [tm_at]; omega)
          rw [tm_at] at l2
          refine Fc.one _ ⟨l1, by have := hb.ge; omega, l3.trans ((tm_op g).trans hb.op), fun x => hb.good (tm_good (l5 x)), fun x => absurd x (by have := hb.good p1; omega)⟩ (fun _ => by have := hb.ge; omega) hi (by rw [l4, tm_t]; omega) (by rw [l4, tm_t]; omega)
        · split
          · next h40 =>
            obtain ⟨p1, p2, p3⟩ := pk_pos (s := s) (g := g) (by omega)
            have hop := hb.op
            rcases hch with h0 | hch
            · omega
            · have hio : Iv s (opn g) := ⟨fun _ => by simp [opn]; omega, by simp [opn]; omega⟩
              have hc := hch { A with sc := opn g } hio (by simp [opn]; omega)
              generalize ch { A with sc := opn g } = X at *
              have hm := Fs.mu hc.iv 41
              have hmt := mu_t s X.1.sc 41
              have hge := hb.ge
              have h1 := hc.ge
              have h2 := hm.ge
              have h3 := hc.op
              have h4 := hm.op
              have h5 := hc.t
              have h6 := hc.tn
              have h7 := hc.len
              have h8 := hm.rest
              generalize Go.Proofs.YtagklnaaoclmhaaGreatDoor.mu s X.1.sc 41 = m at *
              have hgood : A.sc.bad < 0 := hb.good p1
              have hpo := hc.pot p1
              have hpo' := hc.pot'
              have hr := rest_lt (s := s) (g := A.sc) (g' := opn g) hi hgood (fun _ => by simp [opn]; omega)
              have hsh : rest s (shut m) = rest s m := rfl
              simp only [opn, shut, Pt] at *
              exact { iv := hm.iv, ge := by simp only; omega, op := by simp only; omega, t := by simp only; omega, tn := by simp only; omega, good := fun _ => hgood, same := fun x => absurd x (by omega), len := h7, prog := fun _ => by simp only; omega, pot := fun _ => by simp only [Pt]; omega, pot' := by simp only [Pt]; omega }
          · have hf := hb.trans (Fs.wr hb.iv)
            have := wr_bad g
            exact Fc.one _ hf (fun x => absurd x (by omega)) hi (by rw [wr_t]; omega) (by rw [wr_t]; omega)
  · simp only [if_true]
    obtain ⟨w1, w2, w3⟩ := word_fs hb.iv
    exact Fc.one _ (hb.trans w1) (fun x => by have := w3 x; have := hb.ge; omega) hi (by rw [w2]; omega) (by rw [w2]; omega)

theorem aheadS_fs {s : ByteArray} {g : Sc} (h : Iv s g) : Fs s g (aheadS s g) ∧ (aheadS s g).t = g.t ∧ (0 < aheadK s g → g.bad < 0 ∧ g.at_ < (aheadS s g).at_ ∧ (aheadS s g).bad < 0) := by
  unfold aheadS aheadK
  cases h1 : sgB s g 38
  · simp only [Bool.false_eq_true, if_false]
    have f1 := Fs.sg h 38
    have f2 := Fs.sg f1.iv 33
    refine ⟨f1.trans f2, by rw [sg_t, sg_t], ?_⟩
    cases h2 : sgB s (sg s g 38) 33
    · simp
    · intro _
      obtain ⟨p1, p2⟩ := sgB_true h2
      rw [sg_bad] at p1
      refine ⟨p1, ?_, by rw [sg_bad, sg_bad]; exact p1⟩
      have := f1.ge
      have := bl_ge s (sg s g 38)
      rw [show sg s (sg s g 38) 33 = adv (bl s (sg s g 38)) by rw [sg.eq_1 s (sg s g 38), h2]; rfl, adv_at]
      omega
  · simp only [if_true]
    obtain ⟨p1, p2⟩ := sgB_true h1
    refine ⟨Fs.sg h 38, sg_t s g 38, fun _ => ⟨p1, ?_, by rw [sg_bad]; exact p1⟩⟩
    have := bl_ge s g
    rw [show sg s g 38 = adv (bl s g) by rw [sg.eq_1, h1]; rfl, adv_at]
    omega

theorem kindOf_pos {c : Nat} (h : kindOf c > 0) : 0 < c := by
  rcases Nat.eq_zero_or_pos c with rfl | hc
  · exact absurd h (by decide)
  · exact hc

/-- The numbers move on, no node comes. -/
theorem Fc.sc {s : ByteArray} {A B : St} {k j : Nat} (h : Fc s A B k j) {g : Sc} (hf : Fs s B.sc g) (ht : g.t = B.sc.t) : Fc s A { B with sc := g } k j where
  iv := hf.iv
  ge := Nat.le_trans h.ge hf.ge
  op := hf.op.trans h.op
  t := by rw [show ({ B with sc := g } : St).sc.t = g.t from rfl, ht]; exact h.t
  tn := by have := h.tn; simp only; omega
  good := fun x => h.good (hf.good x)
  same := fun x => by have e := h.same x; simp only; rw [hf.same (by rw [e]; exact x), e]
  len := h.len
  prog := fun x => Nat.lt_of_lt_of_le (h.prog (hf.good x)) hf.ge
  pot := fun x => by have := h.pot x; have := hf.rest; simp only [Pt] at *; omega
  pot' := by have := h.pot'; have := hf.rest; simp only [Pt] at *; omega

/-- One node more. -/
theorem Fc.node {s : ByteArray} {A B : St} {k j : Nat} (h : Fc s A B (k + 1) j) (N : Nd) : Fc s A (addN B N).1 k (j + 1) where
  iv := h.iv
  ge := h.ge
  op := h.op
  t := h.t
  tn := by have := h.tn; simp [addN]; omega
  good := h.good
  same := h.same
  len := by have := h.len; simp [addN]; omega
  prog := h.prog
  pot := fun x => by have := h.pot x; simp [Pt, addN] at *; omega
  pot' := by have := h.pot'; simp [Pt, addN] at *; omega

theorem item_fc {s : ByteArray} {ch : St → St × Nat} {d : Nat} (hch : d = 0 ∨ Good s ch (d - 1)) {A : St} (hi : Iv s A.sc) (hd : 5 ≤ A.sc.op + d) : Fc s A (itemM s ch A).1 6 1 := by
  obtain ⟨f0, t0, k0⟩ := aheadS_fs hi
  have hp := part_fc hch (A := { A with sc := aheadS s A.sc }) f0.iv (by have := f0.op; simp only; omega)
  unfold itemM
  generalize partM s ch { A with sc := aheadS s A.sc } = X at *
  generalize aheadS s A.sc = g at *
  generalize aheadK s A.sc = k at *
  -- behind the part
  have hr : Fc s { A with sc := g } (repM s X).1 6 1 := by
    unfold repM
    have hb := Fs.bl hp.iv
    have hbt := bl_t s X.1.sc
    split
    · next hk =>
      obtain ⟨p1, p2, p3⟩ := pk_pos (kindOf_pos hk)
      have hgood := hb.good p1
      have hpo := hp.pot'
      have hpo1 := hp.pot
      have hlt := rest_lt (s := s) (g := X.1.sc) (g' := adv (bl s X.1.sc)) hp.iv hgood (fun _ => by rw [adv_at]; have := hb.ge; omega)
      have hge := hb.ge
      have h1 := hp.ge
      have h2 := hp.tn
      have h3 := hp.t
      have h4 := hp.op
      have h5 := hb.op
      have h6 := hp.len
      have h7 := hp.prog hgood
      have h8 := hp.good hgood
      have hiv := hb.iv.adv p2
      generalize bl s X.1.sc = y at *
      dsimp only [addN, adv_at, adv_t, adv_op, Pt] at *
      refine ⟨hiv, ?_, ?_, ?_, ?_, fun _ => h8, fun x => absurd h8 (by dsimp only at x; omega), ?_, fun _ => ?_, fun x => ?_, ?_⟩ <;> dsimp only [addN, adv_at, adv_t, adv_op, Pt] <;> (try simp only [List.length_append, List.length_cons, List.length_nil]) <;> first | omega | (have := hpo1 x; omega)
    · exact hp.sc hb hbt
  generalize repM s X = R at *
  have hge := f0.ge
  have h1 := hr.ge
  have h2 := hr.tn
  have h3 := hr.t
  have h4 := hr.op
  have h5 := f0.op
  have h6 := hr.len
  have hrest := f0.rest
  have hpo' := hr.pot'
  have hpo := hr.pot
  have hpr := hr.prog
  have hgd := hr.good
  have hsm := hr.same
  have hiv := hr.iv
  have hA : A.sc.bad < 0 → 1 ≤ rest s A.sc := fun x => by have := hi.1 x; unfold rest; rw [if_pos x]; omega
  have hg0 : ¬ g.bad < 0 → rest s g = 0 := fun x => by unfold rest; rw [if_neg x]
  unfold aheadM
  dsimp only [Pt] at *
  split
  · next hk =>
    obtain ⟨hg1, hg2, hg3⟩ := k0 hk
    have hpo3 := hpo hg3
    have hlt := rest_lt (s := s) (g := A.sc) (g' := g) hi hg1 (fun _ => hg2)
    refine ⟨hiv, ?_, ?_, ?_, ?_, fun _ => hg1, fun x => absurd hg1 (by omega), ?_, fun _ => ?_, fun x => ?_, ?_⟩ <;> dsimp only [addN, Pt] <;> (try simp only [List.length_append, List.length_cons, List.length_nil]) <;> omega
  · refine ⟨hiv, ?_, ?_, ?_, ?_, fun x => f0.good (hgd x), fun x => ?_, ?_, fun x => ?_, fun x => ?_, ?_⟩
    · omega
    · omega
    · omega
    · omega
    · have e := f0.same x
      have := hsm (by rw [e]; exact x)
      rw [this]; exact e
    · omega
    · have := hpr x; omega
    · dsimp only [Pt]
      by_cases hgb : g.bad < 0
      · have := hpo hgb; omega
      · have := hg0 hgb; have := hA x; omega
    · dsimp only [Pt]; omega

theorem seqF_fc {s : ByteArray} {ch : St → St × Nat} {d : Nat} (hch : d = 0 ∨ Good s ch (d - 1)) : ∀ f acc A, Iv s A.sc → 5 ≤ A.sc.op + d → rk s A.sc < f →
    Fc s A (seqF s ch f acc A).1 6 1 ∧ (seqF s ch f acc A).2.length ≤ acc.length + rk s A.sc + 1
  | 0, acc, A, hi, hd, hr => absurd hr (by omega)
  | f + 1, acc, A, hi, hd, hr => by
    have hp := item_fc hch hi hd
    rw [seqF]
    generalize itemM s ch A = X at *
    have hb := Fs.bl hp.iv
    have h1 := hp.sc hb (bl_t s X.1.sc)
    generalize bl s X.1.sc = g at *
    split
    · exact ⟨h1, by simp <;> omega⟩
    · next hse =>
      have hm : moreB s g = true := by
        unfold seqEnd at hse
        cases h : moreB s g
        · simp [h] at hse
        · rfl
      have hg := (moreB_true.1 hm).1
      have hA : A.sc.bad < 0 := h1.good hg
      have hlt := rk_lt (g' := g) hi hA (fun x => h1.prog x)
      have hop := h1.op
      dsimp only at hop
      obtain ⟨q, ql⟩ := seqF_fc hch f (acc ++ [X.2]) { X.1 with sc := g } h1.iv (by dsimp only; omega) (by dsimp only; omega)
      generalize seqF s ch f (acc ++ [X.2]) { X.1 with sc := g } = Y at *
      simp only [List.length_append, List.length_cons, List.length_nil] at ql
      have a1 := h1.ge; have a2 := q.ge; have a3 := q.op; have a4 := h1.t; have a5 := q.t; have a6 := h1.tn; have a7 := q.tn; have a8 := h1.len; have a9 := q.len
      have b1 := h1.pot hA; have b2 := q.pot hg; have b3 := h1.pot'; have b4 := q.pot'
      dsimp only at *
      exact ⟨⟨q.iv, by omega, by omega, by omega, by omega, fun _ => hA, fun x => absurd hA (by omega), by omega, fun x => by have := q.prog x; dsimp only at this; omega, fun _ => by omega, by omega⟩, by omega⟩

theorem seq_fc {s : ByteArray} {ch : St → St × Nat} {d : Nat} (hch : d = 0 ∨ Good s ch (d - 1)) {A : St} (hi : Iv s A.sc) (hd : 5 ≤ A.sc.op + d) : Fc s A (seqM s ch A).1 5 2 :=
  (seqF_fc hch (s.size + 3) [] A hi hd (by have := rk_le s A.sc; omega)).1.node _

theorem choF_fc {s : ByteArray} {ch : St → St × Nat} {d : Nat} (hch : d = 0 ∨ Good s ch (d - 1)) : ∀ f acc A, Iv s A.sc → 5 ≤ A.sc.op + d → rk s A.sc < f →
    Fc s A (choF s ch f acc A).1 5 2 ∧ (choF s ch f acc A).2.length ≤ acc.length + rk s A.sc + 1
  | 0, acc, A, hi, hd, hr => absurd hr (by omega)
  | f + 1, acc, A, hi, hd, hr => by
    have hp := seq_fc hch hi hd
    rw [choF]
    generalize seqM s ch A = X at *
    have hb := Fs.sg hp.iv 47
    have h1 := hp.sc hb (sg_t s X.1.sc 47)
    split
    · next hsg =>
      have hX := (sgB_true hsg).1
      have hg : (sg s X.1.sc 47).bad < 0 := by rw [sg_bad]; exact hX
      generalize sg s X.1.sc 47 = g at *
      have hA : A.sc.bad < 0 := h1.good hg
      have hlt := rk_lt (g' := g) hi hA (fun x => h1.prog x)
      have hop := h1.op
      dsimp only at hop
      obtain ⟨q, ql⟩ := choF_fc hch f (acc ++ [X.2]) { X.1 with sc := g } h1.iv (by dsimp only; omega) (by dsimp only; omega)
      generalize choF s ch f (acc ++ [X.2]) { X.1 with sc := g } = Y at *
      simp only [List.length_append, List.length_cons, List.length_nil] at ql
      have a1 := h1.ge; have a2 := q.ge; have a3 := q.op; have a4 := h1.t; have a5 := q.t; have a6 := h1.tn; have a7 := q.tn; have a8 := h1.len; have a9 := q.len
      have b1 := h1.pot hA; have b2 := q.pot hg; have b3 := h1.pot'; have b4 := q.pot'
      dsimp only at *
      exact ⟨⟨q.iv, by omega, by omega, by omega, by omega, fun _ => hA, fun x => absurd hA (by omega), by omega, fun x => by have := q.prog x; dsimp only at this; omega, fun _ => by omega, by omega⟩, by omega⟩
    · exact ⟨h1, by simp <;> omega⟩

theorem cho_fc {s : ByteArray} {ch : St → St × Nat} {d : Nat} (hch : d = 0 ∨ Good s ch (d - 1)) {A : St} (hi : Iv s A.sc) (hd : 5 ≤ A.sc.op + d) : Fc s A (choM s ch A).1 4 3 :=
  (choF_fc hch (s.size + 3) [] A hi hd (by have := rk_le s A.sc; omega)).1.node _

theorem choD_good (s : ByteArray) : ∀ d, Good s (choD s (d + 1)) d
  | 0 => fun A hi hd => cho_fc (d := 0) (Or.inl rfl) hi hd
  | d + 1 => fun A hi hd => cho_fc (d := d + 1) (Or.inr (choD_good s d)) hi hd

def intV (n : Nat) : Value := .int .i64 (n : Int)

def inR (l : List (Nat × Nat)) (i : Nat) : Bool := l.any (fun r => decide (r.1 ≤ i) && decide (i ≤ r.2))

theorem zget_gen (a b x : Value) (r : List Value) (n i : Nat) (h : i < n) : (a :: b :: (List.replicate n x ++ r)).toArray[2 + i]? = some x := by
  rw [List.getElem?_toArray, Nat.add_comm, List.getElem?_cons_succ, List.getElem?_cons_succ, List.getElem?_append_left (by simpa using h)]
  rw [List.getElem?_replicate, if_pos h]

theorem zone_gen (a b x p q r t : Value) (n : Nat) (ha : a.oneCell' = true) (hb : b.oneCell' = true) (hx : x.oneCell' = true) (hp : p.oneCell' = true) (hq : q.oneCell' = true) (hr : r.oneCell' = true) (ht : t.oneCell' = true) :
    ∀ u ∈ (a :: b :: (List.replicate n x ++ [p, q, r, t])), u.oneCell' = true := by
  intro u hu
  simp only [List.mem_cons, List.mem_append, List.mem_replicate, List.not_mem_nil, or_false] at hu
  rcases hu with h | h | h | h | h | h | h
  · rw [h]; exact ha
  · rw [h]; exact hb
  · rw [h.2]; exact hx
  · rw [h]; exact hp
  · rw [h]; exact hq
  · rw [h]; exact hr
  · rw [h]; exact ht

theorem one_set {c : Array Value} (h : ∀ u ∈ c.toList, u.oneCell' = true) {i : Nat} {x : Value} (hx : x.oneCell' = true) : ∀ u ∈ (c.setIfInBounds i x).toList, u.oneCell' = true := by
  intro u hu
  rw [Array.toList_setIfInBounds] at hu
  rcases List.mem_or_eq_of_mem_set hu with h' | h'
  · exact h u h'
  · rw [h']; exact hx

theorem ones_of {c : Array Value} (h : ∀ u ∈ c.toList, u.oneCell' = true) : ones c = true := by
  unfold ones
  exact Array.all_eq_true_iff_forall_mem.2 (fun v hv => h v (by simpa using hv))

theorem markN_get (c : Array Value) (a j : Nat) : ∀ n, (2 + (a + n) ≤ c.size) → (markN c a n)[j]? = if 2 + a ≤ j ∧ j < 2 + (a + n) then some (.bool true) else c[j]?
  | 0, h => by rw [markN, if_neg (by omega)]
  | n + 1, h => by
    rw [markN, Array.getElem?_setIfInBounds, markN_get c a j n (by omega), markN_size]
    by_cases hj : 2 + (a + n) = j
    · rw [if_pos hj, if_pos (by omega), if_pos (by omega)]
    · rw [if_neg hj]
      by_cases hr : 2 + a ≤ j ∧ j < 2 + (a + n)
      · rw [if_pos hr, if_pos (by omega)]
      · rw [if_neg hr, if_neg (by omega)]

theorem one_mark {c : Array Value} (h : ∀ u ∈ c.toList, u.oneCell' = true) (a : Nat) : ∀ n, ∀ u ∈ (markN c a n).toList, u.oneCell' = true
  | 0 => h
  | n + 1 => one_set (one_mark h a n) rfl

/-- From one world to a later one: the grammar's own blocks alone have turned; what is new lies from H on. -/
structure Stp (H b : Nat) (nv nv' : Value) (U U' : Nat → Prop) (w w' : World) : Prop where
  kept : Kept (fun k => k = b ∨ nv.ownBlock = some k) w w'
  new : ∀ k, nv'.ownBlock = some k → nv.ownBlock = some k ∨ H ≤ k
  sub : ∀ k, U' k → U k ∨ H ≤ k

theorem Stp.low {H H' b : Nat} {n0 n1 : Value} {U0 U1 : Nat → Prop} {w0 w1 : World} (h : Stp H' b n0 n1 U0 U1 w0 w1) (hh : H ≤ H') : Stp H b n0 n1 U0 U1 w0 w1 :=
  ⟨h.kept, fun k x => (h.new k x).imp id (fun y => Nat.le_trans hh y), fun k x => (h.sub k x).imp id (fun y => Nat.le_trans hh y)⟩

theorem Stp.join {H b : Nat} {n0 n1 n2 : Value} {U0 U1 U2 : Nat → Prop} {w0 w1 w2 : World} (hH : w0.heap.size ≤ H) (h : Stp H b n0 n1 U0 U1 w0 w1) (k : Stp H b n1 n2 U1 U2 w1 w2) : Stp H b n0 n2 U0 U2 w0 w2 where
  kept := ⟨k.kept.os.trans h.kept.os, k.kept.tape.trans h.kept.tape, k.kept.output.trans h.kept.output, Nat.le_trans h.kept.size k.kept.size, fun i hi hs => by
    rw [k.kept.block i (Nat.lt_of_lt_of_le hi h.kept.size) (by
      rintro (h1 | h1)
      · exact hs (Or.inl h1)
      · rcases h.new i h1 with h2 | h2
        · exact hs (Or.inr h2)
        · omega)]
    exact h.kept.block i hi hs⟩
  new := fun i hi => by
    rcases k.new i hi with h1 | h1
    · exact h.new i h1
    · exact Or.inr h1
  sub := fun i hi => by
    rcases k.sub i hi with h1 | h1
    · exact h.sub i h1
    · exact Or.inr h1

theorem Stp.trans {b : Nat} {n0 n1 n2 : Value} {U0 U1 U2 : Nat → Prop} {w0 w1 w2 : World} (h : Stp w0.heap.size b n0 n1 U0 U1 w0 w1) (k : Stp w1.heap.size b n1 n2 U1 U2 w1 w2) : Stp w0.heap.size b n0 n2 U0 U2 w0 w2 :=
  h.join (Nat.le_refl _) (k.low h.kept.size)

theorem Stp.only {b : Nat} {nv : Value} {U : Nat → Prop} {w w' : World} (h : Kept (· = b) w w') {H : Nat} : Stp H b nv nv U U w w' := ⟨h.mono (fun _ _ x => Or.inl x), fun _ x => Or.inl x, fun _ x => Or.inl x⟩

theorem ownsRow_kept {S : Nat → Prop} {w w' : World} {base e size n : Nat} {v : Value} {xs : List Value} (h : w.ownsRow base e size v n xs) (hk : Kept S w w') (hs : ∀ k, v.ownBlock = some k → ¬ S k) : w'.ownsRow base e size v n xs := by
  obtain ⟨h1, h2⟩ := h
  refine ⟨h1, ?_⟩
  rcases h2 with h2 | ⟨g, cap, cur, hv, hg, hh, r⟩
  · exact Or.inl h2
  · refine Or.inr ⟨g, cap, cur, hv, hg, ?_, r⟩
    have hlt : g < w.heap.size := objAt_lt (show objAt w g = _ from hh)
    rw [hk.block g hlt (hs g (by rw [hv]; rfl))]; exact hh

/-- What type the block of an owned row has. -/
theorem ownsRow_obj {w : World} {base e size n k : Nat} {v : Value} {xs : List Value} (h : w.ownsRow base e size v n xs) (hk : v.ownBlock = some k) : ∃ c, objAt w k = some (.cells c e (0, 0)) := by
  rcases h.2 with ⟨h2, _⟩ | ⟨g, cap, cur, hv, hg, hh, r⟩
  · rw [h2] at hk; cases hk
  · rw [hv] at hk
    simp only [Value.ownBlock, Option.some.injEq] at hk
    subst hk
    exact ⟨cur, hh⟩

theorem Gis.obj {w : World} {b : Nat} {s : ByteArray} {nv rv : Value} {g : Sc} (h : Gis w b s nv rv g) : ∃ c, objAt w b = some (.cells c 66 (0, 0)) := ⟨_, h⟩

theorem own_one {w : World} {base : Nat} (h : base ≤ w.heap.size) (n : Nat) : (w.alloc (.cells #[.int .i64 (n : Int)] 3)).ownsRow base 3 1 (.slice (some ⟨w.heap.size, 0, none⟩) 1 1) 1 [intV n] :=
  World.ownsRow_lit w #[.int .i64 (n : Int)] 1 h (by decide) rfl

theorem Kept.then {S T : Nat → Prop} {a b c : World} (h : Kept S a b) (k : Kept T b c) (hs : ∀ i, i < a.heap.size → T i → S i) : Kept S a c :=
  ⟨k.os.trans h.os, k.tape.trans h.tape, k.output.trans h.output, Nat.le_trans h.size k.size, fun i hi hn => (k.block i (Nat.lt_of_lt_of_le hi h.size) (fun x => hn (hs i hi x))).trans (h.block i hi hn)⟩

theorem setF_rng {s : ByteArray} : ∀ f fst g, Iv s g → ∀ r ∈ (setF s f fst g).1, r.1 < 256 ∧ r.2 < 256
  | 0, _, g, h => by simp [setF]
  | f + 1, fst, g, h => by
    rw [setF]; split
    · obtain ⟨i1, i2, i3, i4, i5, i6, i7⟩ := setR_facts h
      intro r hr
      rcases List.mem_cons.1 hr with e | e
      · rw [e]; exact ⟨i3, i4⟩
      · exact setF_rng f false _ i1 r e
    · simp

/-- What is asked of a state ahead of a call. -/
structure Ok (s : ByteArray) (A : St) : Prop where
  iv : Iv s A.sc
  t : A.sc.t ≤ A.ns.length
  pt : Pt s A ≤ 3000
  op : A.sc.op ≤ 5
  size : s.size ≤ 400

theorem Ok.at_ {s : ByteArray} {A : St} (h : Ok s A) : A.sc.at_ ≤ 401 := by have := h.iv.2; have := h.size; omega

theorem Ok.len {s : ByteArray} {A : St} (h : Ok s A) : A.ns.length ≤ 3000 := by have := h.pt; unfold Pt at this; omega

theorem notLetter {c : Nat} (h : letterB c = false) : ¬ (97 ≤ c ∧ c ≤ 122) := by unfold letterB at h; simp at h; omega

theorem Kept.drop {b kb : Nat} {w W : World} (h : Kept (fun k => k = b ∨ k = kb) w W) (hk : w.heap.size ≤ kb) : Kept (· = b) w W :=
  ⟨h.os, h.tape, h.output, h.size, fun k hk' hn => h.block k hk' (by
    rintro (e | e)
    · exact hn e
    · omega)⟩

theorem Ok.sc {s : ByteArray} {A : St} (h : Ok s A) {g : Sc} (hf : Fs s A.sc g) (ht : g.t = A.sc.t) : Ok s { A with sc := g } := by
  refine ⟨hf.iv, by dsimp only; rw [ht]; exact h.t, ?_, by dsimp only; rw [hf.op]; exact h.op, h.size⟩
  have := h.pt; have := hf.rest; unfold Pt at *; dsimp only; omega

theorem Ok.next {s : ByteArray} {A B : St} {k j : Nat} (h : Ok s A) (f : Fc s A B k j) (hb : B.sc.bad < 0) (hk : 3 ≤ k) : Ok s B := by
  have h1 := f.pot (f.good hb)
  have h2 := h.pt
  have h3 := f.tn
  have h4 := h.t
  have h5 := f.op
  have h6 := h.op
  exact ⟨f.iv, by omega, by omega, by omega, h.size⟩

structure Rl where
  name : List UInt8
  at_ : Nat
  is : Nat

/-- A rule is read. -/
def ruleM (s : ByteArray) (X : St) : St × Rl :=
  ({ (choD s 6 { X with sc := mu s (word s X.sc).2 61 }).1 with sc := mu s (choD s 6 { X with sc := mu s (word s X.sc).2 61 }).1.sc 10 },
    ⟨(word s X.sc).1, (word s X.sc).2.at_ - (word s X.sc).1.length, (choD s 6 { X with sc := mu s (word s X.sc).2 61 }).2⟩)

def readF (s : ByteArray) : Nat → St → List Rl → St × List Rl
  | 0, X, rs => (X, rs)
  | f + 1, X, rs =>
    if X.sc.bad < 0 ∧ (X.sc.at_ < s.size ∨ rs.length = 0) then
      if rs.length = 8 then ({ X with sc := wr X.sc }, rs) else readF s f (ruleM s X).1 (rs ++ [(ruleM s X).2])
    else (X, rs)

def read (s : ByteArray) : St × List Rl := readF s 10 ⟨⟨0, -1, 0, 0⟩, []⟩ []

def rlCells (r : Rl) : List Value := [.string (ba r.name), .int .i64 (r.at_ : Int), .int .i64 (r.is : Int)]

def RulesAt (w : World) (base : Nat) (rv : Value) (rs : List Rl) : Prop := w.ownsRow base 70 3 rv rs.length (rs.flatMap rlCells)

theorem wd_len {s : ByteArray} : ∀ f acc g, (wd s f acc g).1.length + g.at_ ≤ acc.length + (wd s f acc g).2.at_
  | 0, acc, g => by simp [wd]
  | f + 1, acc, g => by
    rw [wd]
    cases hl : letterB (pk s g : Int)
    · simp only [Bool.false_eq_true, if_false]
      split
      · rw [wr_at]; omega
      · omega
    · simp only [if_true]
      split
      · simp only; rw [wr_at]; omega
      · have := wd_len (s := s) f (acc ++ [(pk s g).toUInt8]) (adv g)
        simp only [List.length_append, List.length_cons, List.length_nil, adv_at] at this
        omega

theorem word_len (s : ByteArray) (g : Sc) : (word s g).1.length ≤ (word s g).2.at_ := by
  have := wd_len (s := s) 10 [] (bl s g)
  unfold word
  simp only [List.length_nil] at this
  omega

theorem wd_len8 {s : ByteArray} : ∀ f acc g, acc.length ≤ 8 → (wd s f acc g).1.length ≤ 8
  | 0, acc, g, h => h
  | f + 1, acc, g, h => by
    rw [wd]
    split
    · split
      · exact h
      · exact wd_len8 f _ _ (by simp; omega)
    · exact h

theorem word_len8 (s : ByteArray) (g : Sc) : (word s g).1.length ≤ 8 := wd_len8 10 [] _ (by simp)

/-- Behind a rule. -/
theorem rule_ok {s : ByteArray} {X : St} (h : Ok s X) (ho : X.sc.op = 0) (hb : X.sc.bad < 0) :
    Ok s { X with sc := mu s (word s X.sc).2 61 } ∧ (ruleM s X).1.sc.op = 0 ∧ Ok s (ruleM s X).1 ∧ (mu s (word s X.sc).2 61).op = 0 ∧ (choD s 6 { X with sc := mu s (word s X.sc).2 61 }).1.ns.length ≤ 4000 := by
  obtain ⟨w1, w2, w3⟩ := word_fs h.iv
  have m1 := Fs.mu w1.iv 61
  have f1 := w1.trans m1
  have t1 : (mu s (word s X.sc).2 61).t = X.sc.t := by rw [mu_t, w2]
  have hok := h.sc f1 t1
  have hop : (mu s (word s X.sc).2 61).op = 0 := by rw [f1.op, ho]
  have hlt : rest s (mu s (word s X.sc).2 61) + 1 ≤ rest s X.sc := by
    refine rest_lt h.iv hb (fun x => ?_)
    have := w3 (m1.good x)
    have := m1.ge
    omega
  unfold ruleM
  generalize mu s (word s X.sc).2 61 = g at *
  have hc := choD_good s 5 { X with sc := g } hok.iv (by dsimp only; omega)
  generalize choD s (5 + 1) { X with sc := g } = Y at *
  change _ ∧ (mu s Y.1.sc 10).op = 0 ∧ Ok s { Y.1 with sc := mu s Y.1.sc 10 } ∧ g.op = 0 ∧ Y.1.ns.length ≤ 4000
  have m2 := Fs.mu hc.iv 10
  have t2 := mu_t s Y.1.sc 10
  have a1 := hc.op
  have a2 := hc.tn
  have a3 := hc.pot'
  have a4 := h.pt
  have a5 := h.t
  have a6 := m2.rest
  have a7 := m2.op
  unfold Pt at a3 a4
  dsimp only at *
  refine ⟨hok, by omega, ⟨m2.iv, by dsimp only; omega, by unfold Pt; dsimp only; omega, by dsimp only; omega, h.size⟩, hop, by omega⟩

theorem ownsRow_form {w : World} {base e size n : Nat} {v : Value} {xs : List Value} (h : w.ownsRow base e size v n xs) : ∃ p cap, v = .slice p n cap := by
  rcases h.2 with ⟨h1, h2⟩ | ⟨g, cap, cur, hv, _⟩
  · exact ⟨none, 0, by rw [h1, h2]⟩
  · exact ⟨_, _, hv⟩

/-- The first rule of a name. -/
def fndI (rs : List Rl) (nm : List UInt8) : Option Nat := rs.findIdx? (fun r => r.name == nm)

def fnd (rs : List Rl) (nm : List UInt8) : Int := match fndI rs nm with | some i => (i : Int) | none => -1

theorem fndI_some {rs : List Rl} {nm : List UInt8} {k : Nat} (h : k < rs.length) (hk : rs[k].name = nm) (hj : ∀ j (h : j < rs.length), j < k → rs[j].name ≠ nm) : fndI rs nm = some k := by
  unfold fndI
  rw [List.findIdx?_eq_some_iff_getElem]
  exact ⟨h, by simp [hk], fun j hjk => by simpa using hj j (by omega) hjk⟩

theorem fndI_none {rs : List Rl} {nm : List UInt8} (hj : ∀ j (h : j < rs.length), rs[j].name ≠ nm) : fndI rs nm = none := by
  unfold fndI
  rw [List.findIdx?_eq_none_iff]
  intro x hx
  obtain ⟨i, hi, rfl⟩ := List.getElem_of_mem hx
  simpa using hj i hi

theorem fndI_lt {rs : List Rl} {nm : List UInt8} {k : Nat} (h : fndI rs nm = some k) : k < rs.length := by
  unfold fndI at h
  rw [List.findIdx?_eq_some_iff_getElem] at h
  exact h.1

theorem flat_get {α : Type} (f : α → List Value) (m : Nat) (hf : ∀ a, (f a).length = m) : ∀ (l : List α) (k j : Nat), j < m → (hk : k < l.length) → (l.flatMap f)[k * m + j]? = (f l[k])[j]?
  | [], k, j, _, hk => absurd hk (by simp)
  | a :: l, 0, j, hj, hk => by
    rw [List.flatMap_cons, Nat.zero_mul, Nat.zero_add, List.getElem?_append_left (by rw [hf]; exact hj)]
    rfl
  | a :: l, k + 1, j, hj, hk => by
    rw [List.flatMap_cons, List.getElem?_append_right (by rw [hf, Nat.add_mul]; omega), hf, show (k + 1) * m + j - m = k * m + j by rw [Nat.add_mul]; omega]
    rw [flat_get f m hf l k j hj (by simpa using hk)]
    rfl

/-- What is read of the rules. -/
theorem RulesAt.cells {w : World} {base : Nat} {rv : Value} {rs : List Rl} (h : RulesAt w base rv rs) {k : Nat} (hk : k < rs.length) :
    ∃ g cap, rv = .slice (some ⟨g, 0, none⟩) rs.length cap ∧ w.cell? ⟨g, k * 3, none⟩ = some (.string (ba rs[k].name)) ∧ w.cell? ⟨g, k * 3 + 1, none⟩ = some (.int .i64 (rs[k].at_ : Int)) ∧ w.cell? ⟨g, k * 3 + 2, none⟩ = some (.int .i64 (rs[k].is : Int)) := by
  unfold RulesAt at h
  obtain ⟨g, cap, hv, _, _⟩ := h.form (by omega)
  subst hv
  have hf : ∀ a : Rl, (rlCells a).length = 3 := fun _ => rfl
  refine ⟨g, cap, rfl, ?_, ?_, ?_⟩
  · rw [h.cellAt (k * 3) (by omega)]
    have := flat_get rlCells 3 hf rs k 0 (by omega) hk
    rw [Nat.add_zero] at this
    rw [this]; rfl
  · rw [h.cellAt (k * 3 + 1) (by omega), flat_get rlCells 3 hf rs k 1 (by omega) hk]; rfl
  · rw [h.cellAt (k * 3 + 2) (by omega), flat_get rlCells 3 hf rs k 2 (by omega) hk]; rfl

theorem flat_get' {α : Type} (f : α → List Value) (m : Nat) : ∀ (l : List α), (∀ a ∈ l, (f a).length = m) → ∀ (k j : Nat), j < m → (hk : k < l.length) → (l.flatMap f)[k * m + j]? = (f l[k])[j]?
  | [], _, k, j, _, hk => absurd hk (by simp)
  | a :: l, hf, 0, j, hj, hk => by
    rw [List.flatMap_cons, Nat.zero_mul, Nat.zero_add, List.getElem?_append_left (by rw [hf a (by simp)]; exact hj)]
    rfl
  | a :: l, hf, k + 1, j, hj, hk => by
    rw [List.flatMap_cons, List.getElem?_append_right (by rw [hf a (by simp), Nat.add_mul]; omega), hf a (by simp), show (k + 1) * m + j - m = k * m + j by rw [Nat.add_mul]; omega]
    rw [flat_get' f m l (fun x hx => hf x (by simp [hx])) k j hj (by simpa using hk)]
    rfl

/-- misnamed. -/
def lo (a : Int) (x : Nat) : Int := if a < 0 ∨ (x : Int) < a then (x : Int) else a

def misR (rs : List Rl) : Nat → Int
  | 0 => -1
  | k + 1 => if fnd rs ((rs.map Rl.name).getD k []) < k then lo (misR rs k) ((rs.map Rl.at_).getD k 0) else misR rs k

def misN (rs : List Rl) (ns : List Nd) : Nat → Int
  | 0 => misR rs rs.length
  | k + 1 => if (ns.map Nd.kind).getD k 0 = 3 ∧ fnd rs ((ns.map Nd.name).getD k []) < 0 then lo (misN rs ns k) ((ns.map Nd.at_).getD k 0) else misN rs ns k

def mis (rs : List Rl) (ns : List Nd) : Int := misN rs ns ns.length

theorem lo_ge (a : Int) (x : Nat) (h : -1 ≤ a) : -1 ≤ lo a x := by unfold lo; split <;> omega

theorem misR_ge (rs : List Rl) : ∀ k, -1 ≤ misR rs k
  | 0 => by simp [misR]
  | k + 1 => by rw [misR]; split; exact lo_ge _ _ (misR_ge rs k); exact misR_ge rs k

theorem map_getD {α β : Type} (f : α → β) (l : List α) (k : Nat) (d : β) (h : k < l.length) : (l.map f).getD k d = f l[k] := by
  simp [List.getD, List.getElem?_eq_getElem h]

/-- A node whose parts lie ahead of place n. -/
structure NdOk (n : Nat) (N : Nd) : Prop where
  low : ∀ j ∈ N.subs, j < n
  one : 6 ≤ N.kind → ∃ x, N.subs = [x]
  kind : N.kind ≤ 10

/-- Nodes whose parts lie ahead of them. -/
def Wf (ns : List Nd) : Prop := ∀ (i : Nat) (N : Nd), ns[i]? = some N → NdOk i N

theorem Wf.nil : Wf [] := fun i N h => by simp at h

theorem Wf.push {ns : List Nd} (h : Wf ns) {N : Nd} (hN : NdOk ns.length N) : Wf (ns ++ [N]) := by
  intro i M hM
  by_cases hi : i < ns.length
  · rw [List.getElem?_append_left hi] at hM; exact h i M hM
  · rw [List.getElem?_append_right (by omega)] at hM
    have h0 : i - ns.length = 0 := by
      rcases Nat.eq_zero_or_pos (i - ns.length) with h0 | h0
      · exact h0
      · rw [List.getElem?_eq_none (by simp; omega)] at hM; cases hM
    rw [h0] at hM
    simp at hM
    subst hM
    rw [show i = ns.length by omega]
    exact hN

/-- From A to X: well formed; X's place is there. -/
structure Ww (A : St) (X : St × Nat) : Prop where
  wf : Wf X.1.ns
  lt : X.2 < X.1.ns.length
  le : A.ns.length ≤ X.1.ns.length

theorem Ww.add {A : St} (h : Wf A.ns) {N : Nd} (hN : NdOk A.ns.length N) : Ww A (addN A N) := ⟨h.push hN, by simp [addN], by simp [addN]⟩

theorem nd_plain {n : Nat} {N : Nd} (h : N.subs = []) (hk : N.kind ≤ 5) : NdOk n N := ⟨by rw [h]; simp, fun x => absurd x (by omega), by omega⟩

theorem Ww.plain {A : St} (g : Sc) (h : Wf A.ns) (N : Nd) (h1 : N.subs = []) (h2 : N.kind ≤ 5) : Ww A (addN { A with sc := g } N) := ⟨h.push (nd_plain h1 h2), by simp [addN], by simp [addN]⟩

theorem Ww.sc {A : St} {X : St × Nat} (h : Ww A X) (g : Sc) : Ww A ({ X.1 with sc := g }, X.2) := ⟨h.wf, h.lt, h.le⟩

def GoodW (ch : St → St × Nat) : Prop := ∀ A, Wf A.ns → Ww A (ch A)

theorem part_w {s : ByteArray} {ch : St → St × Nat} (hch : GoodW ch) : GoodW (partM s ch) := by
  intro A h
  unfold partM
  split
  · exact Ww.plain _ h _ rfl (by first | decide | (dsimp only; omega))
  · split
    · exact Ww.plain _ h _ rfl (by first | decide | (dsimp only; omega))
    · split
      · exact Ww.plain _ h _ rfl (by first | decide | (dsimp only; omega))
      · split
        · exact Ww.plain _ h _ rfl (by first | decide | (dsimp only; omega))
        · split
          · have := hch { A with sc := opn (bl s A.sc) } h
            exact ⟨this.wf, this.lt, this.le⟩
          · exact Ww.plain _ h _ rfl (by first | decide | (dsimp only; omega))

theorem one_ok {n k x : Nat} (hx : x < n) (hk : k ≤ 10) : NdOk n { nd0 with kind := k, subs := [x] } :=
  ⟨by intro j hj; simp at hj; omega, fun _ => ⟨x, rfl⟩, hk⟩

theorem item_w {s : ByteArray} {ch : St → St × Nat} (hch : GoodW ch) : GoodW (itemM s ch) := by
  intro A h
  have hp := part_w (s := s) hch { A with sc := aheadS s A.sc } h
  unfold itemM
  generalize partM s ch { A with sc := aheadS s A.sc } = X at *
  have hr : Ww A (repM s X) := by
    unfold repM
    split
    · next hk =>
      have hk10 : kindOf (pk s (bl s X.1.sc)) ≤ 10 := by unfold kindOf; (repeat' split) <;> omega
      have := Ww.add (A := { X.1 with sc := adv (bl s X.1.sc) }) hp.wf (one_ok hp.lt hk10)
      have hle := hp.le
      have hle2 := this.le
      exact ⟨this.wf, this.lt, Nat.le_trans hle hle2⟩
    · exact ⟨hp.wf, hp.lt, hp.le⟩
  generalize repM s X = R at *
  unfold aheadM
  split
  · next hk =>
    have hk10 : aheadK s A.sc ≤ 10 := by unfold aheadK; (repeat' split) <;> omega
    have := Ww.add (A := R.1) hr.wf (one_ok hr.lt hk10)
    exact ⟨this.wf, this.lt, Nat.le_trans hr.le this.le⟩
  · exact hr

theorem seqF_w {s : ByteArray} {ch : St → St × Nat} (hch : GoodW ch) : ∀ f acc A, Wf A.ns → (∀ j ∈ acc, j < A.ns.length) → Wf (seqF s ch f acc A).1.ns ∧ (∀ j ∈ (seqF s ch f acc A).2, j < (seqF s ch f acc A).1.ns.length) ∧ A.ns.length ≤ (seqF s ch f acc A).1.ns.length
  | 0, acc, A, h, ha => ⟨h, ha, Nat.le_refl _⟩
  | f + 1, acc, A, h, ha => by
    have hp := item_w (s := s) hch A h
    rw [seqF]
    generalize itemM s ch A = X at *
    have hj : ∀ j ∈ acc ++ [X.2], j < X.1.ns.length := by
      intro j hj
      rcases List.mem_append.1 hj with h1 | h1
      · have := ha j h1; have := hp.le; omega
      · simp at h1; rw [h1]; exact hp.lt
    split
    · exact ⟨hp.wf, hj, hp.le⟩
    · obtain ⟨q1, q2, q3⟩ := seqF_w hch f (acc ++ [X.2]) { X.1 with sc := bl s X.1.sc } hp.wf hj
      exact ⟨q1, q2, Nat.le_trans hp.le q3⟩

theorem seq_w {s : ByteArray} {ch : St → St × Nat} (hch : GoodW ch) : GoodW (seqM s ch) := by
  intro A h
  obtain ⟨q1, q2, q3⟩ := seqF_w (s := s) hch (s.size + 3) [] A h (by simp)
  have := Ww.add (A := (seqF s ch (s.size + 3) [] A).1) q1 (N := { nd0 with kind := 5, subs := (seqF s ch (s.size + 3) [] A).2 }) ⟨q2, fun x => absurd x (by simp), by simp⟩
  exact ⟨this.wf, this.lt, Nat.le_trans q3 this.le⟩

theorem choF_w {s : ByteArray} {ch : St → St × Nat} (hch : GoodW ch) : ∀ f acc A, Wf A.ns → (∀ j ∈ acc, j < A.ns.length) → Wf (choF s ch f acc A).1.ns ∧ (∀ j ∈ (choF s ch f acc A).2, j < (choF s ch f acc A).1.ns.length) ∧ A.ns.length ≤ (choF s ch f acc A).1.ns.length
  | 0, acc, A, h, ha => ⟨h, ha, Nat.le_refl _⟩
  | f + 1, acc, A, h, ha => by
    have hp := seq_w (s := s) hch A h
    rw [choF]
    generalize seqM s ch A = X at *
    have hj : ∀ j ∈ acc ++ [X.2], j < X.1.ns.length := by
      intro j hj
      rcases List.mem_append.1 hj with h1 | h1
      · have := ha j h1; have := hp.le; omega
      · simp at h1; rw [h1]; exact hp.lt
    split
    · obtain ⟨q1, q2, q3⟩ := choF_w hch f (acc ++ [X.2]) { X.1 with sc := sg s X.1.sc 47 } hp.wf hj
      exact ⟨q1, q2, Nat.le_trans hp.le q3⟩
    · exact ⟨hp.wf, hj, hp.le⟩

theorem cho_w {s : ByteArray} {ch : St → St × Nat} (hch : GoodW ch) : GoodW (choM s ch) := by
  intro A h
  obtain ⟨q1, q2, q3⟩ := choF_w (s := s) hch (s.size + 3) [] A h (by simp)
  have := Ww.add (A := (choF s ch (s.size + 3) [] A).1) q1 (N := { nd0 with kind := 4, subs := (choF s ch (s.size + 3) [] A).2 }) ⟨q2, fun x => absurd x (by simp), by simp⟩
  exact ⟨this.wf, this.lt, Nat.le_trans q3 this.le⟩

theorem choD_w (s : ByteArray) : ∀ d, GoodW (choD s d)
  | 0 => fun A h => Ww.plain A.sc h nd0 rfl (by decide)
  | d + 1 => cho_w (choD_w s d)

/-- What is well formed of what was read. -/
structure WfR (ns : List Nd) (rs : List Rl) : Prop where
  wf : Wf ns
  is : ∀ r ∈ rs, r.is < ns.length
  len : rs.length ≤ 8

theorem rule_w {s : ByteArray} {X : St} {rs : List Rl} (h : WfR X.ns rs) (h8 : rs.length ≠ 8) : WfR (ruleM s X).1.ns (rs ++ [(ruleM s X).2]) := by
  have hc := choD_w s 6 { X with sc := mu s (word s X.sc).2 61 } h.wf
  unfold ruleM
  generalize choD s 6 { X with sc := mu s (word s X.sc).2 61 } = Y at *
  have hle := hc.le
  have hl := h.len
  refine ⟨hc.wf, fun r hr => ?_, by simp; omega⟩
  rcases List.mem_append.1 hr with h1 | h1
  · have := h.is r h1; dsimp only at *; omega
  · simp at h1; rw [h1]; exact hc.lt

theorem readF_w {s : ByteArray} : ∀ f X rs, WfR X.ns rs → WfR (readF s f X rs).1.ns (readF s f X rs).2
  | 0, X, rs, h => h
  | f + 1, X, rs, h => by
    rw [readF]
    split
    · split
      · exact h
      · next h8 => exact readF_w f _ _ (rule_w h h8)
    · exact h

theorem read_w (s : ByteArray) : WfR (read s).1.ns (read s).2 := readF_w 10 _ _ ⟨Wf.nil, by simp, by simp⟩

/-- A list of bools in a block of its own. -/
def BoolsAt (w : World) (eb : Nat) (L : List Bool) : Prop := objAt w eb = some (.cells (L.map Value.bool).toArray 4 (0, 0))

theorem BoolsAt.cell {w : World} {eb : Nat} {L : List Bool} (h : BoolsAt w eb L) {i : Nat} (hi : i < L.length) : w.cell? ⟨eb, i, none⟩ = some (.bool (L.getD i false)) := by
  rw [objAt_cell h]
  simp [hi, List.getD]

theorem BoolsAt.frozen {w : World} {eb : Nat} {L : List Bool} (h : BoolsAt w eb L) (i : Nat) : w.frozen? ⟨eb, i, none⟩ = false := objAt_frozen h

theorem BoolsAt.set {w : World} {eb : Nat} {L : List Bool} (h : BoolsAt w eb L) (i : Nat) (v : Bool) : BoolsAt (w.setCell ⟨eb, i, none⟩ (.bool v)) eb (L.set i v) := by
  unfold BoolsAt
  rw [objAt_set h]
  simp [List.map_set]

theorem BoolsAt.kept {S : Nat → Prop} {w w' : World} {eb : Nat} {L : List Bool} (h : BoolsAt w eb L) (hk : Kept S w w') (hs : ¬ S eb) : BoolsAt w' eb L := objAt_kept h hk hs

/-- What is read of a node's parts. -/
theorem subs_cell {w : World} {base : Nat} {v : Value} {l : List Nat} (h : w.ownsRow base 3 1 v l.length (l.map intV)) {k : Nat} (hk : k < l.length) :
    ∃ sb cap, v = .slice (some ⟨sb, 0, none⟩) l.length cap ∧ w.cell? ⟨sb, k, none⟩ = some (.int .i64 ((l.getD k 0 : Nat) : Int)) := by
  obtain ⟨sb, cap, hv, _, _⟩ := h.form (by omega)
  subst hv
  refine ⟨sb, cap, rfl, ?_⟩
  rw [h.cellAt k (by omega)]
  simp [intV, hk, List.getD]

/-- Whether a node is empty, by what is known so far. -/
def evN (rs : List Rl) (N : Nd) (L : List Bool) (old : Bool) : Bool :=
  if N.kind = 0 then N.text.isEmpty
  else if N.kind = 3 then L.getD ((rs.map Rl.is).getD ((fndI rs N.name).getD 0) 0) false
  else if N.kind = 6 ∨ N.kind = 7 ∨ N.kind = 9 ∨ N.kind = 10 then true
  else if N.kind = 8 then L.getD (N.subs.getD 0 0) false
  else if N.kind = 4 then old || N.subs.any (fun j => L.getD j false)
  else if N.kind = 5 then N.subs.all (fun j => L.getD j false)
  else old

def nth (ns : List Nd) (k : Nat) : Nd := ns.getD k nd0

def swp (rs : List Rl) (ns : List Nd) : Nat → List Bool → List Bool
  | 0, L => L
  | k + 1, L => (swp rs ns k L).set k (evN rs (nth ns k) (swp rs ns k L) ((swp rs ns k L).getD k false))

def emp (rs : List Rl) (ns : List Nd) : Nat → List Bool
  | 0 => List.replicate ns.length false
  | r + 1 => swp rs ns ns.length (emp rs ns r)

def empty (rs : List Rl) (ns : List Nd) : List Bool := emp rs ns (ns.length + 1)

theorem swp_len (rs : List Rl) (ns : List Nd) : ∀ k L, (swp rs ns k L).length = L.length
  | 0, L => rfl
  | k + 1, L => by rw [swp, List.length_set, swp_len rs ns k L]

theorem emp_len (rs : List Rl) (ns : List Nd) : ∀ r, (emp rs ns r).length = ns.length
  | 0 => by simp [emp]
  | r + 1 => by rw [emp, swp_len, emp_len rs ns r]

theorem nth_get {ns : List Nd} {k : Nat} (h : k < ns.length) : nth ns k = ns[k] := by simp [nth, List.getD, List.getElem?_eq_getElem h]

theorem new_bools (W : World) (n : Nat) : BoolsAt (W.alloc (.cells (Array.replicate n (.bool false)) 4)) W.heap.size (List.replicate n false) := by
  unfold BoolsAt
  rw [objAt_new]
  simp

theorem ownsRow_le {w : World} {base e size n : Nat} {v : Value} {xs : List Value} (h : w.ownsRow base e size v n xs) : n ≤ 9223372036854775807 := by
  rcases h.2 with ⟨_, h2⟩ | ⟨g, cap, cur, hv, _, _, h1, h2, _⟩
  · omega
  · unfold maxLen at h2; omega

theorem subs_low {n : Nat} {l : List Nat} (h : ∀ j ∈ l, j < n) : ∀ q, q < l.length → l.getD q 0 < n := fun q hq => h _ (by simp [List.getD, List.getElem?_eq_getElem hq])

theorem any_take_getD {l : List Nat} (p : Nat → Bool) {q : Nat} (h : q < l.length) : (l.take (q + 1)).any p = ((l.take q).any p || p (l.getD q 0)) := by
  rw [List.take_succ_eq_append_getElem h, List.any_append]
  simp [List.getD, List.getElem?_eq_getElem h]

theorem all_take_getD {l : List Nat} (p : Nat → Bool) {q : Nat} (h : q < l.length) : (l.take (q + 1)).all p = ((l.take q).all p && p (l.getD q 0)) := by
  rw [List.take_succ_eq_append_getElem h, List.all_append]
  simp [List.getD, List.getElem?_eq_getElem h]

theorem getD_get {L : List Bool} {i : Nat} (h : i < L.length) : L.getD i false = L[i] := by simp [List.getD, List.getElem?_eq_getElem h]

theorem getD_set_same {L : List Bool} {k : Nat} {v : Bool} (h : k < L.length) : (L.set k v).getD k false = v := by simp [List.getD, h]

theorem getD_set_ne {L : List Bool} {k j : Nat} {v : Bool} (h : j ≠ k) : (L.set k v).getD j false = L.getD j false := by simp [List.getD, List.getElem?_set, Ne.symm h]

theorem set_same {L : List Bool} {k : Nat} : L.set k (L.getD k false) = L := by
  by_cases h : k < L.length
  · simp [List.getD, List.getElem?_eq_getElem h]
  · exact List.set_eq_of_length_le (by omega)

/-- begins: over the parts. -/
def bgL (step : Nat → Bool → List Bool → Bool × List Bool) (E : List Bool) (kind : Nat) : List Nat → Bool → Bool → List Bool → Bool × List Bool
  | [], bad, ahead, W => (bad, W)
  | j :: r, bad, ahead, W => bgL step E kind r (bad || (step j ahead W).1) (if kind = 5 ∧ E.getD j false = false then false else ahead) (step j ahead W).2

def bgF (rs : List Rl) (ns : List Nd) (E : List Bool) : Nat → Nat → Bool → List Bool → Bool × List Bool
  | 0, i, ahead, W => (false, W)
  | f + 1, i, ahead, W =>
    bgL (bgF rs ns E f) E (nth ns i).kind (nth ns i).subs (decide ((nth ns i).kind = 7 ∨ (nth ns i).kind = 8) && E.getD ((nth ns i).subs.getD 0 0) false) ahead
      (if (nth ns i).kind = 3 ∧ ahead = true then W.set ((fndI rs (nth ns i).name).getD 0) true else W)

theorem bgL_len {step : Nat → Bool → List Bool → Bool × List Bool} {E : List Bool} {kind n : Nat} (hs : ∀ j a W, W.length = n → (step j a W).2.length = n) : ∀ l bad a W, W.length = n → (bgL step E kind l bad a W).2.length = n
  | [], bad, a, W, h => h
  | j :: r, bad, a, W, h => bgL_len hs r _ _ _ (hs j a W h)

theorem bgF_len {rs : List Rl} {ns : List Nd} {E : List Bool} {n : Nat} : ∀ f i a W, W.length = n → (bgF rs ns E f i a W).2.length = n
  | 0, i, a, W, h => h
  | f + 1, i, a, W, h => bgL_len (fun j a W h => bgF_len f j a W h) _ _ _ _ (by split <;> simp [h])

/-- What a rule begins with, and whether a repetition in it could go on for ever. -/
def bgX (rs : List Rl) (ns : List Nd) (t : Nat) : Bool × List Bool := bgF rs ns (empty rs ns) ns.length ((rs.map Rl.is).getD t 0) true (List.replicate rs.length false)

def leads0 (rs : List Rl) (ns : List Nd) (i : Nat) : List (List Bool) := (List.range i).map (fun t => (bgX rs ns t).2)

def bads (rs : List Rl) (ns : List Nd) (i : Nat) : List Bool := (List.range rs.length).map (fun t => decide (t < i) && (bgX rs ns t).1)

def at2 (M : List (List Bool)) (i j : Nat) : Bool := (M.getD i []).getD j false

def upd (M : List (List Bool)) (k i j : Nat) : List (List Bool) := M.set i ((M.getD i []).set j (at2 M i j || (at2 M i k && at2 M k j)))

def wj (M : List (List Bool)) (k i : Nat) : Nat → List (List Bool)
  | 0 => M
  | j + 1 => upd (wj M k i j) k i j

def wi (n : Nat) (M : List (List Bool)) (k : Nat) : Nat → List (List Bool)
  | 0 => M
  | i + 1 => wj (wi n M k i) k i n

def wk (n : Nat) (M : List (List Bool)) : Nat → List (List Bool)
  | 0 => M
  | k + 1 => wi n (wk n M k) k n

def leads (rs : List Rl) (ns : List Nd) : List (List Bool) := wk rs.length (leads0 rs ns rs.length) rs.length

def endI (rs : List Rl) (ns : List Nd) : Option Nat := (List.range rs.length).find? (fun i => at2 (leads rs ns) i i || (bads rs ns rs.length).getD i false)

/-- endless. -/
def endless (rs : List Rl) (ns : List Nd) : Int := match endI rs ns with | some i => ((rs.map Rl.at_).getD i 0 : Nat) | none => -1

theorem getD_app_l {α : Type} {l m : List α} {i : Nat} {d : α} (h : i < l.length) : (l ++ m).getD i d = l.getD i d := by simp [List.getD, List.getElem?_append_left h]

theorem getD_app_r {α : Type} {l m : List α} {i : Nat} {d : α} (h : l.length ≤ i) : (l ++ m).getD i d = m.getD (i - l.length) d := by simp [List.getD, List.getElem?_append_right h]

theorem lo_nonneg (a : Int) (x : Nat) : 0 ≤ lo a x := by unfold lo; split <;> omega

theorem misN_neg {rs : List Rl} {ns : List Nd} : ∀ k, misN rs ns k < 0 → misR rs rs.length < 0 ∧ ∀ t, t < k → (ns.map Nd.kind).getD t 0 = 3 → 0 ≤ fnd rs ((ns.map Nd.name).getD t [])
  | 0, h => ⟨h, fun t ht => absurd ht (by omega)⟩
  | k + 1, h => by
    rw [misN] at h
    split at h
    · have := lo_nonneg (misN rs ns k) ((ns.map Nd.at_).getD k 0); omega
    · next hc =>
      obtain ⟨h1, h2⟩ := misN_neg k h
      refine ⟨h1, fun t ht h3 => ?_⟩
      rcases Nat.lt_or_eq_of_le (Nat.lt_succ_iff.1 ht) with h4 | h4
      · exact h2 t h4 h3
      · subst h4
        rcases Int.lt_or_le (fnd rs ((ns.map Nd.name).getD t [])) 0 with h5 | h5
        · exact absurd ⟨h3, h5⟩ hc
        · exact h5

theorem fnd_some {rs : List Rl} {nm : List UInt8} (h : 0 ≤ fnd rs nm) : (fndI rs nm).isSome = true := by
  unfold fnd at h
  cases hf : fndI rs nm with
  | none => rw [hf] at h; simp at h
  | some i => rfl

theorem mis_named {rs : List Rl} {ns : List Nd} (h : mis rs ns < 0) : ∀ N ∈ ns, N.kind = 3 → (fndI rs N.name).isSome = true := by
  intro N hN hk
  obtain ⟨t, ht, rfl⟩ := List.getElem_of_mem hN
  have := (misN_neg ns.length h).2 t ht (by rw [map_getD _ _ _ _ ht]; exact hk)
  rw [map_getD _ _ _ _ ht] at this
  exact fnd_some this

theorem readF_len {s : ByteArray} (hs : s.size ≤ 400) : ∀ f X rs, X.ns.length ≤ 4000 → (X.sc.bad < 0 → Ok s X ∧ X.sc.op = 0) → (readF s f X rs).1.ns.length ≤ 4000
  | 0, X, rs, h, _ => h
  | f + 1, X, rs, h, ho => by
    rw [readF]
    split
    · next hc =>
      split
      · exact h
      · obtain ⟨k1, k2, k3, k4, k5⟩ := rule_ok (ho hc.1).1 (ho hc.1).2 hc.1
        exact readF_len hs f _ _ (by have := k3.len; omega) (fun _ => ⟨k3, k2⟩)
    · exact h

theorem read_len {s : ByteArray} (hs : s.size ≤ 400) : (read s).1.ns.length ≤ 4000 :=
  readF_len hs 10 _ _ (by simp) (fun _ => ⟨⟨⟨fun _ => Nat.zero_le _, Nat.zero_le _⟩, by simp, by simp [Pt, rest]; omega, by simp, hs⟩, rfl⟩)

/-- The ref's Check: the error and the place. -/
def refChk (s : ByteArray) : Int × Int :=
  if 400 < s.size then (1, 0)
  else if 0 ≤ (read s).1.sc.bad then (2, (read s).1.sc.bad)
  else if 0 ≤ mis (read s).2 (read s).1.ns then (3, mis (read s).2 (read s).1.ns)
  else if 0 ≤ endless (read s).2 (read s).1.ns then (4, endless (read s).2 (read s).1.ns)
  else (0, 0)

/-- A square of bools: its rows' blocks. -/
structure Lead (w : World) (lb n : Nat) (mbs : List Nat) (M : List (List Bool)) : Prop where
  obj : objAt w lb = some (.cells ((mbs.map (fun m => Value.slice (some ⟨m, 0, none⟩) n n)) ++ List.replicate (n - mbs.length) (Value.slice none 0 0)).toArray 137 (0, 0))
  row : ∀ i, i < mbs.length → BoolsAt w (mbs.getD i 0) (M.getD i [])
  len : M.length = mbs.length
  lenr : ∀ i, i < mbs.length → (M.getD i []).length = n
  dup : ∀ i j, i < mbs.length → j < mbs.length → mbs.getD i 0 = mbs.getD j 0 → i = j
  le : mbs.length ≤ n

theorem Lead.cell {w : World} {lb n : Nat} {mbs : List Nat} {M : List (List Bool)} (h : Lead w lb n mbs M) {i : Nat} (hi : i < mbs.length) : w.cell? ⟨lb, i, none⟩ = some (.slice (some ⟨mbs.getD i 0, 0, none⟩) n n) := by
  rw [objAt_cell h.obj]
  simp [List.getElem?_append_left, hi, List.getD]

theorem Lead.spare {w : World} {lb n : Nat} {mbs : List Nat} {M : List (List Bool)} (h : Lead w lb n mbs M) {i : Nat} (hi : i < n) : (∃ u, w.cell? ⟨lb, i, none⟩ = some u) ∧ w.frozen? ⟨lb, i, none⟩ = false := by
  refine ⟨?_, objAt_frozen h.obj⟩
  rw [objAt_cell h.obj]
  exact ⟨_, Array.getElem?_eq_getElem (by have := h.le; simp; omega)⟩

theorem Lead.kept {S : Nat → Prop} {w w' : World} {lb n : Nat} {mbs : List Nat} {M : List (List Bool)} (h : Lead w lb n mbs M) (hk : Kept S w w') (h1 : ¬ S lb) (h2 : ∀ i, i < mbs.length → ¬ S (mbs.getD i 0)) : Lead w' lb n mbs M :=
  ⟨objAt_kept h.obj hk h1, fun i hi => (h.row i hi).kept hk (h2 i hi), h.len, h.lenr, h.dup, h.le⟩

theorem Lead.nlb {w : World} {lb n : Nat} {mbs : List Nat} {M : List (List Bool)} (h : Lead w lb n mbs M) {x : Nat} {L : List Bool} (hx : BoolsAt w x L) : x ≠ lb := by
  rintro rfl
  have h1 := h.obj
  rw [show objAt w x = _ from hx] at h1
  simp at h1

/-- A row is given its block. -/
theorem Lead.push {w : World} {lb n m : Nat} {mbs : List Nat} {M : List (List Bool)} {L : List Bool} (h : Lead w lb n mbs M) (hi : mbs.length < n) (hm : BoolsAt w m L) (hL : L.length = n) (hn : ∀ i, i < mbs.length → mbs.getD i 0 ≠ m) :
    Lead (w.setCell ⟨lb, mbs.length, none⟩ (.slice (some ⟨m, 0, none⟩) n n)) lb n (mbs ++ [m]) (M ++ [L]) := by
  have hml := h.nlb hm
  have hK : Kept (· = lb) w (w.setCell ⟨lb, mbs.length, none⟩ (.slice (some ⟨m, 0, none⟩) n n)) := (Kept.refl (· = lb) w).setCell (fun _ => rfl) _
  refine ⟨?_, fun i hi' => ?_, by simp [h.len], fun i hi' => ?_, fun i j hi' hj' e => ?_, by simp; omega⟩
  · rw [objAt_set h.obj]
    congr 2
    apply Array.ext'
    rw [Array.toList_setIfInBounds]
    simp only [List.map_append, List.map_cons, List.map_nil, List.length_append, List.length_cons, List.length_nil]
    rw [List.set_append_right _ _ (by simp), List.length_map, Nat.sub_self, show n - mbs.length = (n - (mbs.length + 1)) + 1 by omega, List.replicate_succ, List.set_cons_zero]
    simp
  · simp only [List.length_append, List.length_cons, List.length_nil] at hi'
    by_cases hlt : i < mbs.length
    · rw [getD_app_l hlt, getD_app_l (by rw [h.len]; exact hlt)]
      exact (h.row i hlt).kept hK (fun e => (h.nlb (h.row i hlt)) e)
    · have : i = mbs.length := by omega
      subst this
      rw [getD_app_r (by omega), getD_app_r (by rw [h.len]; omega), h.len, Nat.sub_self]
      exact hm.kept hK hml
  · simp only [List.length_append, List.length_cons, List.length_nil] at hi'
    by_cases hlt : i < mbs.length
    · rw [getD_app_l (by rw [h.len]; exact hlt)]; exact h.lenr i hlt
    · rw [getD_app_r (by rw [h.len]; omega), show i - M.length = 0 by rw [h.len]; omega]; exact hL
  · simp only [List.length_append, List.length_cons, List.length_nil] at hi' hj'
    by_cases hlt : i < mbs.length
    · by_cases hjt : j < mbs.length
      · rw [getD_app_l hlt, getD_app_l hjt] at e; exact h.dup i j hlt hjt e
      · rw [getD_app_l hlt, getD_app_r (by omega), show j - mbs.length = 0 by omega] at e
        exact absurd e (hn i hlt)
    · by_cases hjt : j < mbs.length
      · rw [getD_app_l hjt, getD_app_r (by omega), show i - mbs.length = 0 by omega] at e
        exact absurd e.symm (hn j hjt)
      · omega

/-- One bool of the square is set. -/
theorem Lead.set {w : World} {lb n i j : Nat} {mbs : List Nat} {M : List (List Bool)} (h : Lead w lb n mbs M) (hi : i < mbs.length) (v : Bool) :
    Lead (w.setCell ⟨mbs.getD i 0, j, none⟩ (.bool v)) lb n mbs (M.set i ((M.getD i []).set j v)) := by
  have hK : Kept (· = mbs.getD i 0) w (w.setCell ⟨mbs.getD i 0, j, none⟩ (.bool v)) := (Kept.refl (· = mbs.getD i 0) w).setCell (fun _ => rfl) _
  have hM : i < M.length := by rw [h.len]; exact hi
  refine ⟨objAt_kept h.obj hK (fun e => h.nlb (h.row i hi) e.symm), fun t ht => ?_, by simp [h.len], fun t ht => ?_, h.dup, h.le⟩
  · by_cases e : t = i
    · subst e
      rw [show (M.set t ((M.getD t []).set j v)).getD t [] = (M.getD t []).set j v by simp [List.getD, hM]]
      exact (h.row t ht).set j v
    · rw [show (M.set i ((M.getD i []).set j v)).getD t [] = M.getD t [] by simp [List.getD, List.getElem?_set, Ne.symm e]]
      exact (h.row t ht).kept hK (fun e' => e (h.dup t i ht hi e'))
  · by_cases e : t = i
    · subst e
      rw [show (M.set t ((M.getD t []).set j v)).getD t [] = (M.getD t []).set j v by simp [List.getD, hM]]
      simp only [List.length_set]; exact h.lenr t ht
    · rw [show (M.set i ((M.getD i []).set j v)).getD t [] = M.getD t [] by simp [List.getD, List.getElem?_set, Ne.symm e]]
      exact h.lenr t ht

theorem new_lead (W : World) (n : Nat) : Lead (W.alloc (.cells (Array.replicate n (.slice none 0 0)) 137)) W.heap.size n [] [] := by
  refine ⟨?_, fun i h => absurd h (by simp), rfl, fun i h => absurd h (by simp), fun i j h => absurd h (by simp), by simp⟩
  rw [objAt_new]
  simp

/-- The last row has turned. -/
theorem Lead.last {w w' : World} {lb n m : Nat} {mbs : List Nat} {M : List (List Bool)} {L L' : List Bool} (h : Lead w lb n (mbs ++ [m]) (M ++ [L])) (hk : Kept (· = m) w w') (hm : BoolsAt w' m L') (hL : L'.length = n) : Lead w' lb n (mbs ++ [m]) (M ++ [L']) := by
  have hMl : M.length = mbs.length := by have := h.len; simp at this; exact this
  have hlast : (mbs ++ [m]).getD mbs.length 0 = m := by rw [getD_app_r (Nat.le_refl _)]; simp
  have hrm := h.row mbs.length (by simp)
  rw [hlast] at hrm
  have hml := h.nlb hrm
  refine ⟨objAt_kept h.obj hk (fun e => hml e.symm), fun i hi => ?_, by simp [hMl], fun i hi => ?_, h.dup, h.le⟩
  · simp only [List.length_append, List.length_cons, List.length_nil] at hi
    by_cases hlt : i < mbs.length
    · have h1 := h.row i (by simp; omega)
      rw [getD_app_l hlt] at h1 ⊢
      rw [getD_app_l (by omega)] at h1 ⊢
      refine h1.kept hk (fun e => ?_)
      have := h.dup i mbs.length (by simp; omega) (by simp) (by rw [getD_app_l hlt, hlast]; exact e)
      omega
    · have : i = mbs.length := by omega
      subst this
      rw [hlast, getD_app_r (by omega), hMl, Nat.sub_self]
      exact hm
  · simp only [List.length_append, List.length_cons, List.length_nil] at hi
    by_cases hlt : i < mbs.length
    · have h1 := h.lenr i (by simp; omega)
      rw [getD_app_l (by omega)] at h1 ⊢
      exact h1
    · rw [getD_app_r (by omega), show i - M.length = 0 by omega]; exact hL

theorem leads0_snoc (rs : List Rl) (ns : List Nd) (i : Nat) : leads0 rs ns (i + 1) = leads0 rs ns i ++ [(bgX rs ns i).2] := by
  unfold leads0; rw [List.range_succ]; simp

theorem bads_zero (rs : List Rl) (ns : List Nd) : bads rs ns 0 = List.replicate rs.length false := by
  unfold bads
  apply List.ext_getElem
  · simp
  · intro i h1 h2; simp

theorem bads_set (rs : List Rl) (ns : List Nd) (i : Nat) (hi : i < rs.length) : (bads rs ns i).set i (bgX rs ns i).1 = bads rs ns (i + 1) := by
  unfold bads
  apply List.ext_getElem
  · simp
  · intro t h1 h2
    simp only [List.getElem_set, List.getElem_map, List.getElem_range]
    by_cases e : i = t
    · subst e; simp
    · rw [if_neg e]
      congr 1
      simp
      omega

theorem bads_len (rs : List Rl) (ns : List Nd) (i : Nat) : (bads rs ns i).length = rs.length := by simp [bads]

theorem bgX_len (rs : List Rl) (ns : List Nd) (i : Nat) : (bgX rs ns i).2.length = rs.length := bgF_len _ _ _ _ (by simp)

theorem endI_at (rs : List Rl) (ns : List Nd) (t : Nat) (ht : t < rs.length) : (∀ u, u < t → (at2 (leads rs ns) u u || (bads rs ns rs.length).getD u false) = false) → (at2 (leads rs ns) t t || (bads rs ns rs.length).getD t false) = true → endI rs ns = some t := by
  intro h1 h2
  unfold endI
  rw [List.find?_eq_some_iff_getElem]
  refine ⟨h2, t, by simpa using ht, by simp, fun j hj => ?_⟩
  simp only [List.getElem_range]
  rw [h1 j hj]; rfl

theorem endI_none (rs : List Rl) (ns : List Nd) : (∀ u, u < rs.length → (at2 (leads rs ns) u u || (bads rs ns rs.length).getD u false) = false) → endI rs ns = none := by
  intro h1
  unfold endI
  rw [List.find?_eq_none]
  intro u hu
  rw [h1 u (by simpa using hu)]; simp

/-- All that the second part of endless goes by. -/
structure Sq (w0 w : World) (lb bb n : Nat) (mbs : List Nat) (M : List (List Bool)) (B : List Bool) : Prop where
  lead : Lead w lb n mbs M
  bad : BoolsAt w bb B
  full : mbs.length = n
  nb : ∀ i, i < mbs.length → mbs.getD i 0 ≠ bb
  kept : Kept (fun _ => False) w0 w
  new : ∀ i, i < mbs.length → w0.heap.size ≤ mbs.getD i 0

theorem Sq.set {w0 w : World} {lb bb n i j : Nat} {mbs : List Nat} {M : List (List Bool)} {B : List Bool} (h : Sq w0 w lb bb n mbs M B) (hi : i < mbs.length) (v : Bool) : Sq w0 (w.setCell ⟨mbs.getD i 0, j, none⟩ (.bool v)) lb bb n mbs (M.set i ((M.getD i []).set j v)) B :=
  ⟨h.lead.set hi v, h.bad.kept ((Kept.refl (· = mbs.getD i 0) w).setCell (fun _ => rfl) _) (fun e => h.nb i hi e.symm), h.full, h.nb, h.kept.setCell (fun e => by have := h.new i hi; exact absurd e (by simp only; omega)) _, h.new⟩

theorem Sq.drew {w0 w : World} {lb bb n : Nat} {mbs : List Nat} {M : List (List Bool)} {B : List Bool} (h : Sq w0 w lb bb n mbs M B) : Sq w0 w.drew lb bb n mbs M B :=
  ⟨⟨h.lead.obj, h.lead.row, h.lead.len, h.lead.lenr, h.lead.dup, h.lead.le⟩, h.bad, h.full, h.nb, h.kept.drew, h.new⟩
theorem info4 : (Tryz.prog.info? 4).map (fun i => (i.zero, i.size, i.bytes)) = some (some (.bool false), 1, 1) := by kernel_rfl
end Go.Proofs.YtagklnaaoclmhaaGreatDoor
