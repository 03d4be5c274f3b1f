import Derived.Test.YtagklnaaoclmhaaBase
import Derived.Deep.MidRow
import Derived.Deep.WholeRow
set_option linter.unusedSimpArgs false
set_option linter.unusedVariables false
namespace Go.Proofs.Ytagklnaaoclmhaa
open Go.RowKit

/-- A node's zero value. -/
def z59 : Array Value := (Value.int .i64 0 :: .string ⟨#[]⟩ :: (List.replicate 256 (.bool false) ++ [.int .i64 0, .string ⟨#[]⟩, .int .i64 0, .slice none 0 0])).toArray

theorem info59 : (Try.prog.info? 59).map (fun i => (i.zero, i.size, i.bytes)) = some (some (.agg z59), 262, 336) := by kernel_rfl
theorem size59 : (Try.prog.info? 59).map (·.size) = some 262 := by kernel_rfl
theorem z59_size : z59.size = 262 := by kernel_rfl

theorem info59_parts : ∃ i, Try.prog.info? 59 = some i ∧ i.zero = some (.agg z59) ∧ i.size = 262 ∧ i.bytes = 336 := by
  have h := info59
  cases hi : Try.prog.info? 59 with
  | none => rw [hi] at h; cases h
  | some i =>
    rw [hi] at h
    simp only [Option.map_some, Option.some.injEq, Prod.mk.injEq] at h
    exact ⟨i, rfl, h.1, h.2.1, h.2.2⟩

section
variable (ρ : Operand → Value) (d : Option Nat) (x y z : Operand) (ty : TypeId) (pos : String) (af : Array Edge) (gd : Option (Nat × Bool)) (W : World)

/-- A load of a node. -/
def load59Of (P : Program) (o : Option Obj) (k i : Nat) (W : World) : Result Next :=
  match o with
  | some (.cells c _ _) => if i + 262 ≤ c.size then .ok (.value (.agg (c.extract i (i + 262)))) W else (do pure (.value (← Instr.loadAt 59 (.pointer (some ⟨k, i, none⟩)))) : Sem Next).run P W
  | _ => (do pure (.value (← Instr.loadAt 59 (.pointer (some ⟨k, i, none⟩)))) : Sem Next).run P W
def load59At (P : Program) (v : Value) (W : World) : Result Next :=
  match v with
  | .pointer (some ⟨k, i, none⟩) => load59Of P (objAt W k) k i W
  | v => (do pure (.value (← Instr.loadAt 59 v)) : Sem Next).run P W

theorem load59Of_some (c : Array Value) (e : TypeId) (fr : Nat × Nat) (k i : Nat) (h : i + 262 ≤ c.size) : load59Of Try.prog (some (.cells c e fr)) k i W = .ok (.value (.agg (c.extract i (i + 262)))) W := by
  simp only [load59Of, h, if_true]
theorem load59At_ptr (k i : Nat) : load59At Try.prog (.pointer (some ⟨k, i, none⟩)) W = load59Of Try.prog (objAt W k) k i W := rfl

theorem exec_load59 : (execOp ρ { dst := d, op := .load 59 x, type := ty, pos := pos, after := af, guard := gd }).run Try.prog W = load59At Try.prog (ρ x) W := by
  have e : (execOp ρ { dst := d, op := .load 59 x, type := ty, pos := pos, after := af, guard := gd }).run Try.prog W = (do pure (.value (← Instr.loadAt 59 (ρ x))) : Sem Next).run Try.prog W := rfl
  rw [e]
  unfold load59At
  split
  · next k i hv =>
    rw [hv]
    unfold load59Of
    split
    · next c t fr hc =>
      by_cases hsz : i + 262 ≤ c.size
      · rw [if_pos hsz]
        have hr := World.rangeAt_of_block (show W.heap[k]? = _ from hc) i 262
        have hlen : (c.extract i (i + 262)).toList.length = 262 := by simp; omega
        have := run_loadAt_mid (P := Try.prog) W k i 59 _ _ hr Try.underlying59 rfl (by rw [hlen]; exact size59)
        simp only [Sem.run_bind, this, Result.andThen_ok, Sem.run_pure]
      · rw [if_neg hsz]
    · rfl
  · rfl

theorem exec_alloc59 : (execOp ρ { dst := d, op := .alloc 59, type := ty, pos := pos, after := af, guard := gd }).run Try.prog W = .ok (.value (.pointer (some ⟨W.heap.size, 0, none⟩))) (W.alloc (.cells z59 59)) := by
  obtain ⟨i, h1, h2, h3, h4⟩ := info59_parts
  simp [execOp, Instr.alloc, zeroValue, typeInfo, h1, h2, newVar, newRow, newObj, Value.cells, Sem.run_bind]
  rfl

/-- Each is one cell. -/
def ones (c : Array Value) : Bool := c.all (·.oneCell')

/-- A store of a node over the whole of a block. -/
def store59Of (P : Program) (o : Option Obj) (k : Nat) (c' : Array Value) (W : World) : Result Next :=
  match o with
  | some (.cells c 59 (0, 0)) => if c.size = 262 ∧ c'.size = 262 ∧ ones c' = true then .ok .skip (W.setRow k c') else (do Instr.storeAt 59 (.pointer (some ⟨k, 0, none⟩)) (.agg c'); pure .skip : Sem Next).run P W
  | _ => (do Instr.storeAt 59 (.pointer (some ⟨k, 0, none⟩)) (.agg c'); pure .skip : Sem Next).run P W
def store59At (P : Program) (p v : Value) (W : World) : Result Next :=
  match p, v with
  | .pointer (some ⟨k, 0, none⟩), .agg c' => store59Of P (objAt W k) k c' W
  | p, v => (do Instr.storeAt 59 p v; pure .skip : Sem Next).run P W
theorem store59Of_some (c c' : Array Value) (k : Nat) (h : c.size = 262) (h' : c'.size = 262) (h1 : ones c' = true) : store59Of Try.prog (some (.cells c 59 (0, 0))) k c' W = .ok .skip (W.setRow k c') := by
  exact if_pos ⟨h, h', h1⟩
theorem store59At_ptr (k : Nat) (c' : Array Value) : store59At Try.prog (.pointer (some ⟨k, 0, none⟩)) (.agg c') W = store59Of Try.prog (objAt W k) k c' W := rfl

theorem exec_store59 : (execOp ρ { dst := d, op := .store 59 x y, type := ty, pos := pos, after := af, guard := gd }).run Try.prog W = store59At Try.prog (ρ x) (ρ y) W := by
  have e : (execOp ρ { dst := d, op := .store 59 x y, type := ty, pos := pos, after := af, guard := gd }).run Try.prog W = (do Instr.storeAt 59 (ρ x) (ρ y); pure .skip : Sem Next).run Try.prog W := rfl
  rw [e]
  unfold store59At
  split
  · next k c' hx hy =>
    rw [hx, hy]
    unfold store59Of
    split
    · next c hc =>
      split
      · next h =>
        have := run_storeVar_row (P := Try.prog) W k 59 59 c c' hc (by rw [h.2.1]; exact size59) (by omega) h.2.2
        simp [Sem.run_bind, Instr.storeAt, Instr.sureAddr, this]
      · rfl
    · rfl
  · rfl

/-- A node is built. -/
def build59r (P : Program) (parts : List (Nat × Value)) (W : World) : Result Next :=
  match P.built 59 parts with
  | some c => .ok (.value (.agg c)) W
  | none => (do pure (.value (← Instr.build 59 parts.toArray)) : Sem Next).run P W
theorem exec_build59 (parts : Array (Nat × Operand)) : (execOp ρ { dst := d, op := .build 59 parts, type := ty, pos := pos, after := af, guard := gd }).run Try.prog W = build59r Try.prog (parts.toList.map fun p => (p.1, ρ p.2)) W := by
  have e : (execOp ρ { dst := d, op := .build 59 parts, type := ty, pos := pos, after := af, guard := gd }).run Try.prog W = (do pure (.value (← Instr.build 59 (parts.map fun (i, x) => (i, ρ x)))) : Sem Next).run Try.prog W := rfl
  have e2 : (parts.map fun (i, x) => (i, ρ x)) = (parts.toList.map fun p => (p.1, ρ p.2)).toArray := by
    apply Array.ext'; simp
  rw [e, e2]
  unfold build59r
  split
  · next c hc =>
    have := run_build (P := Try.prog) W 59 (parts.toList.map fun p => (p.1, ρ p.2)).toArray c (by simpa using hc)
    simp only [Sem.run_bind, this, Result.andThen_ok, Sem.run_pure]
  · rfl
theorem build59_nil : build59r Try.prog [] W = .ok (.value (.agg z59)) W := by
  have h : Try.prog.built 59 [] = some z59 := by kernel_rfl
  unfold build59r; rw [h]
theorem build59_kind (k : Int) : build59r Try.prog [(0, .int .i64 k)] W = .ok (.value (.agg (z59.setIfInBounds 0 (.int .i64 k)))) W := by
  have h : Try.prog.built 59 [(0, .int .i64 k)] = some (z59.setIfInBounds 0 (.int .i64 k)) := by kernel_rfl
  unfold build59r; rw [h]
theorem build59_term (k t : Int) : build59r Try.prog [(0, .int .i64 k), (3, .int .i64 t)] W = .ok (.value (.agg ((z59.setIfInBounds 0 (.int .i64 k)).setIfInBounds 258 (.int .i64 t)))) W := by
  have h : Try.prog.built 59 [(0, .int .i64 k), (3, .int .i64 t)] = some ((z59.setIfInBounds 0 (.int .i64 k)).setIfInBounds 258 (.int .i64 t)) := by kernel_rfl
  unfold build59r; rw [h]
theorem build59_name (k a : Int) (n : ByteArray) : build59r Try.prog [(0, .int .i64 k), (4, .string n), (5, .int .i64 a)] W = .ok (.value (.agg (((z59.setIfInBounds 0 (.int .i64 k)).setIfInBounds 259 (.string n)).setIfInBounds 260 (.int .i64 a)))) W := by
  have h : Try.prog.built 59 [(0, .int .i64 k), (4, .string n), (5, .int .i64 a)] = some (((z59.setIfInBounds 0 (.int .i64 k)).setIfInBounds 259 (.string n)).setIfInBounds 260 (.int .i64 a)) := by kernel_rfl
  unfold build59r; rw [h]
theorem build59_subs (k : Int) (p : Option Addr) (n c : Nat) : build59r Try.prog [(0, .int .i64 k), (6, .slice p n c)] W = .ok (.value (.agg ((z59.setIfInBounds 0 (.int .i64 k)).setIfInBounds 261 (.slice p n c)))) W := by
  have h : Try.prog.built 59 [(0, .int .i64 k), (6, .slice p n c)] = some ((z59.setIfInBounds 0 (.int .i64 k)).setIfInBounds 261 (.slice p n c)) := by kernel_rfl
  unfold build59r; rw [h]

theorem fold_set (c : List Value) : ∀ (k : Nat) (base : Array Value), k + c.length ≤ base.size →
    ((c.zipIdx k).foldl (fun cs (x : Value × Nat) => cs.setIfInBounds (0 + x.2) x.1) base).toList = base.toList.take k ++ c ++ base.toList.drop (k + c.length) := by
  induction c with
  | nil => intro k base h; simp
  | cons x r ih =>
    intro k base h
    simp only [List.length_cons] at h
    rw [List.zipIdx_cons, List.foldl_cons, ih (k + 1) _ (by simp; omega)]
    simp only [Nat.zero_add, Array.toList_setIfInBounds]
    rw [List.take_set, List.drop_set_of_lt (by omega), List.take_succ_eq_append_getElem (by simpa using (by omega : k < base.size)), List.set_append_right _ _ (by simp; omega)]
    simp [Nat.min_eq_left (by omega : k ≤ base.size), Nat.add_assoc, Nat.add_comm 1]

/-- A list of one node is built. -/
def buildSlice36r (P : Program) (v : Value) (W : World) : Result Next :=
  match v with
  | .agg c => if c.size = 262 then .ok (.value (.slice (some ⟨W.heap.size, 0, none⟩) 1 1)) (W.alloc (.cells c 59)) else (do pure (.value (← Instr.buildSlice 36 1 #[(0, v)])) : Sem Next).run P W
  | v => (do pure (.value (← Instr.buildSlice 36 1 #[(0, v)])) : Sem Next).run P W
set_option maxRecDepth 100000 in
theorem exec_buildSlice36 : (execOp ρ { dst := d, op := .buildSlice 36 1 #[(0, x)], type := ty, pos := pos, after := af, guard := gd }).run Try.prog W = buildSlice36r Try.prog (ρ x) W := by
  have e : (execOp ρ { dst := d, op := .buildSlice 36 1 #[(0, x)], type := ty, pos := pos, after := af, guard := gd }).run Try.prog W = (do pure (.value (← Instr.buildSlice 36 1 #[(0, ρ x)])) : Sem Next).run Try.prog W := by
    unfold execOp; simp only [List.map_toArray, List.map_cons, List.map_nil]
  rw [e]
  unfold buildSlice36r
  split
  · next c hv =>
    split
    · next hc =>
      obtain ⟨i, h1, h2, h3, h4⟩ := info59_parts
      have hfold : (c.zipIdx.foldl (fun cs (x : Value × Nat) => cs.setIfInBounds (0 + x.2) x.1) ((Array.range 262).map (z59[· % 262]!))) = c := by
        apply Array.ext'
        rw [← Array.foldl_toList, Array.toList_zipIdx, fold_set c.toList 0 _ (by simp [hc])]
        simp [hc]
      have hfill : Instr.fill (fun i => some (i * 262, 262)) ((Array.range 262).map (z59[· % 262]!)) [(0, Value.agg c)] = some c := by
        have hs : (Value.agg c).cells.size = 262 := hc
        have hs2 : ((Array.range 262).map (z59[· % 262]!)).size = 262 := by simp
        simp only [Instr.fill, hs, hs2]
        simp only [Nat.zero_mul, ne_eq, not_true_eq_false, decide_false, Bool.false_or, gt_iff_lt, Nat.zero_add, Nat.lt_irrefl, Bool.false_eq_true, if_false]
        simpa [Value.cells] using hfold
      have hz : (Value.agg z59).cells = z59 := rfl
      have hsz : (sizeOf 59).run Try.prog W = .ok 262 W := by simp [sizeOf, typeInfo, h1, h3]
      have hzv : (zeroValue 59).run Try.prog W = .ok (.agg z59) W := by simp [zeroValue, typeInfo, h1, h2]
      have hnr : (newRow 59 c).run Try.prog W = .ok ⟨W.heap.size, 0, none⟩ (W.alloc (.cells c 59)) := by
        simp [newRow, newObj, Sem.run_bind]; rfl
      simp only [hv, Instr.buildSlice, Sem.run_bind, run_underlying Try.underlying36, Result.andThen_ok, hsz, Sem.run_pure]
      rw [if_neg (by decide), if_neg (by decide)]
      simp only [Sem.run_bind, hzv, Result.andThen_ok, Sem.run_pure, hz, z59_size, Nat.one_mul, hfill, hnr]
    · rw [hv]
  · rfl
theorem buildSlice36_some (c : Array Value) (h : c.size = 262) : buildSlice36r Try.prog (.agg c) W = .ok (.value (.slice (some ⟨W.heap.size, 0, none⟩) 1 1)) (W.alloc (.cells c 59)) := by
  exact if_pos h

end

end Go.Proofs.Ytagklnaaoclmhaa

namespace Go.Proofs.Ytagklnaaoclmhaa
open Go.RowKit

/-- Eight sets of rules, all empty. -/
def z83 : Array Value := (List.replicate 64 (Value.bool false)).toArray

theorem info83 : (Try.prog.info? 83).map (fun i => (i.zero, i.size, i.bytes)) = some (some (.agg z83), 64, 64) := by kernel_rfl
theorem size83 : (Try.prog.info? 83).map (·.size) = some 64 := by kernel_rfl
theorem z83_size : z83.size = 64 := by kernel_rfl

theorem info83_parts : ∃ i, Try.prog.info? 83 = some i ∧ i.zero = some (.agg z83) ∧ i.size = 64 ∧ i.bytes = 64 := by
  have h := info83
  cases hi : Try.prog.info? 83 with
  | none => rw [hi] at h; cases h
  | some i =>
    rw [hi] at h
    simp only [Option.map_some, Option.some.injEq, Prod.mk.injEq] at h
    exact ⟨i, rfl, h.1, h.2.1, h.2.2⟩

section
variable (ρ : Operand → Value) (d : Option Nat) (x y z : Operand) (ty : TypeId) (pos : String) (af : Array Edge) (gd : Option (Nat × Bool)) (W : World)

/-- A load of eight sets. -/
def load83Of (P : Program) (o : Option Obj) (k i : Nat) (W : World) : Result Next :=
  match o with
  | some (.cells c _ _) => if i + 64 ≤ c.size then .ok (.value (.agg (c.extract i (i + 64)))) W else (do pure (.value (← Instr.loadAt 83 (.pointer (some ⟨k, i, none⟩)))) : Sem Next).run P W
  | _ => (do pure (.value (← Instr.loadAt 83 (.pointer (some ⟨k, i, none⟩)))) : Sem Next).run P W
def load83At (P : Program) (v : Value) (W : World) : Result Next :=
  match v with
  | .pointer (some ⟨k, i, none⟩) => load83Of P (objAt W k) k i W
  | v => (do pure (.value (← Instr.loadAt 83 v)) : Sem Next).run P W

theorem load83Of_some (c : Array Value) (e : TypeId) (fr : Nat × Nat) (k i : Nat) (h : i + 64 ≤ c.size) : load83Of Try.prog (some (.cells c e fr)) k i W = .ok (.value (.agg (c.extract i (i + 64)))) W := by
  simp only [load83Of, h, if_true]
theorem load83At_ptr (k i : Nat) : load83At Try.prog (.pointer (some ⟨k, i, none⟩)) W = load83Of Try.prog (objAt W k) k i W := rfl

theorem exec_load83 : (execOp ρ { dst := d, op := .load 83 x, type := ty, pos := pos, after := af, guard := gd }).run Try.prog W = load83At Try.prog (ρ x) W := by
  have e : (execOp ρ { dst := d, op := .load 83 x, type := ty, pos := pos, after := af, guard := gd }).run Try.prog W = (do pure (.value (← Instr.loadAt 83 (ρ x))) : Sem Next).run Try.prog W := rfl
  rw [e]
  unfold load83At
  split
  · next k i hv =>
    rw [hv]
    unfold load83Of
    split
    · next c t fr hc =>
      by_cases hsz : i + 64 ≤ c.size
      · rw [if_pos hsz]
        have hr := World.rangeAt_of_block (show W.heap[k]? = _ from hc) i 64
        have hlen : (c.extract i (i + 64)).toList.length = 64 := by simp; omega
        have := run_loadAt_mid (P := Try.prog) W k i 83 _ _ hr Try.underlying83 rfl (by rw [hlen]; exact size83)
        simp only [Sem.run_bind, this, Result.andThen_ok, Sem.run_pure]
      · rw [if_neg hsz]
    · rfl
  · rfl

theorem exec_alloc83 : (execOp ρ { dst := d, op := .alloc 83, type := ty, pos := pos, after := af, guard := gd }).run Try.prog W = .ok (.value (.pointer (some ⟨W.heap.size, 0, none⟩))) (W.alloc (.cells z83 83)) := by
  obtain ⟨i, h1, h2, h3, h4⟩ := info83_parts
  simp [execOp, Instr.alloc, zeroValue, typeInfo, h1, h2, newVar, newRow, newObj, Value.cells, Sem.run_bind]
  rfl

/-- A store of eight sets over the whole of a block. -/
def store83Of (P : Program) (o : Option Obj) (k : Nat) (c' : Array Value) (W : World) : Result Next :=
  match o with
  | some (.cells c 83 (0, 0)) => if c.size = 64 ∧ c'.size = 64 ∧ ones c' = true then .ok .skip (W.setRow k c') else (do Instr.storeAt 83 (.pointer (some ⟨k, 0, none⟩)) (.agg c'); pure .skip : Sem Next).run P W
  | _ => (do Instr.storeAt 83 (.pointer (some ⟨k, 0, none⟩)) (.agg c'); pure .skip : Sem Next).run P W
def store83At (P : Program) (p v : Value) (W : World) : Result Next :=
  match p, v with
  | .pointer (some ⟨k, 0, none⟩), .agg c' => store83Of P (objAt W k) k c' W
  | p, v => (do Instr.storeAt 83 p v; pure .skip : Sem Next).run P W
theorem store83Of_some (c c' : Array Value) (k : Nat) (h : c.size = 64) (h' : c'.size = 64) (h1 : ones c' = true) : store83Of Try.prog (some (.cells c 83 (0, 0))) k c' W = .ok .skip (W.setRow k c') := by
  exact if_pos ⟨h, h', h1⟩
theorem store83At_ptr (k : Nat) (c' : Array Value) : store83At Try.prog (.pointer (some ⟨k, 0, none⟩)) (.agg c') W = store83Of Try.prog (objAt W k) k c' W := rfl

theorem exec_store83 : (execOp ρ { dst := d, op := .store 83 x y, type := ty, pos := pos, after := af, guard := gd }).run Try.prog W = store83At Try.prog (ρ x) (ρ y) W := by
  have e : (execOp ρ { dst := d, op := .store 83 x y, type := ty, pos := pos, after := af, guard := gd }).run Try.prog W = (do Instr.storeAt 83 (ρ x) (ρ y); pure .skip : Sem Next).run Try.prog W := rfl
  rw [e]
  unfold store83At
  split
  · next k c' hx hy =>
    rw [hx, hy]
    unfold store83Of
    split
    · next c hc =>
      split
      · next h =>
        have := run_storeVar_row (P := Try.prog) W k 83 83 c c' hc (by rw [h.2.1]; exact size83) (by omega) h.2.2
        simp [Sem.run_bind, Instr.storeAt, Instr.sureAddr, this]
      · rfl
    · rfl
  · rfl

end

end Go.Proofs.Ytagklnaaoclmhaa
