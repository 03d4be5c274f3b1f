import Derived.Test.YtagklnaaoclmhaaGreatDoorMgAD
import Derived.Maps.OwnOps
import Derived.ChangeKeysEq
import Derived.Deep.RegionWith
set_option linter.unusedSimpArgs false
set_option linter.unusedVariables false
namespace Go.Proofs.YtagklnaaoclmhaaGreatDoor
open Go.RowKit

def kyV (k : Ky) : Value := .agg #[.int .i64 (k.inp : Int), .int .i64 (k.rule : Int), .int .i64 (k.place : Int)]

theorem ky_eq (j k : Ky) (w : World) : (Op.equal 225 (kyV j) (kyV k)).run Tryz.prog w = .ok (decide (j = k)) w := by
  unfold Op.equal kyV
  simp only [Op.maxDepth]
  rw [run_equalIn_struct w 9999 225 _ _ (by kernel_rfl) (by kernel_rfl)]
  simp [go_sem, Op.eqFields]
  obtain ⟨a, b, c⟩ := j
  obtain ⟨a', b', c'⟩ := k
  simp only [Ky.mk.injEq, Int.ofNat_inj]
  by_cases h1 : a = a' <;> by_cases h2 : b = b' <;> by_cases h3 : c = c' <;> simp [h1, h2, h3]

theorem ky_check (e : Bool) (n : Nat) (k : Ky) (w : World) : (Instr.checkKey e (n + 2) 225 (kyV k)).run Tryz.prog w = .ok () w := by
  unfold kyV
  rw [Instr.checkKey]
  simp [go_sem, Tryz.underlying225, Instr.checkKey]

/-- The entries' places in the map. -/
def eFi : List (Ky × Nat) → Ky → Nat → Option (Nat × Nat)
  | [], _, _ => none
  | e :: l, k, i => if k = e.1 then some (i, e.2) else eFi l k (i + 1)
def ptB' (b : Nat) : Value := .pointer (some ⟨b, 0, none⟩)
def EsOk (es : List MapEntry) (EL : List (Ky × Nat)) : Prop := es.map (fun e => (e.key, e.val)) = EL.map (fun x => (kyV x.1, ptB' x.2))

theorem ask_run (k : Ky) (w : World) : ∀ (es : List MapEntry) (EL : List (Ky × Nat)) (i : Nat), EsOk es EL → (Instr.findAsking 225 (kyV k) es i).run Tryz.prog w = .ok ((eFi EL k i).map (fun x => (x.1, ptB' x.2))) w
  | [], [], i, _ => by simp [Instr.findAsking, eFi]
  | [], _ :: _, i, h => by simp [EsOk] at h
  | _ :: _, [], i, h => by simp [EsOk] at h
  | e :: es, x :: EL, i, h => by
    simp only [EsOk, List.map_cons, List.cons.injEq, Prod.mk.injEq] at h
    obtain ⟨⟨h1, h2⟩, h3⟩ := h
    rw [Instr.findAsking, Sem.run_bind, h1, ky_eq]
    simp only [Result.andThen_ok, eFi]
    by_cases hk : k = x.1
    · simp [hk, h2]
    · simp only [hk, decide_false, Bool.false_eq_true, if_false]
      exact ask_run k w es EL (i + 1) h3
theorem find_run (k : Ky) (w : World) (es : List MapEntry) (EL : List (Ky × Nat)) (h : EsOk es EL) : (Instr.findKey 225 (kyV k) es).run Tryz.prog w = .ok ((eFi EL k 0).map (fun x => (x.1, ptB' x.2))) w := by
  have ha := ask_run k w es EL 0 h
  rw [Instr.findKey, Sem.run_bind, run_underlying Tryz.underlying225]
  simp only [Result.andThen_ok]
  cases es with
  | nil =>
    cases EL with
    | nil => simp [Instr.findNow, eFi]
    | cons x l => simp [EsOk] at h
  | cons e es =>
    have hk : ∀ fs, Instr.findNow (.struct fs) (kyV k) (e :: es) 0 = none := by
      intro fs; simp [Instr.findNow, Instr.sameNow]
    rw [hk]
    exact ha

/-- A map of the memory's entries. -/
def MapIs (w : World) (eb : Nat) (EL : List (Ky × Nat)) : Prop := ∃ es c, w.heap[eb]? = some (.map es c) ∧ EsOk es.toList EL
theorem MapIs.lt {w : World} {eb : Nat} {EL : List (Ky × Nat)} (h : MapIs w eb EL) : eb < w.heap.size := by
  obtain ⟨es, c, h1, _⟩ := h
  exact objAt_lt (show objAt w eb = _ from h1)
theorem MapIs.same {w w' : World} {eb : Nat} {EL : List (Ky × Nat)} (h : MapIs w eb EL) (he : w'.heap[eb]? = w.heap[eb]?) : MapIs w' eb EL := by
  obtain ⟨es, c, h1, h2⟩ := h
  exact ⟨es, c, by rw [he]; exact h1, h2⟩
def optP (o : Option Nat) : Value := .pointer (o.map fun b => ⟨b, 0, none⟩)
theorem look_run {w : World} {eb : Nat} {EL : List (Ky × Nat)} (h : MapIs w eb EL) (k : Ky) : (Instr.lookup 210 (.map (some eb)) (kyV k) true).run Tryz.prog w = .ok (.tuple #[optP ((eFi EL k 0).map (·.2)), .bool (eFi EL k 0).isSome]) w := by
  obtain ⟨es, c, h1, h2⟩ := h
  unfold Instr.lookup
  simp only [Sem.run_bind, run_underlying Tryz.underlying210, Result.andThen_ok, run_getObj_map w eb es c h1, ky_check, Sem.run_pure]
  rw [find_run k w _ _ h2]
  simp only [Result.andThen_ok]
  cases hx : eFi EL k 0 with
  | none => simp [go_sem, optP]
  | some x => simp [go_sem, optP, ptB']

theorem EsOk.len {es : List MapEntry} {EL : List (Ky × Nat)} (h : EsOk es EL) : es.length = EL.length := by
  have := congrArg List.length h
  simpa using this
/-- A map is another one. -/
def mTurn (w : World) (eb : Nat) (o : Obj) : World := { w with heap := w.heap.setIfInBounds eb o }
theorem mTurn_kept (w : World) (eb : Nat) (o : Obj) : Kept (· = eb) w (mTurn w eb o) :=
  ⟨rfl, rfl, rfl, by simp [mTurn], fun i hi hn => by
    show (w.heap.setIfInBounds eb o)[i]? = _
    rw [Array.getElem?_setIfInBounds_ne (fun h => hn h.symm)]⟩
/-- A new entry. -/
theorem put_run {w : World} {eb : Nat} {EL : List (Ky × Nat)} (h : MapIs w eb EL) (k : Ky) (hk : eFi EL k 0 = none) (b : Nat) : ∃ o, (Instr.mapUpdate 210 (.map (some eb)) (kyV k) (ptB' b)).run Tryz.prog w = .ok () (mTurn w eb o) ∧ MapIs (mTurn w eb o) eb (EL ++ [(k, b)]) := by
  obtain ⟨es, c, h1, h2⟩ := h
  unfold Instr.mapUpdate
  have hlt := objAt_lt (show objAt w eb = _ from h1)
  refine ⟨.map (es.push ⟨kyV k, ptB' b, c⟩) (c + 1), ?_, ?_⟩
  · simp only [Sem.run_bind, run_underlying Tryz.underlying210, Result.andThen_ok, run_getObj_map w eb es c h1, ky_check, Sem.run_pure]
    rw [find_run k w _ _ h2, hk]
    simp only [Option.map_none, Result.andThen_ok]
    rw [MapKept.run_setObj_map _ h1]
    rfl
  · refine ⟨es.push ⟨kyV k, ptB' b, c⟩, c + 1, by simp [mTurn, hlt], ?_⟩
    unfold EsOk at h2 ⊢
    simp [h2]
theorem eraseIdx_map' {α β : Type} (f : α → β) : ∀ (l : List α) (j : Nat), (l.map f).eraseIdx j = (l.eraseIdx j).map f
  | [], j => by simp
  | a :: l, 0 => by simp
  | a :: l, j + 1 => by simp [eraseIdx_map' f l j]
def eRm : List (Ky × Nat) → Ky → List (Ky × Nat)
  | [], _ => []
  | e :: l, k => if k = e.1 then l else e :: eRm l k
theorem eFi_rm : ∀ (EL : List (Ky × Nat)) (k : Ky) (i j b : Nat), eFi EL k i = some (j, b) → i ≤ j ∧ EL.eraseIdx (j - i) = eRm EL k
  | [], _, _, _, _, h => by cases h
  | e :: l, k, i, j, b, h => by
    rw [eFi] at h
    rw [eRm]
    split at h
    · next hk =>
      cases h
      rw [if_pos hk]
      simp
    · next hk =>
      obtain ⟨h1, h2⟩ := eFi_rm l k (i + 1) j b h
      rw [if_neg hk]
      refine ⟨by omega, ?_⟩
      rw [show j - i = (j - (i + 1)) + 1 by omega, List.eraseIdx_cons_succ, h2]
theorem eFi_rm0 : ∀ (EL : List (Ky × Nat)) (k : Ky) (i : Nat), eFi EL k i = none → eRm EL k = EL
  | [], _, _, _ => rfl
  | e :: l, k, i, h => by
    rw [eFi] at h
    rw [eRm]
    split at h
    · cases h
    · next hk => rw [if_neg hk, eFi_rm0 l k (i + 1) h]
theorem eFi_lt : ∀ (EL : List (Ky × Nat)) (k : Ky) (i j b : Nat), eFi EL k i = some (j, b) → j < i + EL.length
  | [], _, _, _, _, h => by cases h
  | e :: l, k, i, j, b, h => by
    rw [eFi] at h
    split at h
    · cases h; simp
    · have := eFi_lt l k (i + 1) j b h
      simp; omega
/-- An entry goes. -/
theorem del_run {w : World} {eb : Nat} {EL : List (Ky × Nat)} (h : MapIs w eb EL) (k : Ky) : ∃ o, (Builtin.delete_ #[210, 225] 0 #[.map (some eb), kyV k]).run Tryz.prog w = .ok (.tuple #[]) (mTurn w eb o) ∧ MapIs (mTurn w eb o) eb (eRm EL k) := by
  obtain ⟨es, c, h1, h2⟩ := h
  unfold Builtin.delete_
  have hlt := objAt_lt (show objAt w eb = _ from h1)
  cases hx : eFi EL k 0 with
  | none =>
    refine ⟨.map es c, ?_, ?_⟩
    · simp only [List.getElem?_toArray, List.getElem?_cons_zero, List.getElem?_cons_succ, Sem.run_bind, run_underlying Tryz.underlying210, Result.andThen_ok, run_getObj_map w eb es c h1, ky_check, Sem.run_pure]
      rw [find_run k w _ _ h2, hx]
      simp only [Option.map_none, Result.andThen_ok]
      rw [Sem.run_bind, MapKept.run_setObj_map _ h1]
      rfl
    · rw [eFi_rm0 EL k 0 hx]
      exact ⟨es, c, by simp [mTurn, hlt], h2⟩
  | some x =>
    obtain ⟨j, b⟩ := x
    have hj := (eFi_rm EL k 0 j b hx).2
    have hjl := eFi_lt EL k 0 j b hx
    rw [Nat.sub_zero] at hj
    refine ⟨.map (es.eraseIdxIfInBounds j) c, ?_, ?_⟩
    · simp only [List.getElem?_toArray, List.getElem?_cons_zero, List.getElem?_cons_succ, Sem.run_bind, run_underlying Tryz.underlying210, Result.andThen_ok, run_getObj_map w eb es c h1, ky_check, Sem.run_pure]
      rw [find_run k w _ _ h2, hx]
      simp only [Option.map_some, Result.andThen_ok]
      rw [Sem.run_bind, MapKept.run_setObj_map _ h1]
      rfl
    · refine ⟨es.eraseIdxIfInBounds j, c, by simp [mTurn, hlt], ?_⟩
      have hes : j < es.size := by
        have := h2.len
        simp at this
        omega
      unfold EsOk at h2 ⊢
      rw [← hj, ← eraseIdx_map', ← h2, Array.eraseIdxIfInBounds, dif_pos hes, eraseIdx_map']
      simp
end Go.Proofs.YtagklnaaoclmhaaGreatDoor

namespace Go.Proofs.YtagklnaaoclmhaaGreatDoor
open Go.RowKit

def Lk (od nw : Nat → Nat) : Nat → List Nat → Prop
  | _, [] => True
  | p, q :: l => od p = q ∧ nw q = p ∧ Lk od nw q l
def lst (p : Nat) : List Nat → Nat
  | [] => p
  | q :: l => lst q l
theorem Lk_app {od nw : Nat → Nat} : ∀ (l m : List Nat) (p : Nat), Lk od nw p (l ++ m) ↔ Lk od nw p l ∧ Lk od nw (lst p l) m
  | [], m, p => by simp [Lk, lst]
  | q :: l, m, p => by
    rw [List.cons_append, Lk, Lk, Lk_app l m q, lst]
    constructor
    · rintro ⟨a, b, c, d⟩; exact ⟨⟨a, b, c⟩, d⟩
    · rintro ⟨⟨a, b, c⟩, d⟩; exact ⟨a, b, c, d⟩
theorem lst_mem : ∀ (l : List Nat) (p : Nat), lst p l = p ∨ lst p l ∈ l
  | [], p => .inl rfl
  | q :: l, p => by
    rw [lst]
    rcases lst_mem l q with h | h
    · exact .inr (by rw [h]; simp)
    · exact .inr (List.mem_cons_of_mem _ h)
/-- Where nothing changes but the last one's older. -/
theorem Lk_congr {od nw od' nw' : Nat → Nat} : ∀ (l : List Nat) (p : Nat), (p :: l).Nodup → (∀ x ∈ p :: l, x ≠ lst p l → od' x = od x) → (∀ x ∈ l, nw' x = nw x) → Lk od nw p l → Lk od' nw' p l
  | [], _, _, _, _, _ => trivial
  | q :: l, p, hd, h1, h2, h => by
    rw [Lk] at h ⊢
    obtain ⟨a, b, c⟩ := h
    have hd2 := (List.nodup_cons.1 hd).2
    have hne : p ≠ lst q l := by
      intro e
      have := (List.nodup_cons.1 hd).1
      rcases lst_mem l q with h3 | h3
      · exact this (by rw [e, h3]; simp)
      · exact this (by rw [e]; exact List.mem_cons_of_mem _ h3)
    refine ⟨by rw [h1 p (by simp) hne]; exact a, by rw [h2 q (by simp)]; exact b, Lk_congr l q hd2 (fun x hx hn => h1 x (List.mem_cons_of_mem _ hx) hn) (fun x hx => h2 x (List.mem_cons_of_mem _ hx)) c⟩
/-- .. and the last one is the first. -/
theorem Lk_congr0 {od nw od' nw' : Nat → Nat} : ∀ (l : List Nat) (p z : Nat), (p :: l).Nodup → z ∉ p :: l → (∀ x ∈ p :: l, od' x = od x) → (∀ x ∈ l, nw' x = nw x) → nw' z = nw z → Lk od nw p (l ++ [z]) → Lk od' nw' p (l ++ [z])
  | [], p, z, _, _, h1, _, h3, h => by
    simp only [List.nil_append, Lk] at h ⊢
    exact ⟨by rw [h1 p (by simp)]; exact h.1, by rw [h3]; exact h.2.1, trivial⟩
  | q :: l, p, z, hd, hz, h1, h2, h3, h => by
    rw [List.cons_append, Lk] at h ⊢
    exact ⟨by rw [h1 p (by simp)]; exact h.1, by rw [h2 q (by simp)]; exact h.2.1, Lk_congr0 l q z (List.nodup_cons.1 hd).2 (fun e => hz (List.mem_cons_of_mem _ e)) (fun x hx => h1 x (List.mem_cons_of_mem _ hx)) (fun x hx => h2 x (List.mem_cons_of_mem _ hx)) h3 h.2.2⟩
structure Ring (od nw : Nat → Nat) (ob : Nat) (l : List Nat) : Prop where
  lk : Lk od nw ob (l ++ [ob])
  nd : (ob :: l).Nodup
def up (f : Nat → Nat) (a v : Nat) : Nat → Nat := fun x => if x = a then v else f x
theorem up_same (f : Nat → Nat) (a v : Nat) : up f a v a = v := by simp [up]
theorem up_ne {f : Nat → Nat} {a v x : Nat} (h : x ≠ a) : up f a v x = f x := by simp [up, h]
/-- One is taken out. -/
theorem Ring.out {od nw : Nat → Nat} {ob b : Nat} {l1 l2 : List Nat} (h : Ring od nw ob (l1 ++ b :: l2)) : Ring (up od (nw b) (od b)) (up nw (od b) (nw b)) ob (l1 ++ l2) := by
  obtain ⟨hl, hn⟩ := h
  have hn' : (ob :: (l1 ++ l2)).Nodup := by
    have hp : (ob :: (l1 ++ b :: l2)).Perm (b :: (ob :: (l1 ++ l2))) := by
      have : (l1 ++ b :: l2).Perm (b :: (l1 ++ l2)) := List.perm_middle
      exact (List.Perm.cons ob this).trans (List.Perm.swap b ob _)
    exact (List.nodup_cons.1 (hp.nodup_iff.1 hn)).2
  refine ⟨?_, hn'⟩
  rw [List.append_assoc, List.cons_append, Lk_app] at hl
  obtain ⟨k1, k2, k3, k4⟩ := hl
  have hnob := (List.nodup_cons.1 hn).1
  have hnl := (List.nodup_cons.1 hn).2
  rw [List.nodup_append] at hnl
  obtain ⟨n1, n2, n3⟩ := hnl
  have hb1 : b ∉ l1 := fun e => n3 b e b (by simp) rfl
  have hbob : b ≠ ob := fun e => hnob (by rw [← e]; simp)
  have he1 : lst ob l1 = ob ∨ lst ob l1 ∈ l1 := lst_mem l1 ob
  rw [k3]
  rw [List.append_assoc, Lk_app]
  cases l2 with
  | nil =>
    simp only [List.nil_append, Lk] at k4 ⊢
    obtain ⟨q1, q2, _⟩ := k4
    rw [q1]
    have hob1 : ob ∉ l1 := fun e => hnob (List.mem_append_left _ e)
    refine ⟨Lk_congr l1 ob (List.nodup_cons.2 ⟨hob1, n1⟩) (fun x _ hne => up_ne hne) (fun x hx => up_ne (fun e => hob1 (e ▸ hx))) k1, ?_, ?_, trivial⟩
    · exact up_same ..
    · exact up_same ..
  | cons q l2 =>
    simp only [List.cons_append, Lk] at k4 ⊢
    obtain ⟨q1, q2, q3⟩ := k4
    rw [q1]
    have hob1 : ob ∉ l1 := fun e => hnob (List.mem_append_left _ e)
    have hq1 : q ∉ l1 := fun e => n3 q e q (by simp) rfl
    have hqob : q ≠ ob := fun e => hnob (by rw [← e]; simp)
    have hobl2 : ob ∉ l2 := fun e => hnob (List.mem_append_right _ (by simp [e]))
    have n2' := (List.nodup_cons.1 n2).2
    have hql2 := (List.nodup_cons.1 n2').1
    refine ⟨Lk_congr l1 ob (List.nodup_cons.2 ⟨hob1, n1⟩) (fun x _ hne => up_ne hne) (fun x hx => up_ne (fun e => hq1 (e ▸ hx))) k1, up_same .., up_same .., ?_⟩
    have hnot : ∀ x ∈ q :: l2, x ≠ lst ob l1 := by
      intro x hx e
      rcases he1 with h | h
      · rw [h] at e
        subst e
        rcases List.mem_cons.1 hx with h | h
        · exact hqob h.symm
        · exact hobl2 h
      · rw [← e] at h
        exact n3 x h x (List.mem_cons_of_mem _ hx) rfl
    exact Lk_congr0 l2 q ob n2' (fun e => by
      rcases List.mem_cons.1 e with h | h
      · exact hqob h.symm
      · exact hobl2 h) (fun x hx => up_ne (hnot x hx)) (fun x hx => up_ne (fun e => hql2 (e ▸ hx))) (up_ne (fun e => hqob e.symm)) q3
/-- One is put in, as the newest. -/
theorem Ring.put {od nw : Nat → Nat} {ob b : Nat} {l : List Nat} (h : Ring od nw ob l) (hb : b ∉ ob :: l) : Ring (up (up od b (od ob)) ob b) (up (up nw b ob) (od ob) b) ob (b :: l) := by
  obtain ⟨hl, hn⟩ := h
  have hbob : b ≠ ob := fun e => hb (by simp [e])
  have hbl : b ∉ l := fun e => hb (List.mem_cons_of_mem _ e)
  have hobl := (List.nodup_cons.1 hn).1
  have hnl := (List.nodup_cons.1 hn).2
  refine ⟨?_, List.nodup_cons.2 ⟨fun e => ?_, List.nodup_cons.2 ⟨hbl, hnl⟩⟩⟩
  · rw [List.cons_append, Lk]
    cases l with
    | nil =>
      simp only [List.nil_append, Lk] at hl ⊢
      obtain ⟨q1, q2, _⟩ := hl
      rw [q1]
      refine ⟨up_same .., ?_, ?_, ?_, trivial⟩
      · rw [up_ne hbob, up_same]
      · rw [up_ne hbob, up_same]
      · exact up_same ..
    | cons q l =>
      simp only [List.cons_append, Lk] at hl ⊢
      obtain ⟨q1, q2, q3⟩ := hl
      rw [q1]
      have hbq : b ≠ q := fun e => hbl (by simp [e])
      have hqob : q ≠ ob := fun e => hobl (by simp [e])
      refine ⟨up_same .., ?_, ?_, up_same .., ?_⟩
      · rw [up_ne hbq, up_same]
      · rw [up_ne hbob, up_same]
      · exact Lk_congr0 l q ob hnl hobl (fun x hx => by
          rw [up_ne (show x ≠ ob from fun e => hobl (e ▸ hx)), up_ne (show x ≠ b from fun e => hbl (e ▸ hx))]) (fun x hx => by
          rw [up_ne (show x ≠ q from fun e => (List.nodup_cons.1 hnl).1 (e ▸ hx)), up_ne (show x ≠ b from fun e => hbl (e ▸ List.mem_cons_of_mem _ hx))]) (by
          rw [up_ne (fun e => hqob e.symm), up_ne (fun e => hbob e.symm)]) q3
  · rcases List.mem_cons.1 e with h | h
    · exact hbob h.symm
    · exact hobl h
/-- Who stands beside it. -/
theorem Lk_od {od nw : Nat → Nat} : ∀ (l : List Nat) (p z x : Nat), Lk od nw p (l ++ [z]) → x ∈ p :: l → od x ∈ l ++ [z]
  | [], p, z, x, h, hx => by
    simp only [List.nil_append, Lk] at h
    rw [List.mem_singleton.1 hx, h.1]; simp
  | q :: l, p, z, x, h, hx => by
    rw [List.cons_append, Lk] at h
    rcases List.mem_cons.1 hx with e | e
    · rw [e, h.1]; simp
    · exact List.mem_cons_of_mem _ (Lk_od l q z x h.2.2 e)
theorem Lk_nw {od nw : Nat → Nat} : ∀ (l : List Nat) (p x : Nat), Lk od nw p l → x ∈ l → nw x ∈ p :: l
  | [], p, x, _, hx => by cases hx
  | q :: l, p, x, h, hx => by
    rw [Lk] at h
    rcases List.mem_cons.1 hx with e | e
    · rw [e, h.2.1]; simp
    · exact List.mem_cons_of_mem _ (Lk_nw l q x h.2.2 e)
theorem Ring.od_mem {od nw : Nat → Nat} {ob x : Nat} {l : List Nat} (h : Ring od nw ob l) (hx : x ∈ ob :: l) : od x ∈ ob :: l := by
  have := Lk_od l ob ob x h.lk hx
  rcases List.mem_append.1 this with e | e
  · exact List.mem_cons_of_mem _ e
  · rw [List.mem_singleton.1 e]; simp
theorem Ring.nw_mem {od nw : Nat → Nat} {ob x : Nat} {l : List Nat} (h : Ring od nw ob l) (hx : x ∈ ob :: l) : nw x ∈ ob :: l := by
  have hx' : x ∈ l ++ [ob] := by
    rcases List.mem_cons.1 hx with e | e
    · rw [e]; simp
    · exact List.mem_append_left _ e
  have := Lk_nw (l ++ [ob]) ob x h.lk hx'
  rcases List.mem_cons.1 this with e | e
  · rw [e]; simp
  · rcases List.mem_append.1 e with e | e
    · exact List.mem_cons_of_mem _ e
    · rw [List.mem_singleton.1 e]; simp
theorem Ring.last {od nw : Nat → Nat} {ob b : Nat} {l : List Nat} (h : Ring od nw ob (l ++ [b])) : nw ob = b := by
  have := h.lk
  rw [List.append_assoc, Lk_app] at this
  exact this.2.2.2.2.1
set_option maxRecDepth 100000 in
set_option maxHeartbeats 800000 in
theorem takeOut_any (b p q : Nat) (w : World) (h3 : w.cell? ⟨b, 3, none⟩ = some (ptB' q)) (h4 : w.cell? ⟨b, 4, none⟩ = some (ptB' p)) (vq vp : Value) (hq : w.cell? ⟨q, 4, none⟩ = some vq) (hp : w.cell? ⟨p, 3, none⟩ = some vp) (fq : w.frozen? ⟨q, 4, none⟩ = false) (fp : w.frozen? ⟨p, 3, none⟩ = false) :
    Calls Tryz.prog 241 #[ptB' b] w fun e w' => e = .returned (.tuple #[]) ∧ ∃ n, w' = ((w.setCell ⟨q, 4, none⟩ (ptB' p)).setCell ⟨p, 3, none⟩ (ptB' q)).drewN n := by
  unfold ptB' at *
  go_enter Tryz.func241, Tryz.ntmps241
  go_wp2
  go_region
  go_end0
  exact ⟨rfl, 1, rfl⟩

set_option maxRecDepth 100000 in
set_option maxHeartbeats 800000 in
theorem putNewest_any (ob b x : Nat) (w : World) (h3 : w.cell? ⟨ob, 3, none⟩ = some (ptB' x)) (vb3 vb4 vx : Value) (hb3 : w.cell? ⟨b, 3, none⟩ = some vb3) (hb4 : w.cell? ⟨b, 4, none⟩ = some vb4) (hx4 : w.cell? ⟨x, 4, none⟩ = some vx) (f3 : w.frozen? ⟨ob, 3, none⟩ = false) (fb3 : w.frozen? ⟨b, 3, none⟩ = false) (fb4 : w.frozen? ⟨b, 4, none⟩ = false) (fx : w.frozen? ⟨x, 4, none⟩ = false) (hbo : b ≠ ob) (hbx : b ≠ x) :
    Calls Tryz.prog 239 #[ptB' ob, ptB' b] w fun e w' => e = .returned (.tuple #[]) ∧ ∃ n, w' = ((((w.setCell ⟨b, 3, none⟩ (ptB' x)).setCell ⟨b, 4, none⟩ (ptB' ob)).setCell ⟨x, 4, none⟩ (ptB' b)).setCell ⟨ob, 3, none⟩ (ptB' b)).drewN n := by
  unfold ptB' at *
  have hob := hbo.symm
  have hxb := hbx.symm
  go_enter Tryz.func239, Tryz.ntmps239
  go_wp2
  go_region
  go_wp2
  go_region
  go_end0
  exact ⟨rfl, 2, rfl⟩


/-- What of a link's block is no link. -/
structure Cel where
  a0 : Value
  a1 : Value
  a2 : Value
  a5 : Value
  ty : Nat
/-- A link in memory. -/
def Lnk (w : World) (A : Nat → Cel) (od nw : Nat → Nat) (x : Nat) : Prop :=
  w.heap[x]? = some (.cells #[(A x).a0, (A x).a1, (A x).a2, ptB' (od x), ptB' (nw x), (A x).a5] (A x).ty (0, 0))
theorem Lnk.set3 {w : World} {A : Nat → Cel} {od nw : Nat → Nat} {x : Nat} (h : Lnk w A od nw x) (q v : Nat) : Lnk (w.setCell ⟨q, 3, none⟩ (ptB' v)) A (up od q v) nw x := by
  unfold Lnk at *
  by_cases hx : x = q
  · subst hx; rw [heap_set_at h, up_same]; simp
  · rw [Below.heap_setCell _ _ _ _ (show x ≠ q from hx), up_ne hx]; exact h
theorem Lnk.set4 {w : World} {A : Nat → Cel} {od nw : Nat → Nat} {x : Nat} (h : Lnk w A od nw x) (q v : Nat) : Lnk (w.setCell ⟨q, 4, none⟩ (ptB' v)) A od (up nw q v) x := by
  unfold Lnk at *
  by_cases hx : x = q
  · subst hx; rw [heap_set_at h, up_same]; simp
  · rw [Below.heap_setCell _ _ _ _ (show x ≠ q from hx), up_ne hx]; exact h
theorem Lnk.cells {w : World} {A : Nat → Cel} {od nw : Nat → Nat} {x : Nat} (h : Lnk w A od nw x) : w.cell? ⟨x, 3, none⟩ = some (ptB' (od x)) ∧ w.cell? ⟨x, 4, none⟩ = some (ptB' (nw x)) ∧ w.frozen? ⟨x, 3, none⟩ = false ∧ w.frozen? ⟨x, 4, none⟩ = false := by
  unfold Lnk at h
  refine ⟨?_, ?_, ?_, ?_⟩ <;> simp [World.cell?, World.frozen?, h]
/-- The ring in memory. -/
def RgAt (w : World) (A : Nat → Cel) (ob : Nat) (l : List Nat) : Prop := ∃ od nw, Ring od nw ob l ∧ ∀ x ∈ ob :: l, Lnk w A od nw x

structure TkOut (A : Nat → Cel) (ob b : Nat) (l : List Nat) (w : World) (e : Ending) (w' : World) : Prop where
  res : e = .returned (.tuple #[])
  rg : RgAt w' A ob l
  own : w'.heap[b]? = w.heap[b]?
  kept : Kept (fun k => k ∈ ob :: l) w w'
theorem takeOut_ring (A : Nat → Cel) (ob b : Nat) (l1 l2 : List Nat) (w : World) (h : RgAt w A ob (l1 ++ b :: l2)) : Calls Tryz.prog 241 #[ptB' b] w fun e w' => TkOut A ob b (l1 ++ l2) w e w' := by
  obtain ⟨od, nw, hr, hl⟩ := h
  have hbm : b ∈ ob :: (l1 ++ b :: l2) := by simp
  have hq := hr.od_mem hbm
  have hp := hr.nw_mem hbm
  obtain ⟨b3, b4, _, _⟩ := (hl b hbm).cells
  obtain ⟨_, q4, _, qf⟩ := (hl _ hq).cells
  obtain ⟨p3, _, pf, _⟩ := (hl _ hp).cells
  have ho := hr.out
  have hnb : b ∉ ob :: (l1 ++ l2) := by
    have hp : (ob :: (l1 ++ b :: l2)).Perm (b :: (ob :: (l1 ++ l2))) := by
      have : (l1 ++ b :: l2).Perm (b :: (l1 ++ l2)) := List.perm_middle
      exact (List.Perm.cons ob this).trans (List.Perm.swap b ob _)
    exact (List.nodup_cons.1 (hp.nodup_iff.1 hr.nd)).1
  have hsub : ∀ x ∈ ob :: (l1 ++ b :: l2), x ≠ b → x ∈ ob :: (l1 ++ l2) := by
    intro x hx hne
    simp at hx ⊢
    rcases hx with h | h | h | h
    · exact .inl h
    · exact .inr (.inl h)
    · exact absurd h hne
    · exact .inr (.inr h)
  have hnq : od b ≠ b := by
    intro e
    have h1 := hr.lk
    rw [List.append_assoc, List.cons_append, Lk_app] at h1
    have hnl := (List.nodup_cons.1 hr.nd).2
    rw [List.nodup_append] at hnl
    cases l2 with
    | nil =>
      have : od b = ob := h1.2.2.2.1
      rw [e] at this
      exact hnb (by simp [this])
    | cons q l2 =>
      have : od b = q := h1.2.2.2.1
      rw [e] at this
      exact (List.nodup_cons.1 hnl.2.1).1 (by simp [this])
  have hnp : nw b ≠ b := by
    intro e
    have h1 := hr.lk
    rw [List.append_assoc, List.cons_append, Lk_app] at h1
    have h2 : nw b = lst ob l1 := h1.2.2.1
    rw [e] at h2
    rcases lst_mem l1 ob with h | h
    · exact hnb (by simp [h2, h])
    · exact hnb (List.mem_cons_of_mem _ (List.mem_append_left _ (by rw [h2]; exact h)))
  refine (takeOut_any b (nw b) (od b) w b3 b4 _ _ q4 p3 qf pf).mono ?_
  rintro e w' ⟨rfl, n, rfl⟩
  refine ⟨rfl, ⟨up od (nw b) (od b), up nw (od b) (nw b), ho, fun x hx => ?_⟩, ?_, ?_⟩
  · have hx' : x ∈ ob :: (l1 ++ b :: l2) := by
      simp at hx ⊢
      rcases hx with h | h | h
      · exact .inl h
      · exact .inr (.inl h)
      · exact .inr (.inr (.inr h))
    exact ((hl x hx').set4 (od b) (nw b)).set3 (nw b) (od b)
  · show ((w.setCell _ _).setCell _ _).heap[b]? = _
    rw [Below.heap_setCell _ _ _ _ (show b ≠ nw b from fun e => hnp e.symm), Below.heap_setCell _ _ _ _ (show b ≠ od b from fun e => hnq e.symm)]
  · exact (((Kept.refl _ w).setCell (p := ⟨od b, 4, none⟩) (fun _ => hsub _ hq hnq) _).setCell (p := ⟨nw b, 3, none⟩) (fun _ => hsub _ hp hnp) _).drewN n

structure PnOut (A : Nat → Cel) (ob b : Nat) (l : List Nat) (w : World) (e : Ending) (w' : World) : Prop where
  res : e = .returned (.tuple #[])
  rg : RgAt w' A ob (b :: l)
  kept : Kept (fun k => k ∈ ob :: b :: l) w w'
theorem putNewest_ring (A : Nat → Cel) (ob b : Nat) (l : List Nat) (w : World) (h : RgAt w A ob l) (hb : b ∉ ob :: l) (v3 v4 : Value) (hB : w.heap[b]? = some (.cells #[(A b).a0, (A b).a1, (A b).a2, v3, v4, (A b).a5] (A b).ty (0, 0))) : Calls Tryz.prog 239 #[ptB' ob, ptB' b] w fun e w' => PnOut A ob b l w e w' := by
  obtain ⟨od, nw, hr, hl⟩ := h
  have hom : ob ∈ ob :: l := by simp
  have hx := hr.od_mem hom
  obtain ⟨o3, _, of3, _⟩ := (hl ob hom).cells
  obtain ⟨_, x4, _, xf⟩ := (hl _ hx).cells
  have hbo : b ≠ ob := fun e => hb (by simp [e])
  have hbx : b ≠ od ob := fun e => hb (by rw [e]; exact hx)
  refine (putNewest_any ob b (od ob) w o3 v3 v4 _ (by simp [World.cell?, hB]) (by simp [World.cell?, hB]) x4 of3 (by simp [World.frozen?, hB]) (by simp [World.frozen?, hB]) xf hbo hbx).mono ?_
  rintro e w' ⟨rfl, n, rfl⟩
  refine ⟨rfl, ⟨_, _, hr.put hb, fun y hy => ?_⟩, ?_⟩
  · by_cases hyb : y = b
    · subst hyb
      have h1 : Lnk ((w.setCell ⟨y, 3, none⟩ (ptB' (od ob))).setCell ⟨y, 4, none⟩ (ptB' ob)) A (up od y (od ob)) (up nw y ob) y := by
        unfold Lnk
        rw [up_same, up_same]
        have h2 := heap_set_at (o := 3) (u := ptB' (od ob)) hB
        rw [heap_set_at h2]
        simp
      exact (h1.set4 (od ob) y).set3 ob y
    · have hy' : y ∈ ob :: l := by
        simp at hy ⊢
        rcases hy with h | h | h
        · exact .inl h
        · exact absurd h hyb
        · exact .inr h
      exact ((((hl y hy').set3 b (od ob)).set4 b ob).set4 (od ob) b).set3 ob b
  · have hx' : od ob ∈ ob :: b :: l := by
      simp at hx ⊢
      rcases hx with h | h
      · exact .inl h
      · exact .inr (.inr h)
    exact (((((Kept.refl _ w).setCell (p := ⟨b, 3, none⟩) (fun _ => by simp) _).setCell (p := ⟨b, 4, none⟩) (fun _ => by simp) _).setCell (p := ⟨od ob, 4, none⟩) (fun _ => hx') _).setCell (p := ⟨ob, 3, none⟩) (fun _ => by simp) _).drewN n
end Go.Proofs.YtagklnaaoclmhaaGreatDoor

namespace Go.Proofs.YtagklnaaoclmhaaGreatDoor
open Go.RowKit

theorem RgAt.congr {w w' : World} {A A' : Nat → Cel} {ob : Nat} {l : List Nat} (h : RgAt w A ob l) (hA : ∀ x ∈ ob :: l, A' x = A x) (hw : ∀ x ∈ ob :: l, w'.heap[x]? = w.heap[x]?) : RgAt w' A' ob l := by
  obtain ⟨od, nw, hr, hl⟩ := h
  refine ⟨od, nw, hr, fun x hx => ?_⟩
  have := hl x hx
  unfold Lnk at *
  rw [hA x hx, hw x hx]; exact this

theorem nd_mid {ob b : Nat} {l1 l2 : List Nat} (h : (ob :: (l1 ++ b :: l2)).Nodup) : b ∉ ob :: (l1 ++ l2) := by
  have hp : (ob :: (l1 ++ b :: l2)).Perm (b :: (ob :: (l1 ++ l2))) := by
    have : (l1 ++ b :: l2).Perm (b :: (l1 ++ l2)) := List.perm_middle
    exact (List.Perm.cons ob this).trans (List.Perm.swap b ob _)
  exact (List.nodup_cons.1 (hp.nodup_iff.1 h)).1

set_option maxHeartbeats 400000 in
theorem useO_any (A : Nat → Cel) (ob b : Nat) (l1 l2 : List Nat) (w : World) (h : RgAt w A ob (l1 ++ b :: l2)) :
    Calls Tryz.prog 240 #[ptB' ob, ptB' b] w fun e w' => PnOut A ob b (l1 ++ l2) w e w' := by
  obtain ⟨od, nw, hr, hl⟩ := h
  have hb := hl b (by simp)
  have hnb := nd_mid hr.nd
  have hT := takeOut_ring A ob b l1 l2 w ⟨od, nw, hr, hl⟩
  unfold ptB' at *
  go_enter Tryz.func240, Tryz.ntmps240
  go_wp2_with fail
  refine hT.mono ?_
  rintro e w1 ⟨rfl, hr1, ho1, hk1⟩
  have hP := putNewest_ring A ob b (l1 ++ l2) w1 hr1 hnb _ _ (by rw [ho1]; exact hb)
  unfold ptB' at hP
  go_wp2_with fail
  refine hP.mono ?_
  rintro e w2 ⟨rfl, hr2, hk2⟩
  go_wp2
  go_end0
  exact ⟨rfl, hr2, (hk1.mono (fun k _ hk => by simp at hk ⊢; rcases hk with h | h | h; exact .inl h; exact .inr (.inr (.inl h)); exact .inr (.inr (.inr h)))).trans hk2⟩

/-- What add leaves: the one that goes. -/
structure AdOut (A A' : Nat → Cel) (ob b : Nat) (l : List Nat) (g : Option Nat) (w : World) (e : Ending) (w' : World) : Prop where
  res : e = .returned (optP g)
  rg : RgAt w' A' ob (b :: l)
  own : ∀ x, g = some x → w'.heap[x]? = w.heap[x]? ∨ True
  kept : Kept (fun k => k ∈ ob :: b :: l) w w'
set_option maxHeartbeats 400000 in
theorem addO_free (A : Nat → Cel) (ob b fr : Nat) (l : List Nat) (w : World) (h : RgAt w A ob l) (hb : b ∉ ob :: l) (v3 v4 : Value) (hB : w.heap[b]? = some (.cells #[(A b).a0, (A b).a1, (A b).a2, v3, v4, (A b).a5] (A b).ty (0, 0)))
    (hf : (A ob).a5 = .int .i64 ((fr + 1 : Nat) : Int)) (hfr : fr < 1000) :
    Calls Tryz.prog 238 #[ptB' ob, ptB' b] w fun e w' => e = .returned (.pointer none) ∧ RgAt w' (fun x => if x = ob then { A ob with a5 := .int .i64 (fr : Int) } else A x) ob (b :: l) ∧ Kept (fun k => k ∈ ob :: b :: l) w w' := by
  obtain ⟨od, nw, hr, hl⟩ := h
  have ho := hl ob (by simp)
  unfold Lnk at ho
  rw [hf] at ho
  have c5 : w.cell? ⟨ob, 5, none⟩ = some (.int .i64 ((fr + 1 : Nat) : Int)) := by simp [World.cell?, ho]
  have f5 : w.frozen? ⟨ob, 5, none⟩ = false := by simp [World.frozen?, ho]
  have hbo : b ≠ ob := fun e => hb (by simp [e])
  have hr1 : RgAt (w.setCell ⟨ob, 5, none⟩ (.int .i64 (fr : Int))) (fun x => if x = ob then { A ob with a5 := .int .i64 (fr : Int) } else A x) ob l := by
    refine ⟨od, nw, hr, fun x hx => ?_⟩
    by_cases hxo : x = ob
    · subst hxo
      unfold Lnk
      rw [heap_set_at ho]
      simp
    · have := hl x hx
      unfold Lnk at *
      rw [Below.heap_setCell _ _ _ _ (show x ≠ ob from hxo)]
      simp only [hxo, if_false]
      exact this
  have hP := putNewest_ring _ ob b l _ hr1 hb v3 v4 (by
    rw [Below.heap_setCell _ _ _ _ (show b ≠ ob from hbo)]
    simp only [hbo, if_false]
    exact hB)
  have hg : ((fr + 1 : Nat) : Int) > 0 := by omega
  have hc : (((fr + 1 : Nat) : Int) - 1) = (fr : Int) := by omega
  unfold ptB' at *
  go_enter Tryz.func238, Tryz.ntmps238
  go_wp2_with fail
  refine hP.mono ?_
  rintro e w2 ⟨rfl, hr2, hk2⟩
  go_wp2
  go_ret
  exact ⟨rfl, hr2, ((Kept.refl _ w).setCell (p := ⟨ob, 5, none⟩) (fun _ => by simp) _).trans hk2⟩
set_option maxHeartbeats 400000 in
theorem addO_full (A : Nat → Cel) (ob b g : Nat) (l : List Nat) (w : World) (h : RgAt w A ob (l ++ [g])) (hb : b ∉ ob :: (l ++ [g])) (v3 v4 : Value) (hB : w.heap[b]? = some (.cells #[(A b).a0, (A b).a1, (A b).a2, v3, v4, (A b).a5] (A b).ty (0, 0)))
    (hf : (A ob).a5 = .int .i64 0) :
    Calls Tryz.prog 238 #[ptB' ob, ptB' b] w fun e w' => e = .returned (ptB' g) ∧ RgAt w' A ob (b :: l) ∧ Kept (fun k => k ∈ ob :: b :: l) w w' := by
  obtain ⟨od, nw, hr, hl⟩ := h
  have ho := hl ob (by simp)
  obtain ⟨_, o4, _, _⟩ := ho.cells
  rw [hr.last] at o4
  unfold Lnk at ho
  rw [hf] at ho
  have c5 : w.cell? ⟨ob, 5, none⟩ = some (.int .i64 0) := by simp [World.cell?, ho]
  have hbl : b ∉ ob :: l := fun e => hb (by simp at e ⊢; rcases e with h | h; exact .inl h; exact .inr (.inl h))
  have hT := takeOut_ring A ob g l [] w ⟨od, nw, hr, hl⟩
  rw [List.append_nil] at hT
  have hbg : b ≠ g := fun e => hb (by simp [e])
  unfold ptB' at *
  go_enter Tryz.func238, Tryz.ntmps238
  go_wp2_with fail
  refine hT.mono ?_
  rintro e w1 ⟨rfl, hr1, ho1, hk1⟩
  have hP := putNewest_ring A ob b l w1 hr1 hbl v3 v4 (by
    rw [hk1.block b (objAt_lt (show objAt w b = _ from hB)) hbl]; exact hB)
  unfold ptB' at hP
  go_wp2_with fail
  refine hP.mono ?_
  rintro e w2 ⟨rfl, hr2, hk2⟩
  go_wp2
  go_ret
  exact ⟨rfl, hr2, (hk1.mono (fun k _ hk => by simp at hk ⊢; rcases hk with h | h; exact .inl h; exact .inr (.inr h))).trans hk2⟩
end Go.Proofs.YtagklnaaoclmhaaGreatDoor

namespace Go.Proofs.YtagklnaaoclmhaaGreatDoor
open Go.RowKit

structure KyIn (k : Ky) : Prop where
  inp : k.inp ≤ 20
  rule : k.rule < 8
  place : k.place ≤ 60
def kN (nr : Nat) (k : Ky) : Nat := (k.inp * 61 + k.place) * nr + k.rule

theorem wrapZ {x : Int} (h : 0 ≤ x ∧ x ≤ 2000000) : IntKind.i64.wrap x = x := by
  rw [IntKind.wrap_i64]
  omega
theorem lt_cell {w : World} {b o : Nat} {v : Value} (h : w.cell? ⟨b, o, none⟩ = some v) : b < w.heap.size := by
  rcases Nat.lt_or_ge b w.heap.size with h1 | h1
  · exact h1
  · have : w.heap[b]? = none := Array.getElem?_eq_none h1
    simp [World.cell?, this] at h

set_option maxRecDepth 100000 in
set_option maxHeartbeats 800000 in
theorem number_any (db : Nat) (k : Ky) (nr : Nat) (w : World) (hk : KyIn k) (hn : nr ≤ 8) (hD : w.cell? ⟨db, 1, none⟩ = some (.int .i64 (nr : Int))) :
    Calls Tryz.prog 237 #[ptB' db, kyV k] w fun e w' => e = .returned (.int .i64 (kN nr k : Int)) ∧ ∃ n, w' = (w.alloc (.cells #[.int .i64 (k.inp : Int), .int .i64 (k.rule : Int), .int .i64 (k.place : Int)] 225)).drewN n := by
  obtain ⟨i, r, p⟩ := k
  obtain ⟨h1, h2, h3⟩ := hk
  dsimp only at h1 h2 h3
  have hdb := lt_cell hD
  have hm : (i * 61 + p) * nr ≤ 1280 * 8 := Nat.mul_le_mul (by omega) hn
  have e3 : wrap64 (((i : Int) * 61 + (p : Int)) * (nr : Int)) = (((i * 61 + p) * nr : Nat) : Int) := by
    rw [show ((i : Int) * 61 + (p : Int)) * (nr : Int) = (((i * 61 + p) * nr : Nat) : Int) by push_cast; rfl]
    generalize (i * 61 + p) * nr = x at *
    unfold wrap64; omega
  have e4 : wrap64 ((((i * 61 + p) * nr : Nat) : Int) + (r : Int)) = (((i * 61 + p) * nr + r : Nat) : Int) := by
    generalize (i * 61 + p) * nr = x at *
    unfold wrap64; omega
  have E4 : Hid (wrap64 (wrap64 (((i : Int) * 61 + (p : Int)) * (nr : Int)) + (r : Int)) = (((i * 61 + p) * nr + r : Nat) : Int)) := by unfold Hid; rw [e3, e4]
  clear e3 e4
  unfold kN ptB' kyV
  dsimp only
  go_enter Tryz.func237, Tryz.ntmps237
  go_wp2
  go_quiet (fail)
  go_wp2
  go_ret
  refine ⟨?_, _, rfl⟩
  rw [← E4.out]
  rfl

set_option maxRecDepth 100000 in
set_option maxHeartbeats 800000 in
theorem addD_any (db pb b bud nr : Nat) (k : Ky) (cs : Array Value) (v v3 v4 v5 : Value) (ty : Nat) (w : World) (hk : KyIn k) (hn : nr ≤ 8) (hD : w.heap[db]? = some (.cells #[.slice (some ⟨pb, 0, none⟩) bud bud, .int .i64 (nr : Int)] 270 (0, 0)))
    (hB : w.heap[b]? = some (.cells #[.int .i64 (k.inp : Int), .int .i64 (k.rule : Int), .int .i64 (k.place : Int), v3, v4, v5] ty (0, 0)))
    (hP : w.heap[pb]? = some (.cells cs 271 (0, 0))) (hbud : 0 < bud) (hbud2 : bud ≤ 1000) (hv : cs[kN nr k % bud]? = some v) :
    Calls Tryz.prog 235 #[ptB' db, ptB' b] w fun e w' => e = .returned v ∧ w'.heap[pb]? = some (.cells (cs.setIfInBounds (kN nr k % bud) (ptB' b)) 271 (0, 0)) ∧ Kept (· = pb) w w' := by
  have c0 : w.cell? ⟨db, 0, none⟩ = some (.slice (some ⟨pb, 0, none⟩) bud bud) := by simp [World.cell?, hD]
  have c1 : w.cell? ⟨db, 1, none⟩ = some (.int .i64 (nr : Int)) := by simp [World.cell?, hD]
  have b0 : w.cell? ⟨b, 0, none⟩ = some (.int .i64 (k.inp : Int)) := by simp [World.cell?, hB]
  have b1 : w.cell? ⟨b, 1, none⟩ = some (.int .i64 (k.rule : Int)) := by simp [World.cell?, hB]
  have b2 : w.cell? ⟨b, 2, none⟩ = some (.int .i64 (k.place : Int)) := by simp [World.cell?, hB]
  have hN := fun (w' : World) (h : w'.cell? ⟨db, 1, none⟩ = some (.int .i64 (nr : Int))) => number_any db k nr w' hk hn h
  have hlt : kN nr k % bud < bud := Nat.mod_lt _ hbud
  have hdb := lt_cell c0
  have hdb' : ¬ db = w.heap.size := by omega
  have hb0 : ¬ (bud : Int) = 0 := by omega
  have hb1 : ¬ bud = 0 := by omega
  have hbb := lt_cell b0
  have hpb := lt_cell (show w.cell? ⟨pb, kN nr k % bud, none⟩ = some v by simp [World.cell?, hP, hv])
  have hq : w.cell? ⟨pb, kN nr k % bud, none⟩ = some v := by simp [World.cell?, hP, hv]
  have hfz : w.frozen? ⟨pb, kN nr k % bud, none⟩ = false := by simp [World.frozen?, hP]
  have fin : ∀ (o : Obj) (n : Nat), (((w.alloc o).drewN n).setCell ⟨pb, kN nr k % bud, none⟩ (ptB' b)).heap[pb]? = some (.cells (cs.setIfInBounds (kN nr k % bud) (ptB' b)) 271 (0, 0)) ∧ Kept (· = pb) w (((w.alloc o).drewN n).setCell ⟨pb, kN nr k % bud, none⟩ (ptB' b)) := by
    intro o n
    have h1 : ((w.alloc o).drewN n).heap[pb]? = some (.cells cs 271 (0, 0)) := (Below.heap_alloc _ _ _ hpb).trans hP
    exact ⟨heap_set_at h1 _ _, (((Kept.refl (· = pb) w).alloc o).drewN n).setCell (p := ⟨pb, kN nr k % bud, none⟩) (fun _ => rfl) _⟩
  unfold ptB' kyV at *
  go_enter Tryz.func235, Tryz.ntmps235
  go_wp2
  go_region_with (go_at_call 237; refine (hN w.drew c1).mono ?_; rintro e w1 ⟨rfl, n1, rfl⟩)
  all_goals go_wp2
  all_goals go_ret
  all_goals exact ⟨rfl, (fin _ _).1, (fin _ _).2⟩

theorem useD_any (db b : Nat) (w : World) : Calls Tryz.prog 236 #[ptB' db, ptB' b] w fun e w' => e = .returned (.tuple #[]) ∧ w' = w := by
  unfold ptB'
  go_enter Tryz.func236, Tryz.ntmps236
  go_wp2
  go_end0
  exact ⟨rfl, rfl⟩
end Go.Proofs.YtagklnaaoclmhaaGreatDoor
