import Derived.Test.YtagklnaaoclmhaaGreatDoorMgAW
import Derived.Test.YtagklnaaoclmhaaGreatDoorMgAU
set_option linter.unusedSimpArgs false
set_option linter.unusedVariables false
namespace Go.Proofs.YtagklnaaoclmhaaGreatDoor
open Go.RowKit

/-- An answer, as it is told by what matches. -/
structure AnsOk (w : World) (v : Value) (o : Ot) : Prop where
  yes : ∀ t, o.to = some t → ∃ (g cap : Nat) (fp : Option Addr) (fn fc : Nat), v = .agg #[.bool true, .int .i64 (t : Int), .slice (some ⟨g, 0, none⟩) (o.tr.length + 1) cap, .int .i64 (farI o.ev), .slice fp fn fc] ∧ TrAt w g (⟨0, 0, t, 0⟩ :: o.tr)
  no : o.to = none → ∃ (tp fp : Option Addr) (tc fn fc : Nat), v = .agg #[.bool false, .int .i64 0, .slice tp 0 tc, .int .i64 (farI o.ev), .slice fp fn fc]
/-- A configuration that may be. -/
structure CfgIn (c : Array Value) (runs : Int) : Prop where
  eq : ∃ p b m, c = #[.int .i64 p, .int .i64 b, .int .i64 m, .int .i64 runs] ∧ 0 ≤ p ∧ p ≤ 2 ∧ 0 ≤ b ∧ b ≤ 1000 ∧ 0 ≤ m ∧ m ≤ 255
  runs : 1 ≤ runs ∧ runs ≤ 20000
theorem CfgOk.in_ {c : Array Value} {runs : Int} (h : CfgOk c runs) (hr : 1 ≤ runs ∧ runs ≤ 20000) : CfgIn c runs := by
  obtain ⟨p, b, m, h1, h2, h3, h4, h5, h6, h7⟩ := h.eq
  exact ⟨⟨p, b, m, h1, h2, h3, h4, by omega, h6, h7⟩, hr⟩

structure OpOut (Ps : World → Addr → ByteArray → Int → Nat → Prop) (G : ByteArray) (runs : Int) (w : World) (e : Ending) (w' : World) : Prop where
  res : ∃ p, e = .returned (.tuple #[.pointer (some p), .int .i64 0]) ∧ Ps w' p G runs w.heap.size
  kept : Kept (fun _ => False) w w'
/-- What is asked of Open. -/
def OpenC (Ps : World → Addr → ByteArray → Int → Nat → Prop) : Prop := ∀ (G : ByteArray) (cs : Array Value) (runs : Int) (w : World), Tab w → refChk G = (0, 0) → CfgIn cs runs →
  Calls Tryz.prog 18 #[.string G, .agg cs] w fun e w' => OpOut Ps G runs w e w'
structure PaOut (Ps : World → Addr → ByteArray → Int → Nat → Prop) (G : ByteArray) (runs : Int) (p : Addr) (base : Nat) (o : Ot) (w : World) (e : Ending) (w' : World) : Prop where
  res : ∃ v, e = .returned (.tuple #[v, .int .i64 0]) ∧ AnsOk w' v o
  ps : Ps w' p G runs base
  kept : Kept (fun k => base ≤ k) w w'
/-- What is asked of Parse, where the runs are not spent. -/
def ParseC (Ps : World → Addr → ByteArray → Int → Nat → Prop) : Prop := ∀ (G : ByteArray) (runs : Int) (p : Addr) (base : Nat) (s : ByteArray) (w : World) (f : Nat) (o : Ot), Ps w p G runs base → s.size ≤ 60 →
  mtc (byteAt s) s.size (read G).2 (read G).1.ns f (isI (read G).2 0) 0 1 = some o → (o.rn : Int) + 1 ≤ runs →
  Calls Tryz.prog 19 #[.pointer (some p), .string s] w fun e w' => PaOut Ps G runs p base o w e w'

theorem g1T_at {A k : Nat} (h : k ≤ A) : gN ((⟨0, 0, 2 * A, 0⟩ : Nod) :: g1T A A 1) k = ⟨0, k, 2 * A - k, k⟩ := by
  cases k with
  | zero => rw [gN_zero]; congr 1
  | succ k =>
    rw [gN_cons_succ]
    unfold gN g1T
    rw [List.getD_eq_getElem?_getD, List.getElem?_map, List.getElem?_range (by omega)]
    simp only [Option.map_some, Option.getD_some]
    congr 1 <;> omega
theorem g1T_len (A k dp : Nat) : (g1T A k dp).length = k := by simp [g1T]

set_option maxRecDepth 100000 in
set_option maxHeartbeats 3200000 in
theorem counted_of {Ps : World → Addr → ByteArray → Int → Nat → Prop} (hO : OpenC Ps) (hP : ParseC Ps) (raw : ByteArray) (hm : raw.size ≤ maxLen) (c : Int) (h1 : -9223372036854775808 ≤ c) (h2 : c ≤ 9223372036854775807) (w : World) (hTb : Tab w) :
    Calls Tryz.prog 6 #[.string raw, .int .i64 c] w fun e w' => e = .returned (.bool true) ∧ Kept (fun _ => False) w w' := by
  have hpk : pkI 5000 20000 = 5000 := by decide
  go_enter Tryz.func6, Tryz.ntmps6
  go_wp2_with fail
  refine (nested_any raw hm _).mono ?_
  rintro e w1 ⟨⟨t, a, b, rfl, ht, hAB⟩, rfl⟩
  go_wp2_with fail
  refine (config_any c 5000 h1 h2 (by decide) (by decide) _).mono ?_
  rintro e w2 ⟨⟨cs, rfl, hcfg⟩, hK2⟩
  rw [hpk] at hcfg
  have hcin := hcfg.in_ (by decide)
  clear hcfg
  go_wp2_with fail
  refine (hO absB cs _ w2 (hTb.kept hK2 (fun x => x)) absB_chk hcin).mono ?_
  rintro e w3 ⟨⟨p, rfl, hps⟩, hK3⟩
  obtain ⟨f, o, hf, hrn, hyes, hno⟩ := g1_run hAB
  have hle := hAB.le
  have hpar := hP absB (1 + 5000) p w2.heap.size t w3 f o hps ht (by rw [absB_read.1, absB_read.2]; exact hf) (by omega)
  have HK23 := hide (hK2.trans hK3)
  have hle2 := hK2.size
  clear hK2 hK3 hps
  go_wp2_with fail
  refine hpar.mono ?_
  rintro e w4 ⟨⟨v, rfl, hA⟩, -, hK4⟩
  have HK : Hid (Kept (fun _ => False) w1 w4) := ((HK23.out.mono (fun _ _ h => h.elim)).trans hK4).mono (fun k hk h => by omega)
  clear HK23 hK4 hpar hcin
  by_cases hba : b < a
  · obtain ⟨k1, k2⟩ := hno hba
    obtain ⟨g, cap, fp, fn, fc, rfl, hT⟩ := hA.yes 0 k1
    rw [k2] at hT
    obtain ⟨c0, c1, c2, c3⟩ := hT.at_ 0 (by simp)
    rw [gN_zero] at c0 c1 c2 c3
    dsimp only at c0 c1 c2 c3
    have hln : o.tr.length = 0 := by rw [k2]; rfl
    rw [hln]
    have hgl := cell_lt c0
    have hne : g ≠ w4.heap.size := by dsimp only at hgl; omega
    generalize farI o.ev = fr
    clear hA hyes hno k1 k2 hf hrn hT hAB hln
    go_wp2
    go_ret
    exact ⟨rfl, HK.out.alloc _⟩
  · obtain ⟨k1, k2⟩ := hyes (by omega)
    obtain ⟨g, cap, fp, fn, fc, rfl, hT⟩ := hA.yes _ k1
    rw [k2] at hT
    have hln : o.tr.length = a := by rw [k2]; exact g1T_len ..
    rw [hln]
    have HT : Hid (∀ k, k ≤ a → w4.cell? ⟨g, k * 4, none⟩ = some (.int .i64 0) ∧ w4.cell? ⟨g, k * 4 + 1, none⟩ = some (.int .i64 (k : Int)) ∧ w4.cell? ⟨g, k * 4 + 2, none⟩ = some (.int .i64 ((2 * a - k : Nat) : Int)) ∧ w4.cell? ⟨g, k * 4 + 3, none⟩ = some (.int .i64 (k : Int))) := fun k hk => by
      have h := hT.at_ k (by rw [List.length_cons, g1T_len]; omega)
      rw [g1T_at hk] at h
      exact h
    have hgl := cell_lt (HT.out 0 (Nat.zero_le _)).1
    have hne : g ≠ w4.heap.size := by dsimp only at hgl; omega
    generalize farI o.ev = fr
    clear hA hyes hno k1 k2 hf hrn hT hAB hln
    go_wp2
    go_loop [14] (fun i => ∃ k : Nat, k ≤ a + 1 ∧ i = .int .i64 (k : Int)) (fun i => a + 2 - (intOf i).toNat)
    case atStart => exact ⟨0, by omega, rfl⟩
    case round =>
      obtain ⟨k, hk, rfl⟩ := hrel
      by_cases hka : k ≤ a
      · obtain ⟨c0, c1, c2, c3⟩ := HT.out k hka
        have hsub : (2 * (a : Int)) - (k : Int) = ((2 * a - k : Nat) : Int) := by omega
        obtain ⟨z, hz⟩ : ∃ z, z = 2 * a - k := ⟨_, rfl⟩
        rw [← hz] at c2 hsub
        have hzb : z ≤ 1000 := by omega
        clear hz
        go_wp2
        go_round
        case rel => exact ⟨k + 1, by omega, by go_num⟩
        case measure => simp [intOf]; omega
      · go_wp2
        go_ret
        exact ⟨rfl, HK.out.alloc _⟩
end Go.Proofs.YtagklnaaoclmhaaGreatDoor

namespace Go.Proofs.YtagklnaaoclmhaaGreatDoor
open Go.RowKit

theorem chO_tr {s : Nat → Option Ot} (h : ∀ j o, s j = some o → o.tr.length ≤ o.rn) : ∀ l o, chO s l = some o → o.tr.length ≤ o.rn
  | [], o, ho => by
    rw [chO] at ho
    have := Option.some.inj ho
    subst this
    exact Nat.le_refl _
  | j :: l, o, ho => by
    rw [chO] at ho
    cases hj : s j with
    | none => rw [hj] at ho; cases ho
    | some p =>
      rw [hj] at ho
      simp only at ho
      split at ho
      · have := Option.some.inj ho
        subst this
        exact h j _ hj
      · cases hl : chO s l with
        | none => rw [hl] at ho; cases ho
        | some q =>
          rw [hl] at ho
          have := Option.some.inj ho
          subst this
          have := chO_tr h l q hl
          show q.tr.length ≤ p.rn + q.rn
          omega
theorem sqO_tr {s : Nat → Nat → Option Ot} (h : ∀ j a o, s j a = some o → o.tr.length ≤ o.rn) : ∀ l a o, sqO s l a = some o → o.tr.length ≤ o.rn
  | [], a, o, ho => by
    rw [sqO] at ho
    have := Option.some.inj ho
    subst this
    exact Nat.le_refl _
  | j :: l, a, o, ho => by
    rw [sqO] at ho
    cases hj : s j a with
    | none => rw [hj] at ho; cases ho
    | some p =>
      rw [hj] at ho
      simp only at ho
      cases hp : p.to with
      | none =>
        rw [hp] at ho
        have := Option.some.inj ho
        subst this
        exact Nat.zero_le _
      | some u =>
        rw [hp] at ho
        simp only at ho
        cases hl : sqO s l u with
        | none => rw [hl] at ho; cases ho
        | some q =>
          rw [hl] at ho
          have := Option.some.inj ho
          subst this
          have h1 := h j a p hj
          have h2 := sqO_tr h l u q hl
          show (if q.to.isSome then p.tr ++ q.tr else []).length ≤ p.rn + q.rn
          split
          · rw [List.length_append]; omega
          · exact Nat.zero_le _
theorem rpO_tr {s : Nat → Option Ot} (h : ∀ a o, s a = some o → o.tr.length ≤ o.rn) : ∀ f a o, rpO s f a = some o → o.tr.length ≤ o.rn
  | 0, _, _, ho => by cases ho
  | f + 1, a, o, ho => by
    rw [rpO] at ho
    cases hj : s a with
    | none => rw [hj] at ho; cases ho
    | some p =>
      rw [hj] at ho
      simp only at ho
      cases hp : p.to with
      | none =>
        rw [hp] at ho
        have := Option.some.inj ho
        subst this
        exact Nat.zero_le _
      | some u =>
        rw [hp] at ho
        simp only at ho
        cases hl : rpO s f u with
        | none => rw [hl] at ho; cases ho
        | some q =>
          rw [hl] at ho
          have := Option.some.inj ho
          subst this
          have h1 := h a p hj
          have h2 := rpO_tr h f u q hl
          show (p.tr ++ q.tr).length ≤ p.rn + q.rn
          rw [List.length_append]; omega
/-- There are no more nodes than runs. -/
theorem mtc_tr {b : Nat → Nat} {len : Nat} {rs : List Rl} {ns : List Nd} : ∀ f i a dp o, mtc b len rs ns f i a dp = some o → o.tr.length ≤ o.rn
  | 0, _, _, _, _, h => by cases h
  | f + 1, i, a, dp, o, h => by
    have ih := mtc_tr (b := b) (len := len) (rs := rs) (ns := ns) f
    rw [mtc] at h
    split at h
    · have := Option.some.inj h
      subst this
      exact Nat.le_refl _
    split at h
    · cases hx : mtc b len rs ns f (isI rs (ruI rs (nth ns i))) a (dp + 1) with
      | none => rw [hx] at h; cases h
      | some p =>
        rw [hx] at h
        have := Option.some.inj h
        subst this
        have := ih _ _ _ p hx
        show (match p.to with | some t => (⟨ruI rs (nth ns i), a, t, dp⟩ : Nod) :: p.tr | none => ([] : List Nod)).length ≤ p.rn + 1
        cases p.to with
        | none => exact Nat.zero_le _
        | some t => simp; omega
    split at h
    · exact chO_tr (fun j o h1 => ih _ _ _ o h1) _ o h
    split at h
    · exact sqO_tr (fun j a o h1 => ih _ _ _ o h1) _ _ o h
    split at h
    · cases hx : mtc b len rs ns f ((nth ns i).subs.getD 0 0) a dp with
      | none => rw [hx] at h; cases h
      | some p =>
        rw [hx] at h
        have := Option.some.inj h
        subst this
        have := ih _ _ _ p hx
        dsimp only
        split
        · exact Nat.zero_le _
        · exact this
    split at h
    · exact rpO_tr (fun a o h1 => ih _ _ _ o h1) _ _ o h
    split at h
    · cases hx : mtc b len rs ns f ((nth ns i).subs.getD 0 0) a dp with
      | none => rw [hx] at h; cases h
      | some p =>
        rw [hx] at h
        simp only at h
        cases hp : p.to with
        | none =>
          rw [hp] at h
          have := Option.some.inj h
          subst this
          exact Nat.zero_le _
        | some u =>
          rw [hp] at h
          simp only at h
          cases hl : rpO (fun a => mtc b len rs ns f ((nth ns i).subs.getD 0 0) a dp) f u with
          | none => rw [hl] at h; cases h
          | some q =>
            rw [hl] at h
            have := Option.some.inj h
            subst this
            have h1 := ih _ _ _ p hx
            have h2 := rpO_tr (fun a o h1 => ih _ _ _ o h1) f u q hl
            show (p.tr ++ q.tr).length ≤ p.rn + q.rn
            rw [List.length_append]; omega
    · cases hx : mtc b len rs ns f ((nth ns i).subs.getD 0 0) a dp with
      | none => rw [hx] at h; cases h
      | some p =>
        rw [hx] at h
        have := Option.some.inj h
        subst this
        exact Nat.zero_le _

theorem occ_ba (t : List UInt8) : Occ (byteAt (ba t)) (ba t).size t 0 := by
  have e : (ba t).size = t.length := rfl
  refine ⟨by rw [e]; omega, fun k hk => ?_⟩
  rw [Nat.zero_add]
  unfold byteAt
  simp [ba, List.getD, List.getElem?_eq_getElem hk]

set_option maxRecDepth 100000 in
set_option maxHeartbeats 400000 in
theorem summed_of {Ps : World → Addr → ByteArray → Int → Nat → Prop} (hO : OpenC Ps) (hP : ParseC Ps) (hS : ∀ w w' p G runs base, Ps w p G runs base → Kept (fun _ => False) w w' → Ps w' p G runs base) (pr : Option Addr) (n cap : Nat) (R : Nat → Int) (w : World) (hR : RawAt w pr n R) (hn : n ≤ maxLen) (c : Int) (h1 : -9223372036854775808 ≤ c) (h2 : c ≤ 9223372036854775807) (hTb : Tab w) :
    Calls Tryz.prog 7 #[.slice pr n cap, .int .i64 c] w fun e w' => e = .returned (.bool true) ∧ Kept (fun _ => False) w w' := by
  have hpb := pkI_bd (c := c) (n := 300) (by decide)
  go_enter Tryz.func7, Tryz.ntmps7
  go_wp2_with fail
  refine (pick_any c 300 h1 h2 (by decide) (by decide) _).mono ?_
  rintro e w1 ⟨rfl, rfl⟩
  generalize pkI c 300 = bu at *
  go_wp2_with fail
  refine (hO sumsB _ 20000 _ hTb sumsB_chk ⟨⟨_, _, _, rfl, by omega, by omega, by omega, by omega, by omega, by omega⟩, by omega, by omega⟩).mono ?_
  rintro e w3 ⟨⟨p, rfl, hps⟩, hK3⟩
  have hR3 : RawAt w3 pr n R := ⟨fun k hk => by
    obtain ⟨b, o, h3, h4⟩ := hR.at_ k hk
    exact ⟨b, o, h3, by rw [hK3.cell (p := ⟨b, o + k, none⟩) (cell_lt h4) (fun h => h)]; exact h4⟩, hR.bd⟩
  clear hpb hR
  go_wp2_with fail
  refine (sum_any pr n cap R w3 hR3 hn).mono ?_
  rintro e w4 ⟨⟨t, rfl, hLt, hl53⟩, hK4⟩
  obtain ⟨f, o, hf, hto, hrn, hcov, hfor⟩ := g3_run (b := byteAt (ba t)) (len := (ba t).size) hLt rfl (occ_ba t)
  have hsz : (ba t).size = t.length := rfl
  have hpar := hP sumsB 20000 p w1.heap.size (ba t) w4 f o (hS _ _ _ _ _ _ hps hK4) (by omega) (by rw [sumsB_read.1, sumsB_read.2]; exact hf) (by omega)
  have HK34 := hide (hK3.trans hK4)
  have htr := mtc_tr _ _ _ _ _ hf
  clear hK3 hK4 hps hR3 hf
  go_wp2_with fail
  refine hpar.mono ?_
  rintro e w5 ⟨⟨v, rfl, hA⟩, -, hK5⟩
  have HK : Hid (Kept (fun _ => False) w1 w5) := ((HK34.out.mono (fun _ _ h => h.elim)).trans hK5).mono (fun k hk h => by omega)
  clear HK34 hK5 hpar
  obtain ⟨g, cap2, fp, fn, fc, rfl, hT⟩ := hA.yes _ hto
  have hFor : For 0 0 (ba t).size (⟨0, 0, (ba t).size, 0⟩ :: o.tr) := by
    have := For.cons (r := 0) (Nat.le_refl 0) hfor (.nil (dp := 0) (Nat.le_refl (ba t).size))
    rw [List.append_nil] at this
    exact this
  have hLie := hFor.lies
  have hlv : lvs ((⟨0, 0, (ba t).size, 0⟩ : Nod) :: o.tr) = lvs o.tr := by unfold lvs; rw [List.filter_cons_of_neg (by simp)]
  rw [← hlv] at hcov
  have hd1 : ∀ i, 0 < i → i < ((⟨0, 0, (ba t).size, 0⟩ : Nod) :: o.tr).length → 1 ≤ (gN ((⟨0, 0, (ba t).size, 0⟩ : Nod) :: o.tr) i).dep := fun i h3 h4 => by
    obtain ⟨x, rfl⟩ : ∃ x, i = x + 1 := ⟨i - 1, by omega⟩
    rw [gN_cons_succ]
    exact (hfor.lies x (by simpa using h4)).low
  have hd2 : ∀ i, i < ((⟨0, 0, (ba t).size, 0⟩ : Nod) :: o.tr).length → (gN ((⟨0, 0, (ba t).size, 0⟩ : Nod) :: o.tr) i).dep ≤ i := fun i => by
    induction i with
    | zero => intro h3; rw [gN_zero]; exact Nat.le_refl _
    | succ x ih =>
      intro h3
      have h4 := ih (by omega)
      have h5 := (hLie (x + 1) h3).next (by omega)
      rw [Nat.add_sub_cancel] at h5
      omega
  have hLlen : ((⟨0, 0, (ba t).size, 0⟩ : Nod) :: o.tr).length = o.tr.length + 1 := rfl
  obtain ⟨c0, c1, c2, c3⟩ := hT.at_ 0 (by simp)
  rw [gN_zero] at c0 c1 c2 c3
  dsimp only at c0 c1 c2 c3
  have hgl := cell_lt c0
  have hne : g ≠ w5.heap.size := by dsimp only at hgl; omega
  have hlies : ∀ W : World, (∀ q, W.cell? ⟨g, q, none⟩ = w5.cell? ⟨g, q, none⟩) → Calls Tryz.prog 25 #[.slice (some ⟨g, 0, none⟩) (o.tr.length + 1) cap2, .int .i64 ((ba t).size : Int)] W fun e w' => e = .returned (.bool true) ∧ ∃ n, w' = W.drewN n := fun W hW =>
    lies_any g (ba t).size cap2 ((⟨0, 0, (ba t).size, 0⟩ : Nod) :: o.tr) W ⟨fun k hk => by rw [hW, hW, hW, hW]; exact hT.at_ k hk⟩ (by rw [hLlen]; omega) (by simp) (by rw [hsz]; omega) hd1 (fun i hi => by have := hd2 i hi; rw [hLlen] at hi; omega) hLie
  have hleaves : ∀ W : World, (∀ q, W.cell? ⟨g, q, none⟩ = w5.cell? ⟨g, q, none⟩) → Calls Tryz.prog 26 #[.slice (some ⟨g, 0, none⟩) (o.tr.length + 1) cap2, .string (ba t)] W fun e w' => e = .returned (.bool true) ∧ ∃ n, w' = W.drewN n := fun W hW =>
    leaves_any g cap2 ((⟨0, 0, (ba t).size, 0⟩ : Nod) :: o.tr) (ba t) W ⟨fun k hk => by rw [hW, hW, hW, hW]; exact hT.at_ k hk⟩ (by rw [hLlen]; omega) (by rw [hsz]; omega) hcov
  have HLI := hide hlies
  have HLE := hide hleaves
  have hoL : o.tr.length ≤ 1000 := by omega
  have hs60 : (ba t).size ≤ 60 := by rw [hsz]; omega
  generalize farI o.ev = fr
  clear hlies hleaves hd1 hd2 hLlen hLie hFor hfor hcov hlv hT hA hto hrn htr hsz hLt hl53
  generalize o.tr.length = ol at *
  generalize ba t = T at *
  go_wp2_with fail
  refine (HLI.out _ ?_).mono ?_
  · intro q
    exact World.cell?_alloc_lt _ _ _ hgl
  rintro e w6 ⟨rfl, n6, rfl⟩
  go_wp2_with fail
  refine (HLE.out _ ?_).mono ?_
  · intro q
    exact World.cell?_alloc_lt _ _ _ hgl
  rintro e w7 ⟨rfl, n7, rfl⟩
  go_wp2
  go_ret
  exact ⟨rfl, (HK.out.alloc _).drewN _⟩
end Go.Proofs.YtagklnaaoclmhaaGreatDoor
