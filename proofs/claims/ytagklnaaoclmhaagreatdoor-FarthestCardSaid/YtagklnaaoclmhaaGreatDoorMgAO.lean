import Derived.Test.YtagklnaaoclmhaaGreatDoorMgAN
set_option linter.unusedSimpArgs false
set_option linter.unusedVariables false
namespace Go.Proofs.YtagklnaaoclmhaaGreatDoor
open Go.RowKit

/-- Eight sets of rules. -/
def mat (M : Nat → Nat → Bool) : Array Value := ((List.range 64).map (fun q => Value.bool (M (q / 8) (q % 8)))).toArray
def stR (M : Nat → Nat → Bool) (i : Nat) (R : Nat → Bool) (a b : Nat) : Bool := if a = i then R b else M a b
def stB (R : Nat → Bool) (k : Nat) (v : Bool) (b : Nat) : Bool := if b = k then v else R b

theorem mat_size (M : Nat → Nat → Bool) : (mat M).size = 64 := by simp [mat]
theorem mat_get {M : Nat → Nat → Bool} {i j : Nat} (hi : i < 8) (hj : j < 8) : (mat M)[i * 8 + j]? = some (.bool (M i j)) := by
  unfold mat
  rw [List.getElem?_toArray, List.getElem?_map, List.getElem?_range (by omega)]
  have h1 : (i * 8 + j) / 8 = i := by omega
  have h2 : (i * 8 + j) % 8 = j := by omega
  simp [h1, h2]
theorem mat_congr {M M' : Nat → Nat → Bool} (h : ∀ a b, a < 8 → b < 8 → M a b = M' a b) : mat M = mat M' := by
  unfold mat
  congr 1
  apply List.map_congr_left
  intro q hq
  have := List.mem_range.1 hq
  rw [h _ _ (by omega) (by omega)]
theorem mat_set {M : Nat → Nat → Bool} {i j : Nat} (hi : i < 8) (hj : j < 8) (v : Bool) : (mat M).setIfInBounds (i * 8 + j) (.bool v) = mat (stR M i (stB (M i) j v)) := by
  apply Array.ext_getElem?
  intro q
  rw [Array.getElem?_setIfInBounds]
  by_cases hq : q < 64
  · obtain ⟨a, b, ha, hb, rfl⟩ : ∃ a b, a < 8 ∧ b < 8 ∧ q = a * 8 + b := ⟨q / 8, q % 8, by omega, by omega, by omega⟩
    rw [mat_get ha hb, mat_get ha hb, mat_size]
    by_cases he : i * 8 + j = a * 8 + b
    · have h1 : a = i := by omega
      have h2 : b = j := by omega
      subst h1 h2
      rw [if_pos rfl, if_pos (by omega)]
      simp [stR, stB]
    · rw [if_neg he]
      unfold stR stB
      by_cases ha' : a = i
      · subst ha'; rw [if_pos rfl, if_neg (by omega)]
      · rw [if_neg ha']
  · rw [if_neg (by omega), Array.getElem?_eq_none (by rw [mat_size]; omega), Array.getElem?_eq_none (by rw [mat_size]; omega)]
theorem stR_stR (M : Nat → Nat → Bool) (i : Nat) (R R' : Nat → Bool) : stR (stR M i R) i R' = stR M i R' := by
  funext a b
  unfold stR
  split
  · rfl
  · rfl
theorem stR_at (M : Nat → Nat → Bool) (i : Nat) (R : Nat → Bool) : stR M i R i = R := by
  funext b; simp [stR]

theorem matcell {w : World} {k i j : Nat} {M : Nat → Nat → Bool} (h : w.heap[k]? = some (.cells (mat M) 207)) (hi : i < 8) (hj : j < 8) : w.cell? ⟨k, i * 8 + j, none⟩ = some (.bool (M i j)) := by
  simp only [World.cell?, h]; exact mat_get hi hj
theorem matfrozen {w : World} {k o : Nat} {M : Nat → Nat → Bool} (h : w.heap[k]? = some (.cells (mat M) 207)) : w.frozen? ⟨k, o, none⟩ = false := by
  simp [World.frozen?, h]
theorem matset {w : World} {k i j : Nat} {M : Nat → Nat → Bool} (h : w.heap[k]? = some (.cells (mat M) 207)) (hi : i < 8) (hj : j < 8) (v : Bool) : (w.setCell ⟨k, i * 8 + j, none⟩ (.bool v)).heap[k]? = some (.cells (mat (stR M i (stB (M i) j v))) 207) := by
  rw [heap_set_at h, mat_set hi hj]

theorem index8 (T : Nat → Bool) (k : Nat) (hk : k < 8) (W : World) : (Instr.index 205 (.agg (bl8 T)) (.int .i64 (k : Int))).run Tryz.prog W = .ok (.bool (T k)) W := by
  obtain ⟨i0, hi, hz0, hz1, hz2⟩ := info_parts info4
  have hs : (sizeOf 4).run Tryz.prog W = .ok 1 W := by simp [sizeOf, typeInfo, hi, hz1]
  simp [Instr.index, run_underlying Tryz.underlying205, asIntOf, go_sem, hs]
  rw [if_pos hk, bl8_get hk]
  rfl

/-- The union up to a place. -/
def unB (R T : Nat → Bool) (k : Nat) (b : Nat) : Bool := if b < k then R b || T b else R b
theorem unB_step (R T : Nat → Bool) (k : Nat) : stB (unB R T k) k (R k || T k) = unB R T (k + 1) := by
  funext b
  unfold stB unB
  by_cases h : b = k
  · subst h; rw [if_pos rfl, if_pos (by omega)]
  · rw [if_neg h]
    by_cases h2 : b < k
    · rw [if_pos h2, if_pos (by omega)]
    · rw [if_neg h2, if_neg (by omega)]

set_option maxRecDepth 100000 in
set_option maxHeartbeats 3200000 in
theorem add_code (lb i : Nat) (M : Nat → Nat → Bool) (R T : Nat → Bool) (w : World) (hi : i < 8) (hL : w.heap[lb]? = some (.cells (mat (stR M i R)) 207)) :
    Calls Tryz.prog 147 #[.pointer (some ⟨lb, i * 8, none⟩), .agg (bl8 T)] w fun e w' => e = .returned (.tuple #[]) ∧ w'.heap[lb]? = some (.cells (mat (stR M i (fun b => R b || T b))) 207) ∧ Kept (· = lb) w w' := by
  have hll := objAt_lt (show objAt w lb = _ from hL)
  unfold bl8
  go_enter Tryz.func147, Tryz.ntmps147
  go_wp2
  go_loopg [7] 8 (fun n v wx => ∃ k : Nat, Hid (k + n = 8) ∧ v = .int .i64 k ∧ Hid (wx.heap[lb]? = some (.cells (mat (stR M i (unB R T k))) 207)) ∧ Kept (· = lb) w wx)
  case atStart =>
    refine ⟨0, rfl, rfl, ?_, (Kept.refl _ w).alloc _⟩
    unfold Hid
    rw [Below.heap_alloc _ _ _ hll, hL, show unB R T 0 = R from by funext b; simp [unB]]
  case round =>
    obtain ⟨k, hkn, rfl, HL, hK⟩ := hrel
    obtain ⟨m, hm⟩ : ∃ m, m = gk := ⟨gk, rfl⟩
    subst hm
    by_cases hk : k < 8
    · have hc := matcell HL.out hi hk
      have hf := matfrozen (o := i * 8 + k) HL.out
      have HS := hide (fun v => matset HL.out hi hk v)
      rw [stR_at] at hc
      rw [show unB R T k k = R k from by simp [unB]] at hc
      have HU := hide (unB_step R T k)
      have hk' : (k : Int) < 8 := by omega
      have hk0 : (0 : Int) ≤ (k : Int) := by omega
      have hix := index8 T k hk
      unfold bl8 at hix
      have HC := hide (show ∀ v, v = (R k || T k) → (wr.setCell ⟨lb, i * 8 + k, none⟩ (.bool v)).heap[lb]? = some (.cells (mat (stR M i (unB R T (k + 1)))) 207) from fun v hv => by
        rw [HS.out v, stR_stR, stR_at, hv, HU.out])
      clear HS HU HL
      generalize R k = rk at *
      generalize T k = tk' at *
      cases rk
      · go_wp2
        go_region
        all_goals
          go_wp2
          go_roundg (m - 1)
          case measure => have := hkn.out; omega
          case rel => exact ⟨k + 1, by have := hkn.out; unfold Hid; omega, by go_num, HC.out tk' (by simp), (hK.setCell (p := ⟨lb, i * 8 + k, none⟩) (fun _ => rfl) _).drew⟩
      · go_wp2
        go_region
        all_goals
          go_wp2
          go_roundg (m - 1)
          case measure => have := hkn.out; omega
          case rel => exact ⟨k + 1, by have := hkn.out; unfold Hid; omega, by go_num, HC.out true (by simp), (hK.setCell (p := ⟨lb, i * 8 + k, none⟩) (fun _ => rfl) _).drew⟩
    · have hk8 : k = 8 := by have := hkn.out; omega
      subst hk8
      go_wp2
      go_end0
      refine ⟨rfl, ?_, hK⟩
      rw [HL.out]
      have hmm : mat (stR M i (unB R T 8)) = mat (stR M i (fun b => R b || T b)) := mat_congr (fun a b _ hb => by
        unfold stR unB
        rw [if_pos hb])
      rw [hmm]
end Go.Proofs.YtagklnaaoclmhaaGreatDoor

namespace Go.Proofs.YtagklnaaoclmhaaGreatDoor
open Go.RowKit

def rw8 (W : List Bool) (b : Nat) : Bool := W.getD b false
theorem rw8_set {W : List Bool} {r : Nat} (h : r < W.length) : stB (rw8 W) r true = rw8 (W.set r true) := by
  funext b
  unfold stB rw8
  by_cases hb : b = r
  · subst hb; rw [if_pos rfl, getD_set_same h]
  · rw [if_neg hb, getD_set_ne hb]
theorem drop_cons8 {l : List Nat} {q : Nat} (h : q < l.length) : l.drop q = l.getD q 0 :: l.drop (q + 1) := by
  rw [List.drop_eq_getElem_cons h]; simp [List.getD, List.getElem?_eq_getElem h]

def AbSaid (base gb : Nat) (rv : Value) (P : List Nat) (ρ : Nat → Int) (rs : List Rl) (ns : List Nd) (S : Nat → Bool) (f : Nat) : Prop := ∀ (p i lb : Nat) (M : Nat → Nat → Bool) (W : List Bool) (w : World), p < f → p < ns.length → i < 8 → W.length = 8 → Gm w base gb rv P ρ rs ns → w.heap[lb]? = some (.cells (mat (stR M i (rw8 W))) 207) →
  Calls Tryz.prog 146 #[.pointer (some ⟨P.getD p 0, 0, none⟩), .pointer (some ⟨lb, i * 8, none⟩), .agg (bl8 S)] w fun e w' => e = .returned (.tuple #[]) ∧ w'.heap[lb]? = some (.cells (mat (stR M i (rw8 (aB rs ns S f p W)))) 207) ∧ Kept (· = lb) w w'

theorem Gm.mat {w w' : World} {base gb lb : Nat} {rv : Value} {P : List Nat} {ρ : Nat → Int} {rs : List Rl} {ns : List Nd} {c : Array Value} (h : Gm w base gb rv P ρ rs ns) (hL : w.heap[lb]? = some (.cells c 207)) (hk : Kept (· = lb) w w') : Gm w' base gb rv P ρ rs ns :=
  h.kept hk (fun j c' t e ho => by
    have e' : j = lb := e
    rw [e', show objAt w lb = _ from hL] at ho
    simp at ho
    rw [← ho.2]; decide)

/-- While addBegins goes over the parts. -/
structure AbI (base gb : Nat) (rv : Value) (P : List Nat) (ρ : Nat → Int) (rs : List Rl) (ns : List Nd) (S : Nat → Bool) (i lb : Nat) (M : Nat → Nat → Bool) (w0 : World) (W : List Bool) (wx : World) : Prop where
  len : W.length = 8
  gm : Gm wx base gb rv P ρ rs ns
  row : wx.heap[lb]? = some (.cells (Go.Proofs.YtagklnaaoclmhaaGreatDoor.mat (stR M i (rw8 W))) 207)
  box : wx.heap[w0.heap.size]? = some (.cells (bl8 S) 205)
  kept : Kept (· = lb) w0 wx
theorem AbI.turn {base gb i lb : Nat} {rv : Value} {P : List Nat} {ρ : Nat → Int} {rs : List Rl} {ns : List Nd} {S : Nat → Bool} {M : Nat → Nat → Bool} {w0 wx w' : World} {W W' : List Bool} (h : AbI base gb rv P ρ rs ns S i lb M w0 W wx) (hl : W'.length = 8) (hr : w'.heap[lb]? = some (.cells (Go.Proofs.YtagklnaaoclmhaaGreatDoor.mat (stR M i (rw8 W'))) 207)) (hk : Kept (· = lb) wx w') (hlb : lb ≠ w0.heap.size) : AbI base gb rv P ρ rs ns S i lb M w0 W' w' :=
  ⟨hl, h.gm.mat h.row hk, hr, by rw [hk.block _ (objAt_lt (show objAt wx _ = _ from h.box)) (fun e => hlb e.symm)]; exact h.box, h.kept.trans hk⟩

set_option maxRecDepth 100000 in
set_option maxHeartbeats 6400000 in
theorem addBegins_step {base gb : Nat} {rv : Value} {P : List Nat} {ρ : Nat → Int} {rs : List Rl} {ns : List Nd} {S : Nat → Bool} {f : Nat} (hW : WfR ns rs) (hN : ∀ N ∈ ns, N.kind = 3 → (fndI rs N.name).isSome = true) (hρ : ∀ i, i < ns.length → (nth ns i).kind = 3 → ρ i = (ruI rs (nth ns i) : Int)) (hn : ns.length ≤ 5000) (hsl : ∀ i, i < ns.length → (nth ns i).subs.length ≤ 9223372036854775807) (IH : AbSaid base gb rv P ρ rs ns S f) : AbSaid base gb rv P ρ rs ns S (f + 1) := by
  intro p i lb M W w hf hp hi hWl hG hL
  obtain ⟨z, vR, vP, hpt, _, _, _, hPs, _⟩ := hG.ar.part p hp
  have hok := nth_ok hW.wf hp
  have hρi := hρ p hp
  have hru := fun h => ruI_lt hN hp h
  have hsl' := hsl p hp
  rw [← nth_get hp] at hpt hPs
  have hIE := fun (j : Nat) (X : World) (hj : j < ns.length) (h : Gm X base gb rv P ρ rs ns) => isEmpty_code (S := S) hW hN hρ hn hsl ns.length j X hj hj h
  obtain ⟨FIN, hFIN⟩ : ∃ FIN, aB rs ns S (f + 1) p W = FIN := ⟨_, rfl⟩
  have hF2 := hFIN
  rw [aB] at hF2
  rw [hFIN]
  obtain ⟨p0, p1, p4, p6⟩ := part_cells hpt
  have hll := objAt_lt (show objAt w lb = _ from hL)
  have hpl := objAt_lt (show objAt w _ = _ from hpt)
  generalize hNN : nth ns p = N at *
  generalize P.getD p 0 = pi at *
  clear hFIN hNN hρ
  have hne1 : pi ≠ w.heap.size := by omega
  have hne2 : lb ≠ w.heap.size := by omega
  have hne3 : pi ≠ lb := fun e => by
    subst e
    rw [hpt] at hL
    simp at hL
  -- the row behind the first step
  obtain ⟨pv, cv, hvP⟩ := ownsRow_form hPs
  have hkind := hok.kind
  have hkc0 : (kcode N.kind == 0) = decide (N.kind = 3) := by
    have : ∀ k, k ≤ 10 → (kcode k == 0) = decide (k = 3) := by decide
    exact this _ hkind
  have hkc5 : (kcode N.kind == 5) = decide (N.kind = 5) := by
    have : ∀ k, k ≤ 10 → (kcode k == 5) = decide (k = 5) := by decide
    exact this _ hkind
  have hIEq : ∀ (j pj : Nat) (X : World), j < ns.length → P.getD j 0 = pj → Gm X base gb rv P ρ rs ns → Calls Tryz.prog 145 #[.pointer (some ⟨pj, 0, none⟩), .agg (bl8 S)] X fun e w' => e = .returned (.bool (cE rs ns S ns.length j)) ∧ Kept (fun _ => False) X w' := fun j pj X hj hpj h => by rw [← hpj]; exact hIE j X hj h
  have HPS := hide (fun (X : World) (hK : Kept (· = lb) w X) => own_kept hPs hK (fun j hj e => by
    obtain ⟨c, hc⟩ := ownsRow_obj hPs hj
    have e' : j = lb := e
    rw [e', show objAt w lb = _ from hL] at hc
    simp at hc))
  have HLOW := hide (fun (k : Nat) (hk : k < N.subs.length) => hok.low _ (getD_mem hk))
  have IHH := hide IH
  have HPC := hide (fun (X : World) (hK : Kept (· = lb) w X) => (hK.cell (p := ⟨pi, 0, none⟩) hpl hne3).trans p0)
  have HK5 := hide (fun h : N.kind = 5 => (by rw [hkc5]; simpa using h : (kcode N.kind == 5) = true))
  have HN5 := hide (fun h : ¬ N.kind = 5 => (by rw [hkc5]; simpa using h : (kcode N.kind == 5) = false))
  have HBX := hide (fun (W' : List Bool) (wx : World) (h : AbI base gb rv P ρ rs ns S i lb M w W' wx) => HPC.out wx h.kept)
  have hA0 : AbI base gb rv P ρ rs ns S i lb M w W (w.alloc (.cells (bl8 S) 205)) := ⟨hWl, hG.same ((Kept.refl _ w).alloc _), by rw [Below.heap_alloc _ _ _ hll]; exact hL, heap_alloc_new _ _, (Kept.refl _ w).alloc _⟩
  have HIE := hide hIEq
  clear hIEq hIE IH hkc5
  subst hvP
  by_cases h3 : N.kind = 3
  · have q0 : (kcode N.kind == 0) = true := by rw [hkc0]; simpa using h3
    rw [if_pos h3] at hF2
    have h8 : ruI rs N < 8 := by have := hru h3; have := hW.len; omega
    rw [hρi h3] at p1
    have hL1 := matset hL hi h8 true
    rw [stR_stR, stR_at, rw8_set (by omega)] at hL1
    have hc := matcell hL hi h8
    have hfz := matfrozen (o := i * 8 + ruI rs N) hL
    have hk1 : Kept (· = lb) w (w.setCell ⟨lb, i * 8 + ruI rs N, none⟩ (.bool true)) := (Kept.refl (· = lb) w).setCell (p := ⟨lb, i * 8 + ruI rs N, none⟩) (fun _ => rfl) _
    have hs1 : (w.setCell ⟨lb, i * 8 + ruI rs N, none⟩ (.bool true)).heap.size = w.heap.size := by simp [World.setCell]
    have hA1 : AbI base gb rv P ρ rs ns S i lb M w (W.set (ruI rs N) true) ((w.setCell ⟨lb, i * 8 + ruI rs N, none⟩ (.bool true)).alloc (.cells (bl8 S) 205)) := ⟨by simp [hWl], (hG.mat hL hk1).same ((Kept.refl _ _).alloc _), by rw [Below.heap_alloc _ _ _ (by omega)]; exact hL1, by rw [← hs1]; exact heap_alloc_new _ _, hk1.alloc _⟩
    have HA1 := hide hA1
    have HF0 : Hid (aL (aB rs ns S f) (cE rs ns S ns.length) N.kind (N.subs.drop 0) (W.set (ruI rs N) true) = FIN) := hF2
    clear hA1 hL1 hF2 hA0 hru hρi h3 hkc0 hk1 hs1
    generalize ruI rs N = r at *
    have h8' : (r : Int) < 8 := by omega
    unfold bl8 at HA1 ⊢
    generalize hkcN : kcode N.kind = kc at *
    clear hkcN
    go_enter Tryz.func146, Tryz.ntmps146
    go_wp2
    go_region
    all_goals
      go_wp2
      go_loopg [25] N.subs.length (fun n v wx => ∃ (k : Nat) (W' : List Bool), Hid (k + n = N.subs.length) ∧ v = .int .i64 k ∧ AbI base gb rv P ρ rs ns S i lb M w W' wx ∧ Hid (aL (aB rs ns S f) (cE rs ns S ns.length) N.kind (N.subs.drop k) W' = FIN))
      case atStart => exact ⟨0, _, Nat.zero_add _, rfl, (HA1.out.turn HA1.out.len HA1.out.row ((Kept.refl (· = lb) _).drew) hne2), HF0.out⟩
      case round =>
        obtain ⟨k, W', hkn, rfl, hA, HF⟩ := hrel
        obtain ⟨m, hm⟩ : ∃ m, m = gk := ⟨gk, rfl⟩
        subst hm
        have hb0 := HBX.out _ _ hA
        by_cases hlt : k < N.subs.length
        · obtain ⟨sb, cap', hrv, r0⟩ := ptr_cell (HPS.out wr hA.kept) hlt
          simp only [Value.slice.injEq] at hrv
          obtain ⟨hp', _, hcap⟩ := hrv
          subst hp' hcap
          have hjl := HLOW.out k hlt
          have h1 := HF.out
          rw [drop_cons8 hlt, aL] at h1
          have H1 := hide h1
          clear h1 HF
          generalize N.subs.getD k 0 = j at *
          have hab := IHH.out j i lb M W' wr (by omega) (by omega) hi hA.len hA.gm hA.row
          have hlen7 : (aB rs ns S f j W').length = 8 := by rw [aB_len, hA.len]
          generalize aB rs ns S f j W' = W7 at *
          generalize hpj : P.getD j 0 = pj at *
          obtain ⟨b0, b1, b2, b3, b4, b5, b6, b7⟩ := cells8 hA.box
          unfold bl8 at hab
          go_wp2_with fail
          refine hab.mono ?_
          rintro e w7 ⟨rfl, hr7, hK7⟩
          have hA7 := hA.turn hlen7 hr7 hK7 hne2
          have hpc7 := HPC.out w7 hA7.kept
          clear hab
          by_cases h5 : N.kind = 5
          · have q5 := HK5.out h5
            have hie := HIE.out j pj w7 (by omega) hpj hA7.gm
            have hA8 := fun (X : World) (hK : Kept (fun _ => False) w7 X) => hA7.turn hlen7 (by rw [hK.block _ (objAt_lt (show objAt w7 _ = _ from hr7)) (fun x => x)]; exact hr7) (hK.mono (fun _ _ x => x.elim)) hne2
            obtain ⟨d0, d1, d2, d3, d4, d5, d6, d7⟩ := cells8 hA7.box
            have H2 := hide (fun (h : cE rs ns S ns.length j = false) => by
              have := H1.out
              rw [if_pos ⟨h5, h⟩] at this
              exact this : cE rs ns S ns.length j = false → W7 = FIN)
            have H3 := hide (fun (h : cE rs ns S ns.length j = true) => by
              have := H1.out
              rw [if_neg (by rw [h]; simp)] at this
              exact this : cE rs ns S ns.length j = true → aL (aB rs ns S f) (cE rs ns S ns.length) N.kind (N.subs.drop (k + 1)) W7 = FIN)
            clear H1 h5
            generalize hce : cE rs ns S ns.length j = ce at *
            unfold bl8 at hie
            go_wp2_with fail
            refine hie.mono ?_
            rintro e w8 ⟨rfl, hK8⟩
            have hA9 := hA8 w8 hK8
            cases ce
            · have H4 := hide (H2.out rfl)
              clear H2 H3
              go_wp2
              refine bodyPost_ret (v := .tuple #[]) (results_none rfl _ _ _) rfl ?_
              exact ⟨rfl, by rw [← H4.out]; exact hA9.row, hA9.kept⟩
            · have H4 := hide (H3.out rfl)
              clear H2 H3
              go_wp2
              go_roundg (m - 1)
              case measure => have := hkn.out; omega
              case rel => exact ⟨k + 1, W7, by have := hkn.out; unfold Hid; omega, by go_num, hA9, H4.out⟩
          · have q5 := HN5.out h5
            have H4 : Hid (aL (aB rs ns S f) (cE rs ns S ns.length) N.kind (N.subs.drop (k + 1)) W7 = FIN) := by
              have := H1.out
              rw [if_neg (fun x => h5 x.1)] at this
              exact this
            clear H1 h5
            go_wp2
            go_roundg (m - 1)
            case measure => have := hkn.out; omega
            case rel => exact ⟨k + 1, W7, by have := hkn.out; unfold Hid; omega, by go_num, hA7, H4.out⟩
        · have H4 : Hid (W' = FIN) := by
            have := HF.out
            rw [List.drop_of_length_le (by omega)] at this
            exact this
          clear HF
          go_wp2
          go_end0
          exact ⟨rfl, by rw [← H4.out]; exact hA.row, hA.kept⟩
  · have q0 : (kcode N.kind == 0) = false := by rw [hkc0]; simpa using h3
    rw [if_neg h3] at hF2
    have HA1 := hide hA0
    have HF0 : Hid (aL (aB rs ns S f) (cE rs ns S ns.length) N.kind (N.subs.drop 0) W = FIN) := hF2
    clear hF2 hA0 hru hρi h3 hkc0
    unfold bl8 at HA1 ⊢
    generalize hkcN : kcode N.kind = kc at *
    clear hkcN
    go_enter Tryz.func146, Tryz.ntmps146
    go_wp2
    go_loopg [25] N.subs.length (fun n v wx => ∃ (k : Nat) (W' : List Bool), Hid (k + n = N.subs.length) ∧ v = .int .i64 k ∧ AbI base gb rv P ρ rs ns S i lb M w W' wx ∧ Hid (aL (aB rs ns S f) (cE rs ns S ns.length) N.kind (N.subs.drop k) W' = FIN))
    case atStart => exact ⟨0, _, Nat.zero_add _, rfl, HA1.out, HF0.out⟩
    case round =>
      obtain ⟨k, W', hkn, rfl, hA, HF⟩ := hrel
      obtain ⟨m, hm⟩ : ∃ m, m = gk := ⟨gk, rfl⟩
      subst hm
      have hb0 := HBX.out _ _ hA
      by_cases hlt : k < N.subs.length
      · obtain ⟨sb, cap', hrv, r0⟩ := ptr_cell (HPS.out wr hA.kept) hlt
        simp only [Value.slice.injEq] at hrv
        obtain ⟨hp', _, hcap⟩ := hrv
        subst hp' hcap
        have hjl := HLOW.out k hlt
        have h1 := HF.out
        rw [drop_cons8 hlt, aL] at h1
        have H1 := hide h1
        clear h1 HF
        generalize N.subs.getD k 0 = j at *
        have hab := IHH.out j i lb M W' wr (by omega) (by omega) hi hA.len hA.gm hA.row
        have hlen7 : (aB rs ns S f j W').length = 8 := by rw [aB_len, hA.len]
        generalize aB rs ns S f j W' = W7 at *
        generalize hpj : P.getD j 0 = pj at *
        obtain ⟨b0, b1, b2, b3, b4, b5, b6, b7⟩ := cells8 hA.box
        unfold bl8 at hab
        go_wp2_with fail
        refine hab.mono ?_
        rintro e w7 ⟨rfl, hr7, hK7⟩
        have hA7 := hA.turn hlen7 hr7 hK7 hne2
        have hpc7 := HPC.out w7 hA7.kept
        clear hab
        by_cases h5 : N.kind = 5
        · have q5 := HK5.out h5
          have hie := HIE.out j pj w7 (by omega) hpj hA7.gm
          have hA8 := fun (X : World) (hK : Kept (fun _ => False) w7 X) => hA7.turn hlen7 (by rw [hK.block _ (objAt_lt (show objAt w7 _ = _ from hr7)) (fun x => x)]; exact hr7) (hK.mono (fun _ _ x => x.elim)) hne2
          obtain ⟨d0, d1, d2, d3, d4, d5, d6, d7⟩ := cells8 hA7.box
          have H2 := hide (fun (h : cE rs ns S ns.length j = false) => by
            have := H1.out
            rw [if_pos ⟨h5, h⟩] at this
            exact this : cE rs ns S ns.length j = false → W7 = FIN)
          have H3 := hide (fun (h : cE rs ns S ns.length j = true) => by
            have := H1.out
            rw [if_neg (by rw [h]; simp)] at this
            exact this : cE rs ns S ns.length j = true → aL (aB rs ns S f) (cE rs ns S ns.length) N.kind (N.subs.drop (k + 1)) W7 = FIN)
          clear H1 h5
          generalize hce : cE rs ns S ns.length j = ce at *
          unfold bl8 at hie
          go_wp2_with fail
          refine hie.mono ?_
          rintro e w8 ⟨rfl, hK8⟩
          have hA9 := hA8 w8 hK8
          cases ce
          · have H4 := hide (H2.out rfl)
            clear H2 H3
            go_wp2
            refine bodyPost_ret (v := .tuple #[]) (results_none rfl _ _ _) rfl ?_
            exact ⟨rfl, by rw [← H4.out]; exact hA9.row, hA9.kept⟩
          · have H4 := hide (H3.out rfl)
            clear H2 H3
            go_wp2
            go_roundg (m - 1)
            case measure => have := hkn.out; omega
            case rel => exact ⟨k + 1, W7, by have := hkn.out; unfold Hid; omega, by go_num, hA9, H4.out⟩
        · have q5 := HN5.out h5
          have H4 : Hid (aL (aB rs ns S f) (cE rs ns S ns.length) N.kind (N.subs.drop (k + 1)) W7 = FIN) := by
            have := H1.out
            rw [if_neg (fun x => h5 x.1)] at this
            exact this
          clear H1 h5
          go_wp2
          go_roundg (m - 1)
          case measure => have := hkn.out; omega
          case rel => exact ⟨k + 1, W7, by have := hkn.out; unfold Hid; omega, by go_num, hA7, H4.out⟩
      · have H4 : Hid (W' = FIN) := by
          have := HF.out
          rw [List.drop_of_length_le (by omega)] at this
          exact this
        clear HF
        go_wp2
        go_end0
        exact ⟨rfl, by rw [← H4.out]; exact hA.row, hA.kept⟩

/-- addBegins. -/
theorem addBegins_code {base gb : Nat} {rv : Value} {P : List Nat} {ρ : Nat → Int} {rs : List Rl} {ns : List Nd} {S : Nat → Bool} (hW : WfR ns rs) (hN : ∀ N ∈ ns, N.kind = 3 → (fndI rs N.name).isSome = true) (hρ : ∀ i, i < ns.length → (nth ns i).kind = 3 → ρ i = (ruI rs (nth ns i) : Int)) (hn : ns.length ≤ 5000) (hsl : ∀ i, i < ns.length → (nth ns i).subs.length ≤ 9223372036854775807) : ∀ f, AbSaid base gb rv P ρ rs ns S f
  | 0 => fun p i lb M W w hf => absurd hf (by omega)
  | f + 1 => addBegins_step hW hN hρ hn hsl (addBegins_code hW hN hρ hn hsl f)
end Go.Proofs.YtagklnaaoclmhaaGreatDoor

namespace Go.Proofs.YtagklnaaoclmhaaGreatDoor
open Go.RowKit

def ReSaid (base gb : Nat) (rv : Value) (P : List Nat) (ρ : Nat → Int) (rs : List Rl) (ns : List Nd) (S : Nat → Bool) (f : Nat) : Prop := ∀ (i : Nat) (w : World), i < f → i < ns.length → Gm w base gb rv P ρ rs ns →
  Calls Tryz.prog 100 #[.pointer (some ⟨P.getD i 0, 0, none⟩), .agg (bl8 S)] w fun e w' => e = .returned (.bool (rE rs ns S f i)) ∧ Kept (fun _ => False) w w'

set_option maxRecDepth 100000 in
set_option maxHeartbeats 1600000 in
theorem re46 {base gb : Nat} {rv : Value} {P : List Nat} {ρ : Nat → Int} {rs : List Rl} {ns : List Nd} {S : Nat → Bool} {f : Nat} (IE : IeSaid base gb rv P ρ rs ns S ns.length) (IH : ReSaid base gb rv P ρ rs ns S f) (i ka kb : Nat) (rep : Bool) (w : World) (hf : i < f) (hi : i < ns.length) (hG : Gm w base gb rv P ρ rs ns) (ha : w.heap[ka]? = some (.cells #[.bool rep] 4)) (hk : w.heap[kb]? = some (.cells (bl8 S) 205)) :
    Calls Tryz.prog 149 #[.pointer (some ⟨P.getD i 0, 0, none⟩), .pointer (some ⟨ka, 0, none⟩), .pointer (some ⟨kb, 0, none⟩)] w fun e w' => e = .returned (.bool (rep && cE rs ns S ns.length i || rE rs ns S f i)) ∧ Kept (fun _ => False) w w' := by
  have hie := IE i w hi hi hG
  have hih := fun (X : World) (hK : Kept (fun _ => False) w X) => IH i X hf hi (hG.same hK)
  obtain ⟨c0, c1, c2, c3, c4, c5, c6, c7⟩ := cells8 hk
  have hca : w.cell? ⟨ka, 0, none⟩ = some (.bool rep) := by simp [World.cell?, ha]
  have hkb := objAt_lt (show objAt w kb = _ from hk)
  have HC := hide (fun (X : World) (hK : Kept (fun _ => False) w X) => cells8 (by rw [hK.block _ hkb (fun x => x)]; exact hk : X.heap[kb]? = some (.cells (bl8 S) 205)))
  unfold bl8 at hie hih
  generalize P.getD i 0 = pi at *
  generalize cE rs ns S ns.length i = ce at *
  generalize rE rs ns S f i = re at *
  clear IH IE hG ha
  cases rep
  · have hih0 := hih w (Kept.refl _ _)
    go_enter Tryz.func149, Tryz.ntmps149
    go_wp2_with fail
    refine hih0.mono ?_
    rintro e w1 ⟨rfl, hK⟩
    go_wp2
    go_ret
    exact ⟨by simp, hK⟩
  · go_enter Tryz.func149, Tryz.ntmps149
    go_wp2_with fail
    refine hie.mono ?_
    rintro e w1 ⟨rfl, hK⟩
    cases ce
    · obtain ⟨d0, d1, d2, d3, d4, d5, d6, d7⟩ := HC.out w1 hK
      have hih0 := hih w1 hK
      go_wp2_with fail
      refine hih0.mono ?_
      rintro e w2 ⟨rfl, hK2⟩
      go_wp2
      go_ret
      exact ⟨by simp, hK.trans hK2⟩
    · go_wp2
      go_ret
      exact ⟨by simp, hK⟩

set_option maxRecDepth 100000 in
set_option maxHeartbeats 6400000 in
theorem repeats_step {base gb : Nat} {rv : Value} {P : List Nat} {ρ : Nat → Int} {rs : List Rl} {ns : List Nd} {S : Nat → Bool} {f : Nat} (hW : WfR ns rs) (hsl : ∀ i, i < ns.length → (nth ns i).subs.length ≤ 9223372036854775807) (IE : IeSaid base gb rv P ρ rs ns S ns.length) (IH : ReSaid base gb rv P ρ rs ns S f) : ReSaid base gb rv P ρ rs ns S (f + 1) := by
  intro i w hf hi hG
  have hmf : ∀ (fn : Fn) (first cap : Array Value) (w : World), (Instr.makeFunc fn first cap).run Tryz.prog w = .ok (.func fn first cap) w := fun _ _ _ _ => rfl
  obtain ⟨z, vR, vP, hpt, _, _, _, hPs, _⟩ := hG.ar.part i hi
  have hok := nth_ok hW.wf hi
  have hsl' := hsl i hi
  rw [← nth_get hi] at hpt hPs
  obtain ⟨p0, p1, p4, p6⟩ := part_cells hpt
  rw [rE]
  generalize hNN : nth ns i = N at *
  generalize P.getD i 0 = pi at *
  have hpl := objAt_lt (show objAt w pi = _ from hpt)
  have hne1 : pi ≠ w.heap.size := by omega
  have hne2 : pi ≠ w.heap.size + 1 := by omega
  have hkind := hok.kind
  have hkc7 : (kcode N.kind == 7) = decide (N.kind = 7) := by
    have : ∀ k, k ≤ 10 → (kcode k == 7) = decide (k = 7) := by decide
    exact this _ hkind
  have hkc8 : (kcode N.kind == 8) = decide (N.kind = 8) := by
    have : ∀ k, k ≤ 10 → (kcode k == 8) = decide (k = 8) := by decide
    exact this _ hkind
  have hct : ∀ rep : Bool, Calls Tryz.prog 148 #[vP, .func (.func 149) #[] #[.pointer (some ⟨w.heap.size + 1, 0, none⟩), .pointer (some ⟨w.heap.size, 0, none⟩)]] ((w.alloc (.cells (bl8 S) 205)).alloc (.cells #[.bool rep] 4)) fun e w' => e = .returned (.bool (N.subs.any (fun j => rep && cE rs ns S ns.length j || rE rs ns S f j))) ∧ Kept (fun _ => False) ((w.alloc (.cells (bl8 S) 205)).alloc (.cells #[.bool rep] 4)) w' := by
    intro rep
    have hKw : Kept (fun _ => False) w ((w.alloc (.cells (bl8 S) 205)).alloc (.cells #[.bool rep] 4)) := ((Kept.refl _ w).alloc _).alloc _
    refine contains46 base vP P N.subs (fun j => rep && cE rs ns S ns.length j || rE rs ns S f j) (w.heap.size + 1) w.heap.size _ (own_kept hPs hKw (fun _ _ h => h)) hsl' (fun q hq wx hKx => ?_)
    have hlt := hok.low _ (getD_mem hq)
    refine re46 IE IH _ _ _ rep wx (by omega) (by omega) (hG.same (hKw.trans hKx)) ?_ ?_
    · rw [hKx.block _ (by simp) (fun h => h)]
      have := heap_alloc_new (w.alloc (.cells (bl8 S) 205)) (.cells #[.bool rep] 4)
      rw [show (w.alloc (.cells (bl8 S) 205)).heap.size = w.heap.size + 1 by simp] at this
      exact this
    · rw [hKx.block _ (by simp; omega) (fun h => h), Below.heap_alloc _ _ _ (by simp)]
      exact heap_alloc_new _ _
  have hKw : ∀ rep : Bool, Kept (fun _ => False) w ((w.alloc (.cells (bl8 S) 205)).alloc (.cells #[.bool rep] 4)) := fun rep => ((Kept.refl _ w).alloc _).alloc _
  obtain ⟨pv, cv, hvP⟩ := ownsRow_form hPs
  subst hvP
  unfold bl8 at *
  clear hPs hG IH IE hpt hNN
  by_cases h7 : N.kind = 7
  · have q7 : (kcode N.kind == 7) = true := by rw [hkc7]; simpa using h7
    rw [show decide (N.kind = 7 ∨ N.kind = 8) = true by simp [h7]]
    have hct1 := hct true
    have hK1 := hKw true
    generalize N.subs.any (fun j => true && cE rs ns S ns.length j || rE rs ns S f j) = gv at *
    generalize kcode N.kind = kc at *
    clear hct hKw hkc7 hkc8 h7
    go_enter Tryz.func100, Tryz.ntmps100
    go_wp2_with fail
    refine hct1.mono ?_
    rintro e w7 ⟨rfl, hK7⟩
    go_wp2
    go_ret
    exact ⟨rfl, hK1.trans hK7⟩
  · by_cases h8 : N.kind = 8
    · have q7 : (kcode N.kind == 7) = false := by rw [hkc7]; simpa using h7
      have q8 : (kcode N.kind == 8) = true := by rw [hkc8]; simpa using h8
      rw [show decide (N.kind = 7 ∨ N.kind = 8) = true by simp [h8]]
      have hct1 := hct true
      have hK1 := hKw true
      generalize N.subs.any (fun j => true && cE rs ns S ns.length j || rE rs ns S f j) = gv at *
      generalize kcode N.kind = kc at *
      clear hct hKw hkc7 hkc8 h7 h8
      go_enter Tryz.func100, Tryz.ntmps100
      go_wp2_with fail
      refine hct1.mono ?_
      rintro e w7 ⟨rfl, hK7⟩
      go_wp2
      go_ret
      exact ⟨rfl, hK1.trans hK7⟩
    · have q7 : (kcode N.kind == 7) = false := by rw [hkc7]; simpa using h7
      have q8 : (kcode N.kind == 8) = false := by rw [hkc8]; simpa using h8
      rw [show decide (N.kind = 7 ∨ N.kind = 8) = false by simp [h7, h8]]
      have hct1 := hct false
      have hK1 := hKw false
      generalize N.subs.any (fun j => false && cE rs ns S ns.length j || rE rs ns S f j) = gv at *
      generalize kcode N.kind = kc at *
      clear hct hKw hkc7 hkc8 h7 h8
      go_enter Tryz.func100, Tryz.ntmps100
      go_wp2_with fail
      refine hct1.mono ?_
      rintro e w7 ⟨rfl, hK7⟩
      go_wp2
      go_ret
      exact ⟨rfl, hK1.trans hK7⟩

/-- repeatsEmpty. -/
theorem repeats_said {base gb : Nat} {rv : Value} {P : List Nat} {ρ : Nat → Int} {rs : List Rl} {ns : List Nd} {S : Nat → Bool} (hW : WfR ns rs) (hsl : ∀ i, i < ns.length → (nth ns i).subs.length ≤ 9223372036854775807) (IE : IeSaid base gb rv P ρ rs ns S ns.length) : ∀ f, ReSaid base gb rv P ρ rs ns S f
  | 0 => fun i w hf => absurd hf (by omega)
  | f + 1 => repeats_step hW hsl IE (repeats_said hW hsl IE f)
end Go.Proofs.YtagklnaaoclmhaaGreatDoor
