import Derived.Test.YtagklnaaoclmhaaRefL
set_option linter.unusedSimpArgs false
set_option linter.unusedVariables false
namespace Go.Proofs.Ytagklnaaoclmhaa
open Go.RowKit

/-- The first rule of a name. -/
def fndI (rs : List Rl) (nm : List UInt8) : Option Nat := rs.findIdx? (fun r => r.name == nm)
def fnd (rs : List Rl) (nm : List UInt8) : Int := match fndI rs nm with | some i => (i : Int) | none => -1

theorem fndI_some {rs : List Rl} {nm : List UInt8} {k : Nat} (h : k < rs.length) (hk : rs[k].name = nm) (hj : ∀ j (h : j < rs.length), j < k → rs[j].name ≠ nm) : fndI rs nm = some k := by
  unfold fndI
  rw [List.findIdx?_eq_some_iff_getElem]
  exact ⟨h, by simp [hk], fun j hjk => by simpa using hj j (by omega) hjk⟩
theorem fndI_none {rs : List Rl} {nm : List UInt8} (hj : ∀ j (h : j < rs.length), rs[j].name ≠ nm) : fndI rs nm = none := by
  unfold fndI
  rw [List.findIdx?_eq_none_iff]
  intro x hx
  obtain ⟨i, hi, rfl⟩ := List.getElem_of_mem hx
  simpa using hj i hi
theorem fndI_lt {rs : List Rl} {nm : List UInt8} {k : Nat} (h : fndI rs nm = some k) : k < rs.length := by
  unfold fndI at h
  rw [List.findIdx?_eq_some_iff_getElem] at h
  exact h.1

theorem flat_get {α : Type} (f : α → List Value) (m : Nat) (hf : ∀ a, (f a).length = m) : ∀ (l : List α) (k j : Nat), j < m → (hk : k < l.length) → (l.flatMap f)[k * m + j]? = (f l[k])[j]?
  | [], k, j, _, hk => absurd hk (by simp)
  | a :: l, 0, j, hj, hk => by
    rw [List.flatMap_cons, Nat.zero_mul, Nat.zero_add, List.getElem?_append_left (by rw [hf]; exact hj)]
    rfl
  | a :: l, k + 1, j, hj, hk => by
    rw [List.flatMap_cons, List.getElem?_append_right (by rw [hf, Nat.add_mul]; omega), hf, show (k + 1) * m + j - m = k * m + j by rw [Nat.add_mul]; omega]
    rw [flat_get f m hf l k j hj (by simpa using hk)]
    rfl

/-- What is read of the rules. -/
theorem RulesAt.cells {w : World} {base : Nat} {rv : Value} {rs : List Rl} (h : RulesAt w base rv rs) {k : Nat} (hk : k < rs.length) :
    ∃ g cap, rv = .slice (some ⟨g, 0, none⟩) rs.length cap ∧ w.cell? ⟨g, k * 3, none⟩ = some (.string (ba rs[k].name)) ∧ w.cell? ⟨g, k * 3 + 1, none⟩ = some (.int .i64 (rs[k].at_ : Int)) ∧ w.cell? ⟨g, k * 3 + 2, none⟩ = some (.int .i64 (rs[k].is : Int)) := by
  unfold RulesAt at h
  obtain ⟨g, cap, hv, _, _⟩ := h.form (by omega)
  subst hv
  have hf : ∀ a : Rl, (rlCells a).length = 3 := fun _ => rfl
  refine ⟨g, cap, rfl, ?_, ?_, ?_⟩
  · rw [h.cellAt (k * 3) (by omega)]
    have := flat_get rlCells 3 hf rs k 0 (by omega) hk
    rw [Nat.add_zero] at this
    rw [this]; rfl
  · rw [h.cellAt (k * 3 + 1) (by omega), flat_get rlCells 3 hf rs k 1 (by omega) hk]; rfl
  · rw [h.cellAt (k * 3 + 2) (by omega), flat_get rlCells 3 hf rs k 2 (by omega) hk]; rfl

set_option maxRecDepth 100000 in
set_option maxHeartbeats 1600000 in
theorem find_any (b : Nat) (s : ByteArray) (base : Nat) (nv rv : Value) (g : Sc) (rs : List Rl) (nm : List UInt8) (w : World) (hG : Gis w b s nv rv g) (hRu : RulesAt w base rv rs) (hl : rs.length ≤ 8) :
    Calls Try.prog 20 #[.pointer (some ⟨b, 0, none⟩), .string (ba nm)] w fun e w' => e = .returned (.int .i64 (fnd rs nm)) ∧ w' = w := by
  obtain ⟨p, cap, hrv⟩ := ownsRow_form hRu
  subst hrv
  obtain ⟨c0, c1, c2, c3, c4, c5, c6⟩ := hG.cells
  go_enter Try.func20, Try.ntmps20
  go_wp2
  go_loop [5] (fun i => ∃ k : Nat, k ≤ rs.length ∧ i = .int .i64 k ∧ Hid (∀ j (h : j < rs.length), j < k → rs[j].name ≠ nm)) (fun i => rs.length - (intOf i).toNat)
  case atStart => exact ⟨0, Nat.zero_le _, rfl, fun j _ h => absurd h (by omega)⟩
  case round =>
    obtain ⟨k, hk, rfl, HA⟩ := hrel
    by_cases hlt : k < rs.length
    · obtain ⟨gb, cap', hrv, r0, r1, r2⟩ := hRu.cells hlt
      simp only [Value.slice.injEq] at hrv
      obtain ⟨hp, _, hcap⟩ := hrv
      subst hp hcap
      by_cases hnm : rs[k].name = nm
      · have q : ((ba rs[k].name).toList == (ba nm).toList) = true := by rw [ba_toList, ba_toList]; simp [hnm]
        have HF : Hid (fnd rs nm = (k : Int)) := by unfold Hid fnd; rw [fndI_some hlt hnm HA.out]
        clear hnm HA
        go_wp2
        go_ret
        exact ⟨by rw [HF.out]; rfl, rfl⟩
      · have q : ((ba rs[k].name).toList == (ba nm).toList) = false := by rw [ba_toList, ba_toList]; simp [hnm]
        have HF : Hid (∀ j (h : j < rs.length), j < k + 1 → rs[j].name ≠ nm) := fun j h hj => by
          rcases Nat.lt_or_eq_of_le (Nat.lt_succ_iff.1 hj) with h1 | h1
          · exact HA.out j h h1
          · subst h1; exact hnm
        clear hnm HA
        go_wp2
        go_round
        case rel => exact ⟨k + 1, by omega, by go_num, HF⟩
        case measure => simp [intOf]; omega
    · have HF : Hid (fnd rs nm = -1) := by unfold Hid fnd; rw [fndI_none (fun j h => HA.out j h (by omega))]
      clear HA
      go_wp2
      go_ret
      exact ⟨by rw [HF.out]; rfl, rfl⟩

theorem flat_get' {α : Type} (f : α → List Value) (m : Nat) : ∀ (l : List α), (∀ a ∈ l, (f a).length = m) → ∀ (k j : Nat), j < m → (hk : k < l.length) → (l.flatMap f)[k * m + j]? = (f l[k])[j]?
  | [], _, k, j, _, hk => absurd hk (by simp)
  | a :: l, hf, 0, j, hj, hk => by
    rw [List.flatMap_cons, Nat.zero_mul, Nat.zero_add, List.getElem?_append_left (by rw [hf a (by simp)]; exact hj)]
    rfl
  | a :: l, hf, k + 1, j, hj, hk => by
    rw [List.flatMap_cons, List.getElem?_append_right (by rw [hf a (by simp), Nat.add_mul]; omega), hf a (by simp), show (k + 1) * m + j - m = k * m + j by rw [Nat.add_mul]; omega]
    rw [flat_get' f m l (fun x hx => hf x (by simp [hx])) k j hj (by simpa using hk)]
    rfl

/-- What is read of the nodes. -/
theorem NodesAt.get {w : World} {base : Nat} {nv : Value} {U : Nat → Prop} {ns : List Nd} (h : NodesAt w base nv U ns) {k : Nat} (hk : k < ns.length) :
    ∃ g cap c v cur, nv = .slice (some ⟨g, 0, none⟩) ns.length cap ∧ objAt w g = some (.cells cur 59 (0, 0)) ∧ k * 262 + 262 ≤ cur.size ∧ cur.extract (k * 262) (k * 262 + 262) = c ∧ NodeIs c ns[k] v ∧
      w.ownsRow base 3 1 v ns[k].subs.length (ns[k].subs.map intV) ∧ ∀ j, j < 262 → w.cell? ⟨g, k * 262 + j, none⟩ = c[j]? := by
  obtain ⟨cs, hl, ho, hn⟩ := h
  have hkc : k < cs.length := by omega
  have hsz : ∀ a ∈ cs, (Array.toList a).length = 262 := by
    intro a ha
    obtain ⟨i, hi, rfl⟩ := List.getElem_of_mem ha
    obtain ⟨v, hv, _⟩ := hn i cs[i] ns[i] (List.getElem?_eq_getElem hi) (List.getElem?_eq_getElem (by omega))
    simpa using hv.size
  obtain ⟨v, hv, hr, hu⟩ := hn k cs[k] ns[k] (List.getElem?_eq_getElem hkc) (List.getElem?_eq_getElem hk)
  obtain ⟨g, cap, e, _, _⟩ := ho.form (by omega)
  subst e
  have hflat : ∀ j, j < 262 → (cs.map Array.toList).flatten[k * 262 + j]? = (cs[k])[j]? := fun j hj => by
    have := flat_get' Array.toList 262 cs hsz k j hj hkc
    rw [List.flatMap_def] at this
    rw [this]; simp
  have hcell : ∀ j, j < 262 → w.cell? ⟨g, k * 262 + j, none⟩ = (cs[k])[j]? := fun j hj => by
    rw [ho.cellAt (k * 262 + j) (by omega), hflat j hj]
  rcases ho.2 with ⟨h', _⟩ | ⟨g', cap', cur, h', _, hg, hnc, _, hcs, _⟩
  · simp at h'
  · simp only [Value.slice.injEq, Option.some.injEq, Addr.mk.injEq, and_true, true_and] at h'
    obtain ⟨hg', hc'⟩ := h'
    subst hg' hc'
    have hsize : k * 262 + 262 ≤ cur.size := by rw [hcs]; omega
    refine ⟨g, cap, cs[k], v, cur, rfl, hg, hsize, ?_, hv, hr, hcell⟩
    apply Array.ext_getElem?
    intro j
    rw [Array.getElem?_extract]
    by_cases hj : j < 262
    · rw [if_pos (by omega)]
      have h1 := hcell j hj
      rw [objAt_cell (show objAt w g = _ from hg)] at h1
      exact h1
    · rw [if_neg (by omega), Array.getElem?_eq_none (by rw [hv.size]; omega)]

/-- misnamed. -/
def lo (a : Int) (x : Nat) : Int := if a < 0 ∨ (x : Int) < a then (x : Int) else a
def misR (rs : List Rl) : Nat → Int
  | 0 => -1
  | k + 1 => if fnd rs ((rs.map Rl.name).getD k []) < k then lo (misR rs k) ((rs.map Rl.at_).getD k 0) else misR rs k
def misN (rs : List Rl) (ns : List Nd) : Nat → Int
  | 0 => misR rs rs.length
  | k + 1 => if (ns.map Nd.kind).getD k 0 = 3 ∧ fnd rs ((ns.map Nd.name).getD k []) < 0 then lo (misN rs ns k) ((ns.map Nd.at_).getD k 0) else misN rs ns k
def mis (rs : List Rl) (ns : List Nd) : Int := misN rs ns ns.length

theorem lo_ge (a : Int) (x : Nat) (h : -1 ≤ a) : -1 ≤ lo a x := by unfold lo; split <;> omega
theorem misR_ge (rs : List Rl) : ∀ k, -1 ≤ misR rs k
  | 0 => by simp [misR]
  | k + 1 => by rw [misR]; split; exact lo_ge _ _ (misR_ge rs k); exact misR_ge rs k

end Go.Proofs.Ytagklnaaoclmhaa

namespace Go.Proofs.Ytagklnaaoclmhaa
open Go.RowKit

theorem map_getD {α β : Type} (f : α → β) (l : List α) (k : Nat) (d : β) (h : k < l.length) : (l.map f).getD k d = f l[k] := by
  simp [List.getD, List.getElem?_eq_getElem h]

set_option maxRecDepth 100000 in
set_option maxHeartbeats 3200000 in
theorem mis_any (b base : Nat) (s : ByteArray) (nv rv : Value) (U : Nat → Prop) (A : St) (rs : List Rl) (w : World) (hR : RG w base b s nv rv U A) (hRu : RulesAt w base rv rs) (hl : rs.length ≤ 8) (hn : A.ns.length ≤ 5000) :
    Calls Try.prog 10 #[.pointer (some ⟨b, 0, none⟩)] w fun e w' => e = .returned (.int .i64 (mis rs A.ns)) ∧ w' = w := by
  obtain ⟨p, cap, hrv⟩ := ownsRow_form hRu
  have hnf : ∃ p' cap', nv = .slice p' A.ns.length cap' := by obtain ⟨cs, _, ho, _⟩ := hR.nodes; exact ownsRow_form ho
  obtain ⟨p', cap', hnv⟩ := hnf
  have hG := hR.gis
  have hN := hR.nodes
  clear hR
  subst hrv hnv
  obtain ⟨c0, c1, c2, c3, c4, c5, c6⟩ := hG.cells
  have HM : Hid (mis rs A.ns = misN rs A.ns A.ns.length) := rfl
  go_enter Try.func10, Try.ntmps10
  go_wp2
  go_loop [3, 4] (fun a i => ∃ k : Nat, k ≤ rs.length ∧ i = .int .i64 k ∧ a = .int .i64 (misR rs k)) (fun _ i => rs.length - (intOf i).toNat)
  case atStart => exact ⟨0, Nat.zero_le _, rfl, rfl⟩
  case round =>
    obtain ⟨k, hk, rfl, rfl⟩ := hrel
    by_cases hlt : k < rs.length
    · obtain ⟨gb, cap2, hrv, r0, r1, r2⟩ := hRu.cells hlt
      simp only [Value.slice.injEq] at hrv
      obtain ⟨hp, _, hcap⟩ := hrv
      subst hp hcap
      have HS : Hid (misR rs (k + 1) = if fnd rs rs[k].name < k then lo (misR rs k) rs[k].at_ else misR rs k) := by
        unfold Hid; rw [misR, map_getD _ _ _ _ hlt, map_getD _ _ _ _ hlt]
      go_wp2_with fail
      refine (find_any b s base _ _ A.sc rs rs[k].name _ hG hRu hl).mono ?_
      rintro e w1 ⟨rfl, rfl⟩
      generalize fnd rs rs[k].name = f at *
      by_cases hf : f < (k : Int)
      · by_cases ha : misR rs k < 0
        · have HS2 : Hid (misR rs (k + 1) = (rs[k].at_ : Int)) := by unfold Hid; rw [HS.out, if_pos hf, lo, if_pos (Or.inl ha)]
          clear HS
          go_wp2
          go_round
          case rel => exact ⟨k + 1, by omega, by go_num, by rw [HS2.out]⟩
          case measure => simp [intOf]; omega
        · by_cases hx : (rs[k].at_ : Int) < misR rs k
          · have HS2 : Hid (misR rs (k + 1) = (rs[k].at_ : Int)) := by unfold Hid; rw [HS.out, if_pos hf, lo, if_pos (Or.inr hx)]
            clear HS
            go_wp2
            go_round
            case rel => exact ⟨k + 1, by omega, by go_num, by rw [HS2.out]⟩
            case measure => simp [intOf]; omega
          · have HS2 : Hid (misR rs (k + 1) = misR rs k) := by unfold Hid; rw [HS.out, if_pos hf, lo, if_neg (by omega)]
            clear HS
            go_wp2
            go_round
            case rel => exact ⟨k + 1, by omega, by go_num, by rw [HS2.out]⟩
            case measure => simp [intOf]; omega
      · have HS2 : Hid (misR rs (k + 1) = misR rs k) := by unfold Hid; rw [HS.out, if_neg hf]
        clear HS
        go_wp2
        go_round
        case rel => exact ⟨k + 1, by omega, by go_num, by rw [HS2.out]⟩
        case measure => simp [intOf]; omega
    · have hke : k = rs.length := by omega
      subst hke
      clear hlt hk
      go_wp2
      go_loop [3, 6] (fun a i => ∃ k : Nat, k ≤ A.ns.length ∧ i = .int .i64 k ∧ a = .int .i64 (misN rs A.ns k)) (fun _ i => A.ns.length - (intOf i).toNat)
      case atStart => exact ⟨0, Nat.zero_le _, rfl, rfl⟩
      case round =>
        obtain ⟨k, hk, rfl, rfl⟩ := hrel
        by_cases hlt : k < A.ns.length
        · obtain ⟨gb, cap2, c, v, cur, hnv, _, _, _, hNI, _, hce⟩ := hN.get hlt
          simp only [Value.slice.injEq] at hnv
          obtain ⟨hp, _, hcap⟩ := hnv
          subst hp hcap
          have e0 := hce 0 (by omega)
          rw [hNI.kind, Nat.add_zero] at e0
          have e4 := hce 259 (by omega)
          rw [hNI.name] at e4
          have e5 := hce 260 (by omega)
          rw [hNI.at_] at e5
          unfold intV at e0 e5
          clear hce hNI
          have HS : Hid (misN rs A.ns (k + 1) = if A.ns[k].kind = 3 ∧ fnd rs A.ns[k].name < 0 then lo (misN rs A.ns k) A.ns[k].at_ else misN rs A.ns k) := by
            unfold Hid; rw [misN, map_getD _ _ _ _ hlt, map_getD _ _ _ _ hlt, map_getD _ _ _ _ hlt]
          by_cases hk3 : A.ns[k].kind = 3
          · have q3 : ((A.ns[k].kind : Int) == 3) = true := by simp; omega
            have H3 := hide hk3
            clear hk3
            go_wp2_with fail
            refine (find_any b s base _ _ A.sc rs A.ns[k].name _ hG hRu hl).mono ?_
            rintro e w1 ⟨rfl, rfl⟩
            generalize fnd rs A.ns[k].name = f at *
            by_cases hf : f < 0
            · by_cases ha : misN rs A.ns k < 0
              · have HS2 : Hid (misN rs A.ns (k + 1) = (A.ns[k].at_ : Int)) := by unfold Hid; rw [HS.out, if_pos ⟨H3.out, hf⟩, lo, if_pos (Or.inl ha)]
                clear HS
                go_wp2
                go_round
                case rel => exact ⟨k + 1, by omega, by go_num, by rw [HS2.out]⟩
                case measure => simp [intOf]; omega
              · by_cases hx : (A.ns[k].at_ : Int) < misN rs A.ns k
                · have HS2 : Hid (misN rs A.ns (k + 1) = (A.ns[k].at_ : Int)) := by unfold Hid; rw [HS.out, if_pos ⟨H3.out, hf⟩, lo, if_pos (Or.inr hx)]
                  clear HS
                  go_wp2
                  go_round
                  case rel => exact ⟨k + 1, by omega, by go_num, by rw [HS2.out]⟩
                  case measure => simp [intOf]; omega
                · have HS2 : Hid (misN rs A.ns (k + 1) = misN rs A.ns k) := by unfold Hid; rw [HS.out, if_pos ⟨H3.out, hf⟩, lo, if_neg (by omega)]
                  clear HS
                  go_wp2
                  go_round
                  case rel => exact ⟨k + 1, by omega, by go_num, by rw [HS2.out]⟩
                  case measure => simp [intOf]; omega
            · have HS2 : Hid (misN rs A.ns (k + 1) = misN rs A.ns k) := by unfold Hid; rw [HS.out, if_neg (fun h => hf h.2)]
              clear HS
              go_wp2
              go_round
              case rel => exact ⟨k + 1, by omega, by go_num, by rw [HS2.out]⟩
              case measure => simp [intOf]; omega
          · have q3 : ((A.ns[k].kind : Int) == 3) = false := by simp; omega
            have HS2 : Hid (misN rs A.ns (k + 1) = misN rs A.ns k) := by unfold Hid; rw [HS.out, if_neg (fun h => hk3 h.1)]
            clear HS hk3
            go_wp2
            go_round
            case rel => exact ⟨k + 1, by omega, by go_num, by rw [HS2.out]⟩
            case measure => simp [intOf]; omega
        · have hke : k = A.ns.length := by omega
          subst hke
          go_wp2
          go_ret
          exact ⟨by rw [HM.out]; rfl, rfl⟩

end Go.Proofs.Ytagklnaaoclmhaa

namespace Go.Proofs.Ytagklnaaoclmhaa

/-- A node whose parts lie ahead of place n. -/
structure NdOk (n : Nat) (N : Nd) : Prop where
  low : ∀ j ∈ N.subs, j < n
  one : 6 ≤ N.kind → ∃ x, N.subs = [x]
  kind : N.kind ≤ 10
/-- Nodes whose parts lie ahead of them. -/
def Wf (ns : List Nd) : Prop := ∀ (i : Nat) (N : Nd), ns[i]? = some N → NdOk i N

theorem Wf.nil : Wf [] := fun i N h => by simp at h
theorem Wf.push {ns : List Nd} (h : Wf ns) {N : Nd} (hN : NdOk ns.length N) : Wf (ns ++ [N]) := by
  intro i M hM
  by_cases hi : i < ns.length
  · rw [List.getElem?_append_left hi] at hM; exact h i M hM
  · rw [List.getElem?_append_right (by omega)] at hM
    have h0 : i - ns.length = 0 := by
      rcases Nat.eq_zero_or_pos (i - ns.length) with h0 | h0
      · exact h0
      · rw [List.getElem?_eq_none (by simp; omega)] at hM; cases hM
    rw [h0] at hM
    simp at hM
    subst hM
    rw [show i = ns.length by omega]
    exact hN

/-- From A to X: well formed; X's place is there. -/
structure Ww (A : St) (X : St × Nat) : Prop where
  wf : Wf X.1.ns
  lt : X.2 < X.1.ns.length
  le : A.ns.length ≤ X.1.ns.length

theorem Ww.add {A : St} (h : Wf A.ns) {N : Nd} (hN : NdOk A.ns.length N) : Ww A (addN A N) := ⟨h.push hN, by simp [addN], by simp [addN]⟩
theorem nd_plain {n : Nat} {N : Nd} (h : N.subs = []) (hk : N.kind ≤ 5) : NdOk n N := ⟨by rw [h]; simp, fun x => absurd x (by omega), by omega⟩
theorem Ww.plain {A : St} (g : Sc) (h : Wf A.ns) (N : Nd) (h1 : N.subs = []) (h2 : N.kind ≤ 5) : Ww A (addN { A with sc := g } N) := ⟨h.push (nd_plain h1 h2), by simp [addN], by simp [addN]⟩
theorem Ww.sc {A : St} {X : St × Nat} (h : Ww A X) (g : Sc) : Ww A ({ X.1 with sc := g }, X.2) := ⟨h.wf, h.lt, h.le⟩

def GoodW (ch : St → St × Nat) : Prop := ∀ A, Wf A.ns → Ww A (ch A)

theorem part_w {s : ByteArray} {ch : St → St × Nat} (hch : GoodW ch) : GoodW (partM s ch) := by
  intro A h
  unfold partM
  split
  · exact Ww.plain _ h _ rfl (by first | decide | (dsimp only; omega))
  · split
    · exact Ww.plain _ h _ rfl (by first | decide | (dsimp only; omega))
    · split
      · exact Ww.plain _ h _ rfl (by first | decide | (dsimp only; omega))
      · split
        · exact Ww.plain _ h _ rfl (by first | decide | (dsimp only; omega))
        · split
          · have := hch { A with sc := opn (bl s A.sc) } h
            exact ⟨this.wf, this.lt, this.le⟩
          · exact Ww.plain _ h _ rfl (by first | decide | (dsimp only; omega))

theorem one_ok {n k x : Nat} (hx : x < n) (hk : k ≤ 10) : NdOk n { nd0 with kind := k, subs := [x] } :=
  ⟨by intro j hj; simp at hj; omega, fun _ => ⟨x, rfl⟩, hk⟩

theorem item_w {s : ByteArray} {ch : St → St × Nat} (hch : GoodW ch) : GoodW (itemM s ch) := by
  intro A h
  have hp := part_w (s := s) hch { A with sc := aheadS s A.sc } h
  unfold itemM
  generalize partM s ch { A with sc := aheadS s A.sc } = X at *
  have hr : Ww A (repM s X) := by
    unfold repM
    split
    · next hk =>
      have hk10 : kindOf (pk s (bl s X.1.sc)) ≤ 10 := by unfold kindOf; (repeat' split) <;> omega
      have := Ww.add (A := { X.1 with sc := adv (bl s X.1.sc) }) hp.wf (one_ok hp.lt hk10)
      have hle := hp.le
      have hle2 := this.le
      exact ⟨this.wf, this.lt, Nat.le_trans hle hle2⟩
    · exact ⟨hp.wf, hp.lt, hp.le⟩
  generalize repM s X = R at *
  unfold aheadM
  split
  · next hk =>
    have hk10 : aheadK s A.sc ≤ 10 := by unfold aheadK; (repeat' split) <;> omega
    have := Ww.add (A := R.1) hr.wf (one_ok hr.lt hk10)
    exact ⟨this.wf, this.lt, Nat.le_trans hr.le this.le⟩
  · exact hr

theorem seqF_w {s : ByteArray} {ch : St → St × Nat} (hch : GoodW ch) : ∀ f acc A, Wf A.ns → (∀ j ∈ acc, j < A.ns.length) → Wf (seqF s ch f acc A).1.ns ∧ (∀ j ∈ (seqF s ch f acc A).2, j < (seqF s ch f acc A).1.ns.length) ∧ A.ns.length ≤ (seqF s ch f acc A).1.ns.length
  | 0, acc, A, h, ha => ⟨h, ha, Nat.le_refl _⟩
  | f + 1, acc, A, h, ha => by
    have hp := item_w (s := s) hch A h
    rw [seqF]
    generalize itemM s ch A = X at *
    have hj : ∀ j ∈ acc ++ [X.2], j < X.1.ns.length := by
      intro j hj
      rcases List.mem_append.1 hj with h1 | h1
      · have := ha j h1; have := hp.le; omega
      · simp at h1; rw [h1]; exact hp.lt
    split
    · exact ⟨hp.wf, hj, hp.le⟩
    · obtain ⟨q1, q2, q3⟩ := seqF_w hch f (acc ++ [X.2]) { X.1 with sc := bl s X.1.sc } hp.wf hj
      exact ⟨q1, q2, Nat.le_trans hp.le q3⟩
theorem seq_w {s : ByteArray} {ch : St → St × Nat} (hch : GoodW ch) : GoodW (seqM s ch) := by
  intro A h
  obtain ⟨q1, q2, q3⟩ := seqF_w (s := s) hch (s.size + 3) [] A h (by simp)
  have := Ww.add (A := (seqF s ch (s.size + 3) [] A).1) q1 (N := { nd0 with kind := 5, subs := (seqF s ch (s.size + 3) [] A).2 }) ⟨q2, fun x => absurd x (by simp), by simp⟩
  exact ⟨this.wf, this.lt, Nat.le_trans q3 this.le⟩
theorem choF_w {s : ByteArray} {ch : St → St × Nat} (hch : GoodW ch) : ∀ f acc A, Wf A.ns → (∀ j ∈ acc, j < A.ns.length) → Wf (choF s ch f acc A).1.ns ∧ (∀ j ∈ (choF s ch f acc A).2, j < (choF s ch f acc A).1.ns.length) ∧ A.ns.length ≤ (choF s ch f acc A).1.ns.length
  | 0, acc, A, h, ha => ⟨h, ha, Nat.le_refl _⟩
  | f + 1, acc, A, h, ha => by
    have hp := seq_w (s := s) hch A h
    rw [choF]
    generalize seqM s ch A = X at *
    have hj : ∀ j ∈ acc ++ [X.2], j < X.1.ns.length := by
      intro j hj
      rcases List.mem_append.1 hj with h1 | h1
      · have := ha j h1; have := hp.le; omega
      · simp at h1; rw [h1]; exact hp.lt
    split
    · obtain ⟨q1, q2, q3⟩ := choF_w hch f (acc ++ [X.2]) { X.1 with sc := sg s X.1.sc 47 } hp.wf hj
      exact ⟨q1, q2, Nat.le_trans hp.le q3⟩
    · exact ⟨hp.wf, hj, hp.le⟩
theorem cho_w {s : ByteArray} {ch : St → St × Nat} (hch : GoodW ch) : GoodW (choM s ch) := by
  intro A h
  obtain ⟨q1, q2, q3⟩ := choF_w (s := s) hch (s.size + 3) [] A h (by simp)
  have := Ww.add (A := (choF s ch (s.size + 3) [] A).1) q1 (N := { nd0 with kind := 4, subs := (choF s ch (s.size + 3) [] A).2 }) ⟨q2, fun x => absurd x (by simp), by simp⟩
  exact ⟨this.wf, this.lt, Nat.le_trans q3 this.le⟩

theorem choD_w (s : ByteArray) : ∀ d, GoodW (choD s d)
  | 0 => fun A h => Ww.plain A.sc h nd0 rfl (by decide)
  | d + 1 => cho_w (choD_w s d)

/-- What is well formed of what was read. -/
structure WfR (ns : List Nd) (rs : List Rl) : Prop where
  wf : Wf ns
  is : ∀ r ∈ rs, r.is < ns.length
  len : rs.length ≤ 8
theorem rule_w {s : ByteArray} {X : St} {rs : List Rl} (h : WfR X.ns rs) (h8 : rs.length ≠ 8) : WfR (ruleM s X).1.ns (rs ++ [(ruleM s X).2]) := by
  have hc := choD_w s 6 { X with sc := mu s (word s X.sc).2 61 } h.wf
  unfold ruleM
  generalize choD s 6 { X with sc := mu s (word s X.sc).2 61 } = Y at *
  have hle := hc.le
  have hl := h.len
  refine ⟨hc.wf, fun r hr => ?_, by simp; omega⟩
  rcases List.mem_append.1 hr with h1 | h1
  · have := h.is r h1; dsimp only at *; omega
  · simp at h1; rw [h1]; exact hc.lt
theorem readF_w {s : ByteArray} : ∀ f X rs, WfR X.ns rs → WfR (readF s f X rs).1.ns (readF s f X rs).2
  | 0, X, rs, h => h
  | f + 1, X, rs, h => by
    rw [readF]
    split
    · split
      · exact h
      · next h8 => exact readF_w f _ _ (rule_w h h8)
    · exact h
theorem read_w (s : ByteArray) : WfR (read s).1.ns (read s).2 := readF_w 10 _ _ ⟨Wf.nil, by simp, by simp⟩

end Go.Proofs.Ytagklnaaoclmhaa

namespace Go.Proofs.Ytagklnaaoclmhaa
open Go.RowKit

/-- A list of bools in a block of its own. -/
def BoolsAt (w : World) (eb : Nat) (L : List Bool) : Prop := objAt w eb = some (.cells (L.map Value.bool).toArray 4 (0, 0))
theorem BoolsAt.cell {w : World} {eb : Nat} {L : List Bool} (h : BoolsAt w eb L) {i : Nat} (hi : i < L.length) : w.cell? ⟨eb, i, none⟩ = some (.bool (L.getD i false)) := by
  rw [objAt_cell h]
  simp [hi, List.getD]
theorem BoolsAt.frozen {w : World} {eb : Nat} {L : List Bool} (h : BoolsAt w eb L) (i : Nat) : w.frozen? ⟨eb, i, none⟩ = false := objAt_frozen h
theorem BoolsAt.set {w : World} {eb : Nat} {L : List Bool} (h : BoolsAt w eb L) (i : Nat) (v : Bool) : BoolsAt (w.setCell ⟨eb, i, none⟩ (.bool v)) eb (L.set i v) := by
  unfold BoolsAt
  rw [objAt_set h]
  simp [List.map_set]
theorem BoolsAt.kept {S : Nat → Prop} {w w' : World} {eb : Nat} {L : List Bool} (h : BoolsAt w eb L) (hk : Kept S w w') (hs : ¬ S eb) : BoolsAt w' eb L := objAt_kept h hk hs

/-- All that is read. -/
structure Rdy (w : World) (base b : Nat) (s : ByteArray) (nv rv : Value) (U : Nat → Prop) (A : St) (rs : List Rl) : Prop where
  rg : RG w base b s nv rv U A
  ru : RulesAt w base rv rs
theorem Rdy.kept {S : Nat → Prop} {w w' : World} {base b : Nat} {s : ByteArray} {nv rv : Value} {U : Nat → Prop} {A : St} {rs : List Rl} (h : Rdy w base b s nv rv U A rs) (hk : Kept S w w')
    (hs : ∀ k, S k → k < w.heap.size → ∃ c, objAt w k = some (.cells c 4 (0, 0))) : Rdy w' base b s nv rv U A rs := by
  have key : ∀ {k c e}, objAt w k = some (.cells c e (0, 0)) → e ≠ 4 → ¬ S k := by
    intro k c e ho he hS
    obtain ⟨x, hx⟩ := hs k hS (objAt_lt ho)
    rw [ho] at hx
    simp at hx
    exact he hx.2
  obtain ⟨y, hy⟩ := h.rg.gis.obj
  refine ⟨?_, ownsRow_kept h.ru hk (fun k e => by obtain ⟨x, hx⟩ := ownsRow_obj h.ru e; exact key hx (by decide))⟩
  have := h.rg.turn hk (g := A.sc) (h.rg.gis.kept hk (key hy (by decide))) (fun k e => by obtain ⟨x, hx⟩ := h.rg.nvb e; exact key hx (by decide)) (fun k c _ ho => key ho (by decide))
  exact this
theorem Rdy.same {w : World} {base b : Nat} {s : ByteArray} {nv rv : Value} {U : Nat → Prop} {A : St} {rs : List Rl} (h : Rdy w base b s nv rv U A rs) (n : Nat) : Rdy (w.drewN n) base b s nv rv U A rs :=
  h.kept (S := fun _ => False) ((Kept.refl _ w).drewN n) (fun _ x => x.elim)
theorem Rdy.alloc {w : World} {base b : Nat} {s : ByteArray} {nv rv : Value} {U : Nat → Prop} {A : St} {rs : List Rl} (h : Rdy w base b s nv rv U A rs) (o : Obj) : Rdy (w.alloc o) base b s nv rv U A rs :=
  h.kept (S := fun _ => False) ((Kept.refl _ w).alloc o) (fun _ x => x.elim)
theorem Rdy.bools {w w' : World} {base b eb : Nat} {s : ByteArray} {nv rv : Value} {U : Nat → Prop} {A : St} {rs : List Rl} {L : List Bool} (h : Rdy w base b s nv rv U A rs) (hb : BoolsAt w eb L) (hk : Kept (· = eb) w w') : Rdy w' base b s nv rv U A rs :=
  h.kept hk (fun k e _ => by subst e; exact ⟨_, hb⟩)

/-- What is read of a node's parts. -/
theorem subs_cell {w : World} {base : Nat} {v : Value} {l : List Nat} (h : w.ownsRow base 3 1 v l.length (l.map intV)) {k : Nat} (hk : k < l.length) :
    ∃ sb cap, v = .slice (some ⟨sb, 0, none⟩) l.length cap ∧ w.cell? ⟨sb, k, none⟩ = some (.int .i64 ((l.getD k 0 : Nat) : Int)) := by
  obtain ⟨sb, cap, hv, _, _⟩ := h.form (by omega)
  subst hv
  refine ⟨sb, cap, rfl, ?_⟩
  rw [h.cellAt k (by omega)]
  simp [intV, hk, List.getD]

/-- Whether a node is empty, by what is known so far. -/
def evN (rs : List Rl) (N : Nd) (L : List Bool) (old : Bool) : Bool :=
  if N.kind = 0 then N.text.isEmpty
  else if N.kind = 3 then L.getD ((rs.map Rl.is).getD ((fndI rs N.name).getD 0) 0) false
  else if N.kind = 6 ∨ N.kind = 7 ∨ N.kind = 9 ∨ N.kind = 10 then true
  else if N.kind = 8 then L.getD (N.subs.getD 0 0) false
  else if N.kind = 4 then old || N.subs.any (fun j => L.getD j false)
  else if N.kind = 5 then N.subs.all (fun j => L.getD j false)
  else old
def nth (ns : List Nd) (k : Nat) : Nd := ns.getD k nd0
def swp (rs : List Rl) (ns : List Nd) : Nat → List Bool → List Bool
  | 0, L => L
  | k + 1, L => (swp rs ns k L).set k (evN rs (nth ns k) (swp rs ns k L) ((swp rs ns k L).getD k false))
def emp (rs : List Rl) (ns : List Nd) : Nat → List Bool
  | 0 => List.replicate ns.length false
  | r + 1 => swp rs ns ns.length (emp rs ns r)
def empty (rs : List Rl) (ns : List Nd) : List Bool := emp rs ns (ns.length + 1)

theorem swp_len (rs : List Rl) (ns : List Nd) : ∀ k L, (swp rs ns k L).length = L.length
  | 0, L => rfl
  | k + 1, L => by rw [swp, List.length_set, swp_len rs ns k L]
theorem emp_len (rs : List Rl) (ns : List Nd) : ∀ r, (emp rs ns r).length = ns.length
  | 0 => by simp [emp]
  | r + 1 => by rw [emp, swp_len, emp_len rs ns r]
theorem nth_get {ns : List Nd} {k : Nat} (h : k < ns.length) : nth ns k = ns[k] := by simp [nth, List.getD, List.getElem?_eq_getElem h]

theorem info4 : (Try.prog.info? 4).map (fun i => (i.zero, i.size, i.bytes)) = some (some (.bool false), 1, 1) := by kernel_rfl

/-- A list of bools is made. -/
theorem mkB (W : World) (n : Nat) (hn : n ≤ 5000) : (Instr.makeSlice 60 (.int .i64 (n : Int)) (.int .i64 (n : Int))).run Try.prog W = .ok (.slice (some ⟨W.heap.size, 0, none⟩) n n) (W.alloc (.cells (Array.replicate n (.bool false)) 4)) := by
  obtain ⟨i0, hi0, hz0, hz1, hz2⟩ := info_parts info4
  have hr := run_make (P := Try.prog) W 60 4 i0 _ Try.underlying60 hi0 hz0 .i64 .i64 n n (by omega) (Int.le_refl _) (by rw [hz2]; omega) (by omega)
  rw [hr]
  simp only [Int.toNat_natCast, hz1, Nat.mul_one]
  have hz : (Value.bool false).cells = #[.bool false] := rfl
  have : madeCells (Value.bool false).cells n = Array.replicate n (.bool false) := by
    apply Array.ext'
    rw [hz, toList_madeCells_one]; simp
  rw [this]

theorem new_bools (W : World) (n : Nat) : BoolsAt (W.alloc (.cells (Array.replicate n (.bool false)) 4)) W.heap.size (List.replicate n false) := by
  unfold BoolsAt
  rw [objAt_new]
  simp

end Go.Proofs.Ytagklnaaoclmhaa
