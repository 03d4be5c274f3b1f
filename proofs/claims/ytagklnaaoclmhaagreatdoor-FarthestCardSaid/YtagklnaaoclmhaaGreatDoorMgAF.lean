import Derived.Test.YtagklnaaoclmhaaGreatDoorMgAE
import Derived.Defers
set_option linter.unusedSimpArgs false
set_option linter.unusedVariables false
namespace Go.Proofs.YtagklnaaoclmhaaGreatDoor
open Go.RowKit

/-- A block's cells but for the links. -/
def celOf (w : World) (x : Nat) : Cel :=
  match w.heap[x]? with
  | some (.cells c t _) => ⟨c.getD 0 undef, c.getD 1 undef, c.getD 2 undef, c.getD 5 undef, t⟩
  | _ => ⟨undef, undef, undef, undef, 0⟩
theorem celOf_at {w : World} {x t : Nat} {a0 a1 a2 a3 a4 a5 : Value} (h : w.heap[x]? = some (.cells #[a0, a1, a2, a3, a4, a5] t (0, 0))) : celOf w x = ⟨a0, a1, a2, a5, t⟩ := by
  simp [celOf, h]
/-- An entry in memory. -/
def EnAt (w : World) (b : Nat) (k : Ky) (rb : Nat) : Prop := ∃ v3 v4, w.heap[b]? = some (.cells #[.int .i64 (k.inp : Int), .int .i64 (k.rule : Int), .int .i64 (k.place : Int), v3, v4, ptB' rb] 280 (0, 0))
theorem EnAt.same {w w' : World} {b rb : Nat} {k : Ky} (h : EnAt w b k rb) (he : w'.heap[b]? = w.heap[b]?) : EnAt w' b k rb := by
  obtain ⟨v3, v4, h⟩ := h
  exact ⟨v3, v4, by rw [he]; exact h⟩
theorem EnAt.lt {w : World} {b rb : Nat} {k : Ky} (h : EnAt w b k rb) : b < w.heap.size := by
  obtain ⟨v3, v4, h⟩ := h
  exact objAt_lt (show objAt w b = _ from h)
theorem EnAt.cel {w : World} {b rb : Nat} {k : Ky} (h : EnAt w b k rb) : celOf w b = ⟨.int .i64 (k.inp : Int), .int .i64 (k.rule : Int), .int .i64 (k.place : Int), ptB' rb, 280⟩ := by
  obtain ⟨v3, v4, h⟩ := h
  exact celOf_at h
/-- The ring of the entries. -/
structure OldI (w : World) (b0 ob bud : Nat) (EL : List (Ky × Nat)) (ks : List Ky) : Prop where
  ex : ∃ OL : List (Ky × Nat), OL.Perm EL ∧ OL.map (·.1) = ks ∧ RgAt w (celOf w) ob (OL.map (·.2))
  free : ∃ fr : Nat, fr + EL.length = bud ∧ celOf w ob = ⟨.int .i64 0, .int .i64 0, .int .i64 0, .int .i64 (fr : Int), 275⟩
  low : b0 ≤ ob
def plV (EL : List (Ky × Nat)) (p : Option Ky) : Value := optP (p.bind fun k => (eFi EL k 0).map (·.2))
/-- The places of the entries. -/
structure DirI (w : World) (b0 db bud nr : Nat) (EL : List (Ky × Nat)) (pl : List (Option Ky)) : Prop where
  blk : ∃ pb, b0 ≤ pb ∧ w.heap[db]? = some (.cells #[.slice (some ⟨pb, 0, none⟩) bud bud, .int .i64 (nr : Int)] 270 (0, 0)) ∧ w.heap[pb]? = some (.cells (pl.map (plV EL)).toArray 271 (0, 0))
  len : pl.length = bud
  at_ : ∀ e ∈ EL, pl.getD (kN nr e.1 % bud) none = some e.1
  is_ : ∀ p k, pl[p]? = some (some k) → kN nr k % bud = p ∧ ∃ b, (k, b) ∈ EL
  low : b0 ≤ db
def ordV (C : Mc) (ob : Nat) : Value := if C.pol = 1 then .iface 219 (ptB' ob) else if C.pol = 2 then .iface 221 (ptB' ob) else .nilIface
structure McOk (C : Mc) : Prop where
  pol : C.pol = 0 ∧ C.mask = 0 ∨ (C.pol = 1 ∨ C.pol = 2) ∧ 0 < C.bud
  bud : C.bud ≤ 1000
  mask : C.mask ≤ 255
  nr : C.nr ≤ 8
/-- The memory. -/
structure MmI (w : World) (b0 mb eb ob : Nat) (EL : List (Ky × Nat)) (C : Mc) (R : Nat → Rs → Prop) (M : Ms) : Prop where
  ok : McOk C
  blk : w.heap[mb]? = some (.cells #[.int .i64 (C.mask : Int), ordV C ob, .int .i32 0, .int .u32 0, .map (some eb), .int .i64 (M.hits : Int)] 218 (0, 0))
  map : MapIs w eb EL
  keys : EL.map (·.1) = M.ent.map (·.1)
  nd : (EL.map (·.1)).Nodup
  in_ : ∀ e ∈ EL, KyIn e.1
  ent : ∀ i (h : i < EL.length) (h' : i < M.ent.length), ∃ rb, EnAt w EL[i].2 EL[i].1 rb ∧ R rb M.ent[i].2
  low : b0 ≤ mb ∧ b0 ≤ eb ∧ ∀ e ∈ EL, b0 ≤ e.2
  no0 : C.pol = 0 → EL = []
  dir : C.pol = 1 → DirI w b0 ob C.bud C.nr EL M.plc
  old : C.pol = 2 → OldI w b0 ob C.bud EL M.ord
  hits : M.hits ≤ 100000

/-- What the memory writes into. -/
def Mw (b0 : Nat) (w : World) (k : Nat) : Prop := b0 ≤ k ∧ ∀ c t f, w.heap[k]? = some (.cells c t f) → t = 218 ∨ t = 280 ∨ t = 275 ∨ t = 270 ∨ t = 271
theorem Mw.trans {b0 : Nat} {w w1 w2 : World} (h : Kept (Mw b0 w) w w1) (k : Kept (Mw b0 w1) w1 w2) : Kept (Mw b0 w) w w2 :=
  h.then k (fun i hi hx => by
    by_cases hm : Mw b0 w i
    · exact hm
    · refine ⟨hx.1, fun c t f hc => hx.2 c t f ?_⟩
      rw [h.block i hi hm]; exact hc)

theorem eFi_none : ∀ (EL : List (Ky × Nat)) (L : List (Ky × Rs)) (k : Ky) (i : Nat), EL.map (·.1) = L.map (·.1) → eFi EL k i = none → eGet L k = none
  | [], [], _, _, _, _ => rfl
  | [], _ :: _, _, _, h, _ => by simp at h
  | _ :: _, [], _, _, h, _ => by simp at h
  | e :: EL, x :: L, k, i, h, hn => by
    simp only [List.map_cons, List.cons.injEq] at h
    rw [eFi] at hn
    split at hn
    · cases hn
    · next hne =>
      have := eFi_none EL L k (i + 1) h.2 hn
      unfold eGet at this ⊢
      rw [List.find?_cons_of_neg (by simp; rw [← h.1]; exact fun e => hne e.symm)]
      exact this
theorem eFi_some : ∀ (EL : List (Ky × Nat)) (L : List (Ky × Rs)) (k : Ky) (i j b : Nat), EL.map (·.1) = L.map (·.1) → eFi EL k i = some (j, b) → ∃ q, j = i + q ∧ ∃ (h1 : q < EL.length) (h2 : q < L.length), EL[q] = (k, b) ∧ eGet L k = some L[q].2
  | [], _, _, _, _, _, _, hn => by cases hn
  | _ :: _, [], _, _, _, _, h, _ => by simp at h
  | e :: EL, x :: L, k, i, j, b, h, hn => by
    simp only [List.map_cons, List.cons.injEq] at h
    rw [eFi] at hn
    split at hn
    · next he =>
      cases hn
      refine ⟨0, rfl, by simp, by simp, ?_, ?_⟩
      · simp [he]
      · unfold eGet
        rw [List.find?_cons_of_pos (by simp; rw [← h.1, he])]
        rfl
    · next hne =>
      obtain ⟨q, h1, h2, h3, h4, h5⟩ := eFi_some EL L k (i + 1) j b h.2 hn
      refine ⟨q + 1, by omega, by simp; omega, by simp; omega, by simpa using h4, ?_⟩
      unfold eGet at h5 ⊢
      rw [List.find?_cons_of_neg (by simp; rw [← h.1]; exact fun e => hne e.symm), h5]
      simp
end Go.Proofs.YtagklnaaoclmhaaGreatDoor

namespace Go.Proofs.YtagklnaaoclmhaaGreatDoor
open Go.RowKit

theorem Lnk.cel {w : World} {A : Nat → Cel} {od nw : Nat → Nat} {x : Nat} (h : Lnk w A od nw x) : celOf w x = A x := by
  unfold Lnk at h
  rw [celOf_at h]
theorem cel_kept {w w' : World} {S : Nat → Prop} (hk : Kept S w w') {x : Nat} (hx : x < w.heap.size) (hs : ¬ S x) : celOf w' x = celOf w x := by
  unfold celOf; rw [hk.block x hx hs]
/-- Behind a turn of the ring the other cells are as they were. -/
theorem ring_cel {w w' : World} {ob : Nat} {l : List Nat} (hr : RgAt w' (celOf w) ob l) : ∀ x ∈ ob :: l, celOf w' x = celOf w x := by
  obtain ⟨od, nw, h, hl⟩ := hr
  exact fun x hx => (hl x hx).cel
theorem ring_self {w w' : World} {ob : Nat} {l : List Nat} (hr : RgAt w' (celOf w) ob l) : RgAt w' (celOf w') ob l :=
  hr.congr (ring_cel hr) (fun _ _ => rfl)
theorem ring_en {w w' : World} {ob : Nat} {l : List Nat} (hr : RgAt w' (celOf w) ob l) (hk : Kept (fun k => k ∈ ob :: l) w w') {b rb : Nat} {k : Ky} (h : EnAt w b k rb) : EnAt w' b k rb := by
  by_cases hb : b ∈ ob :: l
  · obtain ⟨od, nw, _, hl⟩ := hr
    have h1 := hl b hb
    unfold Lnk at h1
    rw [h.cel] at h1
    exact ⟨_, _, h1⟩
  · exact h.same (hk.block b h.lt hb)

structure UsOut (b0 ob bud : Nat) (EL : List (Ky × Nat)) (ks : List Ky) (w : World) (e : Ending) (w' : World) : Prop where
  res : e = .returned (.tuple #[])
  old : OldI w' b0 ob bud EL ks
  en : ∀ b k rb, EnAt w b k rb → EnAt w' b k rb
  kept : Kept (fun j => j = ob ∨ ∃ x ∈ EL, x.2 = j) w w'
theorem useO_old {b0 ob bud : Nat} {EL : List (Ky × Nat)} {ks : List Ky} {w : World} (h : OldI w b0 ob bud EL ks) (hnd : (EL.map (·.1)).Nodup) {k : Ky} {b : Nat} (hb : (k, b) ∈ EL) :
    Calls Tryz.prog 240 #[ptB' ob, ptB' b] w fun e w' => UsOut b0 ob bud EL (k :: ks.erase k) w e w' := by
  obtain ⟨OL, hp, hks, hr⟩ := h.ex
  obtain ⟨fr, hfr, hcf⟩ := h.free
  obtain ⟨l1, l2, rfl⟩ := List.append_of_mem (hp.symm.subset hb)
  rw [List.map_append, List.map_cons] at hr
  refine (useO_any (celOf w) ob b (l1.map (·.2)) (l2.map (·.2)) w hr).mono ?_
  rintro e w' ⟨rfl, hr', hk'⟩
  have hkeys : ks.erase k = (l1 ++ l2).map (·.1) := by
    have hn : ((l1 ++ (k, b) :: l2).map (·.1)).Nodup := (hp.map (·.1)).nodup_iff.2 hnd
    rw [← hks]
    rw [List.map_append, List.map_cons] at hn ⊢
    rw [List.nodup_append] at hn
    rw [List.erase_append_right _ (fun hx => hn.2.2 k hx k (by simp) rfl)]
    simp
  refine ⟨rfl, ⟨⟨(k, b) :: (l1 ++ l2), ?_, ?_, ?_⟩, ⟨fr, hfr, ?_⟩, h.low⟩, fun b k rb h => ring_en hr' hk' h, hk'.mono (fun j _ hj => ?_)⟩
  · exact List.perm_middle.symm.trans hp
  · rw [List.map_cons, hkeys]
  · have := ring_self hr'
    simpa using this
  · rw [ring_cel hr' ob (by simp)]; exact hcf
  · rcases List.mem_cons.1 hj with e | e
    · exact .inl e
    · right
      have : j ∈ ((l1 ++ (k, b) :: l2).map (·.2)) := by
        simp only [List.mem_cons, List.mem_append, List.map_append, List.map_cons] at e ⊢
        rcases e with e | e | e
        · exact .inr (.inl e)
        · exact .inl e
        · exact .inr (.inr e)
      obtain ⟨x, hx, rfl⟩ := List.mem_map.1 this
      exact ⟨x, hp.subset hx, rfl⟩
/-- What add of a ring leaves. -/
structure AoOut (b0 ob bud : Nat) (EL : List (Ky × Nat)) (ks : List Ky) (k : Ky) (b : Nat) (w : World) (e : Ending) (w' : World) : Prop where
  en : ∀ b k rb, EnAt w b k rb → EnAt w' b k rb
  kept : Kept (fun j => j = ob ∨ j = b ∨ ∃ x ∈ EL, x.2 = j) w w'
  free : EL.length < bud → e = .returned (.pointer none) ∧ OldI w' b0 ob bud (EL ++ [(k, b)]) (k :: ks)
  full : EL.length = bud → ∃ g gb, ks.getLast? = some g ∧ (g, gb) ∈ EL ∧ e = .returned (ptB' gb) ∧ ∀ EL', EL'.Perm ((EL.erase (g, gb)) ++ [(k, b)]) → OldI w' b0 ob bud EL' (k :: ks.dropLast)
theorem addO_old {b0 ob bud : Nat} {EL : List (Ky × Nat)} {ks : List Ky} {w : World} (h : OldI w b0 ob bud EL ks) (hbud : 0 < bud) (hbud2 : bud ≤ 1000) {k : Ky} {b rb : Nat} (hen : EnAt w b k rb) (hno : b ∉ EL.map (·.2)) (hbo : b ≠ ob) :
    Calls Tryz.prog 238 #[ptB' ob, ptB' b] w fun e w' => AoOut b0 ob bud EL ks k b w e w' := by
  obtain ⟨OL, hp, hks, hr⟩ := h.ex
  obtain ⟨fr, hfr, hcf⟩ := h.free
  obtain ⟨v3, v4, hB⟩ := hen
  have hc := celOf_at hB
  have hbn : b ∉ ob :: OL.map (·.2) := by
    intro hx
    rcases List.mem_cons.1 hx with e | e
    · exact hbo e
    · exact hno ((hp.map (·.2)).subset e)
  have hmem : ∀ j, j ∈ ob :: b :: OL.map (·.2) → (j = ob ∨ j = b ∨ ∃ x ∈ EL, x.2 = j) := by
    intro j hj
    rcases List.mem_cons.1 hj with e | e
    · exact .inl e
    · rcases List.mem_cons.1 e with e | e
      · exact .inr (.inl e)
      · obtain ⟨x, hx, rfl⟩ := List.mem_map.1 e
        exact .inr (.inr ⟨x, hp.subset hx, rfl⟩)
  cases fr with
  | succ fr =>
    refine (addO_free (celOf w) ob b fr _ w hr hbn v3 v4 (by rw [hc]; exact hB) (by rw [hcf]) (by omega)).mono ?_
    rintro e w' ⟨rfl, hr', hk'⟩
    have hcb : ∀ x ∈ ob :: b :: OL.map (·.2), x ≠ ob → celOf w' x = celOf w x := by
      intro x hx hne
      obtain ⟨od, nw, _, hl⟩ := hr'
      have := (hl x hx).cel
      simpa [hne] using this
    have hco : celOf w' ob = ⟨.int .i64 0, .int .i64 0, .int .i64 0, .int .i64 (fr : Int), 275⟩ := by
      obtain ⟨od, nw, _, hl⟩ := hr'
      have := (hl ob (by simp)).cel
      simpa [hcf] using this
    refine ⟨fun b' k' rb' h' => ?_, hk'.mono (fun j _ hj => hmem j hj), fun _ => ⟨rfl, ⟨⟨(k, b) :: OL, ?_, by simp [hks], ?_⟩, ⟨fr, by simp; omega, hco⟩, h.low⟩⟩, fun hx => absurd hx (by omega)⟩
    · by_cases hx : b' ∈ ob :: b :: OL.map (·.2)
      · have hne : b' ≠ ob := by
          intro e
          rw [e] at h'
          rw [h'.cel] at hcf
          simp at hcf
        obtain ⟨od, nw, _, hl⟩ := hr'
        have h1 := hl b' hx
        unfold Lnk at h1
        simp only [hne, if_false] at h1
        rw [h'.cel] at h1
        exact ⟨_, _, h1⟩
      · exact h'.same (hk'.block b' h'.lt hx)
    · exact ((List.Perm.cons _ hp).trans (List.perm_append_comm (l₁ := [(k, b)]) (l₂ := EL)))
    · refine (hr'.congr (A' := celOf w') (fun x hx => ?_) (fun _ _ => rfl))
      by_cases hne : x = ob
      · subst hne
        simp [hco, hcf]
      · simp only [hne, if_false]
        exact hcb x hx hne
  | zero =>
    have hne : OL ≠ [] := by
      intro e
      have := hp.length_eq
      rw [e] at this
      simp at this
      omega
    obtain ⟨OL', ⟨g, gb⟩, rfl⟩ : ∃ l x, OL = l ++ [x] := ⟨OL.dropLast, OL.getLast hne, (List.dropLast_concat_getLast hne).symm⟩
    rw [List.map_append, List.map_cons, List.map_nil] at hr hbn
    refine (addO_full (celOf w) ob b gb _ w hr hbn v3 v4 (by rw [hc]; exact hB) (by rw [hcf]; rfl)).mono ?_
    rintro e w' ⟨rfl, hr', hk'⟩
    refine ⟨fun b' k' rb' h' => ?_, hk'.mono (fun j _ hj => hmem j ?_), fun hx => absurd hx (by omega), fun _ => ⟨g, gb, ?_, hp.subset (by simp), rfl, fun EL' hp' => ⟨⟨(k, b) :: OL', ?_, ?_, ?_⟩, ⟨0, ?_, ?_⟩, h.low⟩⟩⟩
    · exact ring_en hr' hk' h'
    · simp at hj ⊢
      rcases hj with e | e | e
      · exact .inl e
      · exact .inr (.inl e)
      · exact .inr (.inr (.inl e))
    · rw [← hks]; simp
    · refine List.Perm.trans ?_ hp'.symm
      refine List.Perm.trans ?_ (List.perm_append_comm (l₁ := [(k, b)]) (l₂ := EL.erase (g, gb)))
      refine List.Perm.cons _ ?_
      have h1 : (OL' ++ [(g, gb)]).Perm ((g, gb) :: OL') := List.perm_append_comm (l₁ := OL') (l₂ := [(g, gb)])
      have h2 := (h1.symm.trans hp).erase (g, gb)
      simpa using h2
    · rw [← hks]; simp
    · have := ring_self hr'
      simpa using this
    · have h1 := hp'.length_eq
      have h2 := hp.length_eq
      have h3 : (g, gb) ∈ EL := hp.subset (by simp)
      rw [List.length_append, List.length_erase_of_mem h3] at h1
      have := List.length_pos_of_mem h3
      simp at h1
      omega
    · rw [ring_cel hr' ob (by simp)]; exact hcf
end Go.Proofs.YtagklnaaoclmhaaGreatDoor

namespace Go.Proofs.YtagklnaaoclmhaaGreatDoor
open Go.RowKit Go.MuLone

theorem RgAt.kept {w w' : World} {ob : Nat} {l : List Nat} (h : RgAt w (celOf w) ob l) (hw : ∀ x ∈ ob :: l, w'.heap[x]? = w.heap[x]?) : RgAt w' (celOf w') ob l :=
  h.congr (fun x hx => by unfold celOf; rw [hw x hx]) hw
theorem RgAt.lt {w : World} {A : Nat → Cel} {ob : Nat} {l : List Nat} (h : RgAt w A ob l) : ∀ x ∈ ob :: l, x < w.heap.size := by
  obtain ⟨od, nw, _, hl⟩ := h
  exact fun x hx => objAt_lt (show objAt w x = _ from hl x hx)
theorem OldI.kept {S : Nat → Prop} {w w' : World} {b0 ob bud : Nat} {EL : List (Ky × Nat)} {ks : List Ky} (h : OldI w b0 ob bud EL ks) (hk : Kept S w w') (h1 : ¬ S ob) (h2 : ∀ e ∈ EL, ¬ S e.2) : OldI w' b0 ob bud EL ks := by
  obtain ⟨OL, hp, hks, hr⟩ := h.ex
  have hw : ∀ x ∈ ob :: OL.map (·.2), w'.heap[x]? = w.heap[x]? := by
    intro x hx
    refine hk.block x (hr.lt x hx) ?_
    rcases List.mem_cons.1 hx with e | e
    · rw [e]; exact h1
    · obtain ⟨y, hy, rfl⟩ := List.mem_map.1 e
      exact h2 y (hp.subset hy)
  obtain ⟨fr, hfr, hcf⟩ := h.free
  exact ⟨⟨OL, hp, hks, hr.kept hw⟩, ⟨fr, hfr, by unfold celOf at hcf ⊢; rw [hw ob (by simp)]; exact hcf⟩, h.low⟩
theorem OldI.ob_lt {w : World} {b0 ob bud : Nat} {EL : List (Ky × Nat)} {ks : List Ky} (h : OldI w b0 ob bud EL ks) : ob < w.heap.size := by
  obtain ⟨OL, hp, hks, hr⟩ := h.ex
  exact hr.lt ob (by simp)
theorem DirI.kept {S : Nat → Prop} {w w' : World} {b0 db bud nr : Nat} {EL : List (Ky × Nat)} {pl : List (Option Ky)} (h : DirI w b0 db bud nr EL pl) (hk : Kept S w w') (h1 : ∀ j c t f, w.heap[j]? = some (.cells c t f) → (t = 270 ∨ t = 271) → ¬ S j) : DirI w' b0 db bud nr EL pl := by
  obtain ⟨pb, h2, h3, h4⟩ := h.blk
  refine ⟨⟨pb, h2, ?_, ?_⟩, h.len, h.at_, h.is_, h.low⟩
  · rw [hk.block db (objAt_lt (show objAt w db = _ from h3)) (h1 _ _ _ _ h3 (.inl rfl))]; exact h3
  · rw [hk.block pb (objAt_lt (show objAt w pb = _ from h4)) (h1 _ _ _ _ h4 (.inr rfl))]; exact h4
theorem MmI.same {w w' : World} {b0 mb eb ob : Nat} {EL : List (Ky × Nat)} {C : Mc} {R : Nat → Rs → Prop} {M : Ms} (h : MmI w b0 mb eb ob EL C R M) (hk : Kept (fun _ => False) w w') : MmI w' b0 mb eb ob EL C R M := by
  refine ⟨h.ok, ?_, h.map.same (hk.block eb h.map.lt (fun x => x)), h.keys, h.nd, h.in_, fun i hi hi' => ?_, h.low, h.no0, fun hp => (h.dir hp).kept hk (fun _ _ _ _ _ _ x => x), fun hp => (h.old hp).kept hk (fun x => x) (fun _ _ x => x), h.hits⟩
  · rw [hk.block mb (objAt_lt (show objAt w mb = _ from h.blk)) (fun x => x)]; exact h.blk
  · obtain ⟨rb, h1, h2⟩ := h.ent i hi hi'
    exact ⟨rb, h1.same (hk.block _ h1.lt (fun x => x)), h2⟩
/-- A lock that was held is free again. -/
theorem relock {w W : World} {mb : Nat} {c : Array Value} {t : Nat} (hb : w.heap[mb]? = some (.cells c t (0, 0))) (hW : W.heap[mb]? = some (.cells (c.setIfInBounds 2 (.int .i32 1)) t (0, 0))) (hc : c[2]? = some (.int .i32 0)) (hk : Kept (· = mb) w W) : Kept (fun _ => False) w (W.setCell ⟨mb, 2, none⟩ (.int .i32 0)) := by
  have h1 := hk.setCell (p := ⟨mb, 2, none⟩) (fun _ => rfl) (.int .i32 0)
  refine ⟨h1.os, h1.tape, h1.output, h1.size, fun i hi _ => ?_⟩
  by_cases him : i = mb
  · subst him
    rw [heap_set_at hW, hb]
    congr 2
    apply Array.ext'
    simp only [Array.toList_setIfInBounds, List.set_set]
    have hl : 2 < c.size := by
      rcases Nat.lt_or_ge 2 c.size with h | h
      · exact h
      · rw [Array.getElem?_eq_none h] at hc; cases hc
    have : c.toList[2]? = some (.int .i32 0) := by simpa using hc
    have h2 : c.toList[2]'(by simpa using hl) = .int .i32 0 := by
      rw [List.getElem?_eq_getElem (by simpa using hl)] at this
      exact Option.some.inj this
    rw [← h2]
    exact List.set_getElem_self _
  · exact h1.block i hi him

theorem OldI.ty {w : World} {b0 ob bud : Nat} {EL : List (Ky × Nat)} {ks : List Ky} (h : OldI w b0 ob bud EL ks) : ∃ c, w.heap[ob]? = some (.cells c 275 (0, 0)) := by
  obtain ⟨OL, hp, hks, od, nw, hr, hl⟩ := h.ex
  obtain ⟨fr, hfr, hcf⟩ := h.free
  have := hl ob (by simp)
  unfold Lnk at this
  rw [hcf] at this
  exact ⟨_, this⟩
theorem MmI.en_at {w : World} {b0 mb eb ob : Nat} {EL : List (Ky × Nat)} {C : Mc} {R : Nat → Rs → Prop} {M : Ms} (h : MmI w b0 mb eb ob EL C R M) {x : Ky × Nat} (hx : x ∈ EL) : ∃ rb, EnAt w x.2 x.1 rb := by
  obtain ⟨i, hi, rfl⟩ := List.getElem_of_mem hx
  obtain ⟨rb, h1, _⟩ := h.ent i hi (by have := congrArg List.length h.keys; simp at this; omega)
  exact ⟨rb, h1⟩
theorem MmI.mw {w : World} {b0 mb eb ob : Nat} {EL : List (Ky × Nat)} {C : Mc} {R : Nat → Rs → Prop} {M : Ms} (h : MmI w b0 mb eb ob EL C R M) {j : Nat} (hj : j = mb ∨ j = ob ∧ C.pol ≠ 0 ∨ ∃ x ∈ EL, x.2 = j) : Mw b0 w j := by
  rcases hj with rfl | ⟨rfl, hp⟩ | ⟨x, hx, rfl⟩
  · exact ⟨h.low.1, fun c t f hc => by rw [h.blk] at hc; simp at hc; exact .inl hc.2.1.symm⟩
  · rcases (h.ok.pol.resolve_left (fun e => hp e.1)).1 with hp | hp
    · obtain ⟨pb, _, h2, _⟩ := (h.dir hp).blk
      exact ⟨(h.dir hp).low, fun c t f hc => by rw [h2] at hc; simp at hc; exact .inr (.inr (.inr (.inl hc.2.1.symm)))⟩
    · obtain ⟨c0, h2⟩ := (h.old hp).ty
      exact ⟨(h.old hp).low, fun c t f hc => by rw [h2] at hc; simp at hc; exact .inr (.inr (.inl hc.2.1.symm))⟩
  · obtain ⟨rb, v3, v4, h2⟩ := h.en_at hx
    exact ⟨h.low.2.2 x hx, fun c t f hc => by rw [h2] at hc; simp at hc; exact .inr (.inl hc.2.1.symm)⟩
theorem MmI.apart {w : World} {b0 mb eb ob : Nat} {EL : List (Ky × Nat)} {C : Mc} {R : Nat → Rs → Prop} {M : Ms} (h : MmI w b0 mb eb ob EL C R M) : eb ≠ mb ∧ (C.pol ≠ 0 → ob ≠ mb ∧ ob ≠ eb) ∧ ∀ x ∈ EL, x.2 ≠ mb ∧ x.2 ≠ eb ∧ (C.pol ≠ 0 → x.2 ≠ ob) := by
  have hb := h.blk
  obtain ⟨es, cl, hm, _⟩ := h.map
  have hob : C.pol ≠ 0 → ∃ c t, w.heap[ob]? = some (.cells c t (0, 0)) ∧ (t = 270 ∨ t = 275) := by
    intro hp
    rcases (h.ok.pol.resolve_left (fun e => hp e.1)).1 with hp | hp
    · obtain ⟨pb, _, h2, _⟩ := (h.dir hp).blk
      exact ⟨_, _, h2, .inl rfl⟩
    · obtain ⟨c0, h2⟩ := (h.old hp).ty
      exact ⟨_, _, h2, .inr rfl⟩
  refine ⟨fun e => ?_, fun hp => ⟨fun e => ?_, fun e => ?_⟩, fun x hx => ⟨fun e => ?_, fun e => ?_, fun hp e => ?_⟩⟩
  · rw [e, hb] at hm; simp at hm
  · obtain ⟨c, t, h2, h3⟩ := hob hp
    rw [e, hb] at h2
    rcases h3 with rfl | rfl <;> simp at h2
  · obtain ⟨c, t, h2, h3⟩ := hob hp
    rw [e, hm] at h2; simp at h2
  · obtain ⟨rb, v3, v4, h2⟩ := h.en_at hx
    rw [e, hb] at h2; simp at h2
  · obtain ⟨rb, v3, v4, h2⟩ := h.en_at hx
    rw [e, hm] at h2; simp at h2
  · obtain ⟨rb, v3, v4, h2⟩ := h.en_at hx
    obtain ⟨c, t, h4, h3⟩ := hob hp
    rw [e, h4] at h2
    rcases h3 with rfl | rfl <;> simp at h2
/-- Behind a hit. -/
theorem MmI.hit {w w3 : World} {b0 mb eb ob : Nat} {EL : List (Ky × Nat)} {C : Mc} {R : Nat → Rs → Prop} {M : Ms} (h : MmI w b0 mb eb ob EL C R M) (hh : M.hits < 100000) (hp : C.pol ≠ 0) {k : Ky} (hk : Kept (fun j => j = mb ∨ j = ob ∨ ∃ x ∈ EL, x.2 = j) w w3)
    (hb3 : w3.heap[mb]? = some (.cells #[.int .i64 (C.mask : Int), ordV C ob, .int .i32 1, .int .u32 0, .map (some eb), .int .i64 ((M.hits : Int) + 1)] 218 (0, 0)))
    (hen : ∀ b k rb, EnAt w b k rb → EnAt w3 b k rb) (hd : C.pol = 1 → DirI w3 b0 ob C.bud C.nr EL M.plc) (ho : C.pol = 2 → OldI w3 b0 ob C.bud EL (k :: M.ord.erase k)) :
    MmI (w3.setCell ⟨mb, 2, none⟩ (.int .i32 0)) b0 mb eb ob EL C R (mUse C { M with hits := M.hits + 1 } k) ∧ Kept (Mw b0 w) w (w3.setCell ⟨mb, 2, none⟩ (.int .i32 0)) := by
  obtain ⟨a1, a2, a3⟩ := h.apart
  have hk4 : Kept (· = mb) w3 (w3.setCell ⟨mb, 2, none⟩ (.int .i32 0)) := (Kept.refl (· = mb) w3).setCell (p := ⟨mb, 2, none⟩) (fun _ => rfl) _
  have hme : w3.heap[eb]? = w.heap[eb]? := hk.block eb h.map.lt (fun x => by
    rcases x with x | x | ⟨y, hy, e⟩
    · exact a1 x
    · exact (a2 hp).2 x.symm
    · exact (a3 y hy).2.1 e)
  have hH : (mUse C { M with hits := M.hits + 1 } k).hits = M.hits + 1 := by unfold mUse; split <;> rfl
  have hE : (mUse C { M with hits := M.hits + 1 } k).ent = M.ent := by unfold mUse; split <;> rfl
  have hP : (mUse C { M with hits := M.hits + 1 } k).plc = M.plc := by unfold mUse; split <;> rfl
  refine ⟨⟨h.ok, ?_, (h.map.same hme).same (hk4.block eb (by have := h.map.lt; have := hk.size; omega) a1), by rw [hE]; exact h.keys, h.nd, h.in_, fun i hi hi' => ?_, h.low, h.no0, fun hp1 => ?_, fun hp2 => ?_, by rw [hH]; omega⟩, ?_⟩
  · rw [heap_set_at hb3, hH]
    simp
  · simp only [hE] at hi' ⊢
    obtain ⟨rb, h1, h2⟩ := h.ent i hi hi'
    have h3 := hen _ _ _ h1
    exact ⟨rb, h3.same (hk4.block _ h3.lt (a3 _ (List.getElem_mem hi)).1), h2⟩
  · rw [hP]
    exact (hd hp1).kept hk4 (fun j c t f hc ht e => by
      have e' : j = mb := e
      rw [e', hb3] at hc
      rcases ht with rfl | rfl <;> simp at hc)
  · have : (mUse C { M with hits := M.hits + 1 } k).ord = k :: M.ord.erase k := by unfold mUse; rw [if_pos hp2]
    rw [this]
    exact (ho hp2).kept hk4 (a2 hp).1 (fun e he => (a3 e he).1)
  · refine Kept.setCell (S := Mw b0 w) (hk.mono (T := Mw b0 w) (fun j _ hj => h.mw ?_)) (p := ⟨mb, 2, none⟩) (fun _ => h.mw (.inl rfl)) _
    rcases hj with e | e | e
    · exact .inl e
    · exact .inr (.inl ⟨e, hp⟩)
    · exact .inr (.inr e)
theorem meth_useD (a : Addr) (w : World) : (method 444 219 (.pointer (some a)) "pegtable/memory.use").run Tryz.prog w = .ok (236, .pointer (some a)) w := by kernel_rfl
theorem meth_useO (a : Addr) (w : World) : (method 444 221 (.pointer (some a)) "pegtable/memory.use").run Tryz.prog w = .ok (240, .pointer (some a)) w := by kernel_rfl
theorem meth_addD (a : Addr) (w : World) : (method 444 219 (.pointer (some a)) "pegtable/memory.add").run Tryz.prog w = .ok (235, .pointer (some a)) w := by kernel_rfl
theorem meth_addO (a : Addr) (w : World) : (method 444 221 (.pointer (some a)) "pegtable/memory.add").run Tryz.prog w = .ok (238, .pointer (some a)) w := by kernel_rfl

structure FdOut (b0 mb : Nat) (C : Mc) (R : Nat → Rs → Prop) (X : Option Rs × Ms) (w : World) (e : Ending) (w' : World) : Prop where
  no : X.1 = none → e = .returned (.tuple #[.pointer none, .bool false])
  yes : ∀ r, X.1 = some r → ∃ rb, e = .returned (.tuple #[ptB' rb, .bool true]) ∧ R rb r
  st : ∃ eb ob EL, MmI w' b0 mb eb ob EL C R X.2
  kept : Kept (Mw b0 w) w w'

set_option maxRecDepth 100000 in
set_option maxHeartbeats 800000 in
theorem find_any (b0 mb eb ob : Nat) (EL : List (Ky × Nat)) (C : Mc) (R : Nat → Rs → Prop) (M : Ms) (k : Ky) (w : World) (h : MmI w b0 mb eb ob EL C R M) (hh : M.hits < 100000) :
    Calls Tryz.prog 103 #[ptB' mb, kyV k] w fun e w' => FdOut b0 mb C R (mFind C M k) w e w' := by
  have hb := h.blk
  have c1 : w.cell? ⟨mb, 1, none⟩ = some (ordV C ob) := by simp [World.cell?, hb]
  have c2 : w.cell? ⟨mb, 2, none⟩ = some (.int .i32 0) := by simp [World.cell?, hb]
  have c4 : w.cell? ⟨mb, 4, none⟩ = some (.map (some eb)) := by simp [World.cell?, hb]
  have c5 : w.cell? ⟨mb, 5, none⟩ = some (.int .i64 (M.hits : Int)) := by simp [World.cell?, hb]
  have f2 : w.frozen? ⟨mb, 2, none⟩ = false := by simp [World.frozen?, hb]
  have f5 : w.frozen? ⟨mb, 5, none⟩ = false := by simp [World.frozen?, hb]
  have hmb := lt_cell c2
  obtain ⟨w1, hw1⟩ : ∃ w1, w1 = ((w.setCell ⟨mb, 2, none⟩ (.int .i32 1)).alloc (.cells #[.int .i64 (k.inp : Int), .int .i64 (k.rule : Int), .int .i64 (k.place : Int)] 225)) := ⟨_, rfl⟩
  have hme : eb ≠ mb := by
    rintro rfl
    obtain ⟨es, c, h1, _⟩ := h.map
    rw [hb] at h1; simp at h1
  have hk1 : Kept (· = mb) w w1 := by rw [hw1]; exact ((Kept.refl (· = mb) w).setCell (p := ⟨mb, 2, none⟩) (fun _ => rfl) _).alloc _
  have hmap1 : MapIs w1 eb EL := h.map.same (hk1.block eb h.map.lt hme)
  have hlk := look_run hmap1 k
  have hlkN : ∀ n, (Instr.lookup 210 (.map (some eb)) (kyV k) true).run Tryz.prog (w1.drewN n) = .ok (.tuple #[optP ((eFi EL k 0).map (·.2)), .bool (eFi EL k 0).isSome]) (w1.drewN n) := fun n => look_run (show MapIs (w1.drewN n) eb EL from hmap1) k
  clear hlk
  have hL := fun (W : World) (hc : W.cell? ⟨mb, 2, none⟩ = some (.int .i32 0)) (hf : W.frozen? ⟨mb, 2, none⟩ = false) => lock_free Tryz.muLib ⟨mb, 2, none⟩ W hc hf
  have hb1 : w1.heap[mb]? = some (.cells #[.int .i64 (C.mask : Int), ordV C ob, .int .i32 1, .int .u32 0, .map (some eb), .int .i64 (M.hits : Int)] 218 (0, 0)) := by
    rw [hw1]
    exact (Below.heap_alloc _ _ _ (by simpa using hmb)).trans (heap_set_at hb 2 _)
  unfold kyV at *
  unfold ptB' at *
  go_enter_defers Tryz.func103, Tryz.ntmps103
  go_wp2_with fail
  refine (hL _ (by go_simp) (by go_simp)).mono ?_
  rintro e w2 ⟨rfl, rfl⟩
  go_wp2_with fail
  rw [← hw1]
  have d1 : w1.cell? ⟨mb, 1, none⟩ = some (ordV C ob) := by simp [World.cell?, hb1]
  have d2 : w1.cell? ⟨mb, 2, none⟩ = some (.int .i32 1) := by simp [World.cell?, hb1]
  have d4 : w1.cell? ⟨mb, 4, none⟩ = some (.map (some eb)) := by simp [World.cell?, hb1]
  have d5 : w1.cell? ⟨mb, 5, none⟩ = some (.int .i64 (M.hits : Int)) := by simp [World.cell?, hb1]
  have e2 : w1.frozen? ⟨mb, 2, none⟩ = false := by simp [World.frozen?, hb1]
  have e5 : w1.frozen? ⟨mb, 5, none⟩ = false := by simp [World.frozen?, hb1]
  have hsz : w.heap.size + 1 = w1.heap.size := by rw [hw1]; simp
  have hkb : w1.heap[w.heap.size]? = some (.cells #[.int .i64 (k.inp : Int), .int .i64 (k.rule : Int), .int .i64 (k.place : Int)] 225 (0, 0)) := by
    rw [hw1]; have := heap_alloc_new (w.setCell ⟨mb, 2, none⟩ (.int .i32 1)) (.cells #[.int .i64 (k.inp : Int), .int .i64 (k.rule : Int), .int .i64 (k.place : Int)] 225); simpa using this
  have k0 : w1.cell? ⟨w.heap.size, 0, none⟩ = some (.int .i64 (k.inp : Int)) := by simp [World.cell?, hkb]
  have k1 : w1.cell? ⟨w.heap.size, 1, none⟩ = some (.int .i64 (k.rule : Int)) := by simp [World.cell?, hkb]
  have k2 : w1.cell? ⟨w.heap.size, 2, none⟩ = some (.int .i64 (k.place : Int)) := by simp [World.cell?, hkb]
  cases hx : eFi EL k 0 with
  | none =>
    rw [hx] at hlkN
    have hg := eFi_none EL M.ent k 0 h.keys hx
    have HF : Hid (mFind C M k = (none, M)) := by unfold Hid mFind; rw [hg]
    simp only [Option.map_none, Option.isSome_none, optP] at hlkN
    have HK := fun nq => hide (relock (W := w1.drewN nq) hb (show w1.heap[mb]? = _ from hb1) rfl (hk1.drewN nq))
    clear hb1 hk1 hmap1 hw1 hkb hL hg hb
    go_quiet (fail)
    go_wp2
    refine leaves_cons (f := 109) (args := #[.pointer (some ⟨mb, 2, none⟩)]) (by simp) (by simp [go_sem]) ?_
    refine (unlock_deferred Tryz.muLib ⟨mb, 2, none⟩ .returning (w1.drewN nq) d2 e2).mono ?_
    rintro e u' w'' ⟨rfl, rfl, rfl⟩
    rw [HF.out]
    exact ⟨_, results_tmp2 rfl _ _ _, fun _ => rfl, fun r hr => (by cases hr), ⟨eb, ob, EL, h.same (HK nq).out⟩, (HK nq).out.mono (fun _ _ x => x.elim)⟩
  | some x =>
    obtain ⟨j, b⟩ := x
    rw [hx] at hlkN
    obtain ⟨q, hj, hq1, hq2, hEL, hg⟩ := eFi_some EL M.ent k 0 j b h.keys hx
    obtain ⟨rb, hen, hR⟩ := h.ent q hq1 hq2
    rw [hEL] at hen
    dsimp only at hen
    have hmem : (k, b) ∈ EL := by rw [← hEL]; exact List.getElem_mem hq1
    have hpol : C.pol ≠ 0 := fun e => by rw [h.no0 e] at hmem; cases hmem
    have HF : Hid (mFind C M k = (some M.ent[q].2, mUse C { M with hits := M.hits + 1 } k)) := by unfold Hid mFind; rw [hg]
    simp only [Option.map_some, Option.isSome_some, optP] at hlkN
    have hbm : b ≠ mb := by
      rintro rfl
      obtain ⟨v3, v4, h1⟩ := hen
      rw [hb] at h1; simp at h1
    have hmbb : ¬ mb = b := fun e => hbm e.symm
    have hmo : C.pol = 2 → ob ≠ mb := by
      intro hp e
      obtain ⟨fr, _, hcf⟩ := (h.old hp).free
      rw [e, celOf_at hb] at hcf
      simp at hcf
    rcases (h.ok.pol.resolve_left (fun e => hpol e.1)).1 with hp | hp
    · have hov : ordV C ob = .iface 219 (.pointer (some ⟨ob, 0, none⟩)) := by unfold ordV ptB'; rw [if_pos hp]
      rw [hov] at d1
      have hU := fun W => useD_any ob b W
      have hme1 := meth_useD
      unfold ptB' at hU
      clear hmap1 hw1 hkb hL hg
      go_quiet (fail)
      go_wp2_with fail
      obtain ⟨w2, hw2⟩ : ∃ w2, w2 = (w1.drewN nq).setCell ⟨mb, 5, none⟩ (.int .i64 ((M.hits : Int) + 1)) := ⟨_, rfl⟩
      rw [← hw2]
      have hb2 : w2.heap[mb]? = some (.cells #[.int .i64 (C.mask : Int), ordV C ob, .int .i32 1, .int .u32 0, .map (some eb), .int .i64 ((M.hits : Int) + 1)] 218 (0, 0)) := by
        rw [hw2]; exact heap_set_at (show (w1.drewN nq).heap[mb]? = _ from hb1) 5 _
      have hk2 : Kept (· = mb) w w2 := by rw [hw2]; exact (hk1.drewN nq).setCell (p := ⟨mb, 5, none⟩) (fun _ => rfl) _
      rw [hov] at hb2
      have g1 : w2.cell? ⟨mb, 1, none⟩ = some (.iface 219 (.pointer (some ⟨ob, 0, none⟩))) := by simp [World.cell?, hb2]
      have g2 : w2.cell? ⟨mb, 2, none⟩ = some (.int .i32 1) := by simp [World.cell?, hb2]
      have g3 : w2.frozen? ⟨mb, 2, none⟩ = false := by simp [World.frozen?, hb2]
      have hen2 : EnAt w2 b k rb := hen.same (hk2.block b hen.lt hbm)
      have g5 : w2.cell? ⟨b, 5, none⟩ = some (.pointer (some ⟨rb, 0, none⟩)) := by
        obtain ⟨v3, v4, h1⟩ := hen2
        simp [World.cell?, h1, ptB']
      clear hb1 hk1 hw2 d1 d2 d4 d5 e2 e5 k0 k1 k2 hlkN c1 c2 c4 c5 f2 f5
      go_region_held3 (fun w' => w'.cell? ⟨mb, 1, none⟩ = some (.iface 219 (.pointer (some ⟨ob, 0, none⟩)))) (go_keep) ((go_at_call 236; refine (hU _).mono ?_; rintro e w3 ⟨rfl, rfl⟩))
      go_wp2
      refine leaves_cons (f := 109) (args := #[.pointer (some ⟨mb, 2, none⟩)]) (by simp) (by simp [go_sem]) ?_
      refine (unlock_deferred Tryz.muLib ⟨mb, 2, none⟩ .returning w2.drew g2 g3).mono ?_
      rintro e u' w'' ⟨rfl, rfl, rfl⟩
      rw [HF.out]
      have hfin := h.hit (w3 := w2.drew) (k := k) hh hpol ((hk2.mono (T := fun j => j = mb ∨ j = ob ∨ ∃ x ∈ EL, x.2 = j) (fun j _ e => Or.inl e)).drew) (show w2.heap[mb]? = _ by rw [hov]; exact hb2) (fun b k rb h' => h'.same (hk2.block b h'.lt (fun e => by
        obtain ⟨v3, v4, h1⟩ := h'
        have e' : b = mb := e
        rw [e', h.blk] at h1; simp at h1))) (fun hp1 => (h.dir hp1).kept hk2.drew (fun j c t f hc ht e => by
        have e' : j = mb := e
        rw [e', h.blk] at hc
        rcases ht with rfl | rfl <;> simp at hc)) (fun hp2 => by omega)
      exact ⟨_, results_tmp2 rfl _ _ _, fun hn => (by cases hn), fun r hr => (by cases hr; exact ⟨rb, rfl, hR⟩), ⟨eb, ob, EL, hfin.1⟩, hfin.2⟩
    · have hov : ordV C ob = .iface 221 (.pointer (some ⟨ob, 0, none⟩)) := by unfold ordV ptB'; rw [if_neg (by omega), if_pos hp]
      rw [hov] at d1
      have hme1 := meth_useO
      have hap := h.apart
      clear hmap1 hw1 hkb hL hg
      go_quiet (fail)
      go_wp2_with fail
      obtain ⟨w2, hw2⟩ : ∃ w2, w2 = (w1.drewN nq).setCell ⟨mb, 5, none⟩ (.int .i64 ((M.hits : Int) + 1)) := ⟨_, rfl⟩
      rw [← hw2]
      have hb2 : w2.heap[mb]? = some (.cells #[.int .i64 (C.mask : Int), ordV C ob, .int .i32 1, .int .u32 0, .map (some eb), .int .i64 ((M.hits : Int) + 1)] 218 (0, 0)) := by
        rw [hw2]; exact heap_set_at (show (w1.drewN nq).heap[mb]? = _ from hb1) 5 _
      have hk2 : Kept (· = mb) w w2 := by rw [hw2]; exact (hk1.drewN nq).setCell (p := ⟨mb, 5, none⟩) (fun _ => rfl) _
      rw [hov] at hb2
      have g1 : w2.cell? ⟨mb, 1, none⟩ = some (.iface 221 (.pointer (some ⟨ob, 0, none⟩))) := by simp [World.cell?, hb2]
      have hold2 : OldI w2.drew b0 ob C.bud EL M.ord := (h.old hp).kept (hk2.drew) (hap.2.1 hpol).1 (fun e he => (hap.2.2 e he).1)
      have hU := useO_old hold2 h.nd hmem
      unfold ptB' at hU
      have hen2 : ∀ b k rb, EnAt w b k rb → EnAt w2.drew b k rb := fun b k rb h' => h'.same (hk2.drew.block b h'.lt (fun e => by
        obtain ⟨v3, v4, h1⟩ := h'
        have e' : b = mb := e
        rw [e', h.blk] at h1; simp at h1))
      clear hb1 hk1 hw2 d1 d2 d4 d5 e2 e5 k0 k1 k2 hlkN c1 c2 c4 c5 f2 f5
      have hmbo : ¬ (mb = ob ∨ ∃ x ∈ EL, x.2 = mb) := fun e => by
        rcases e with e | ⟨x, hx, e⟩
        · exact (hap.2.1 hpol).1 e.symm
        · exact (hap.2.2 x hx).1 e
      have hmb2 : mb < w2.drew.heap.size := objAt_lt (show objAt w2 mb = _ from hb2)
      go_region_held3 (fun w' => w'.cell? ⟨mb, 1, none⟩ = some (.iface 221 (.pointer (some ⟨ob, 0, none⟩)))) (go_keep) ((go_at_call 240; refine hU.mono ?_; rintro e w3 ⟨rfl, ho3, he3, hk3⟩; have g1' : w3.cell? ⟨mb, 1, none⟩ = some (.iface 221 (.pointer (some ⟨ob, 0, none⟩))) := (hk3.cell (p := ⟨mb, 1, none⟩) hmb2 hmbo).trans g1))
      have hk3' : Kept (fun j => j = mb ∨ j = ob ∨ ∃ x ∈ EL, x.2 = j) w w3 := (hk2.drew.mono (T := fun j => j = mb ∨ j = ob ∨ ∃ x ∈ EL, x.2 = j) (fun j _ e => Or.inl e)).trans (hk3.mono (fun j _ e => Or.inr e))
      have hb3 : w3.heap[mb]? = some (.cells #[.int .i64 (C.mask : Int), .iface 221 (.pointer (some ⟨ob, 0, none⟩)), .int .i32 1, .int .u32 0, .map (some eb), .int .i64 ((M.hits : Int) + 1)] 218 (0, 0)) := (hk3.block mb hmb2 hmbo).trans hb2
      have g2 : w3.cell? ⟨mb, 2, none⟩ = some (.int .i32 1) := by simp [World.cell?, hb3]
      have g3 : w3.frozen? ⟨mb, 2, none⟩ = false := by simp [World.frozen?, hb3]
      have g5 : w3.cell? ⟨b, 5, none⟩ = some (.pointer (some ⟨rb, 0, none⟩)) := by
        obtain ⟨v3, v4, h1⟩ := he3 _ _ _ (hen2 _ _ _ hen)
        simp [World.cell?, h1, ptB']
      go_wp2
      refine leaves_cons (f := 109) (args := #[.pointer (some ⟨mb, 2, none⟩)]) (by simp) (by simp [go_sem]) ?_
      refine (unlock_deferred Tryz.muLib ⟨mb, 2, none⟩ .returning w3 g2 g3).mono ?_
      rintro e u' w'' ⟨rfl, rfl, rfl⟩
      rw [HF.out]
      have hfin := h.hit (w3 := w3) (k := k) hh hpol hk3' (by rw [hov]; exact hb3) (fun b k rb h' => he3 _ _ _ (hen2 _ _ _ h')) (fun hp1 => by omega) (fun _ => ho3)
      exact ⟨_, results_tmp2 rfl _ _ _, fun hn => (by cases hn), fun r hr => (by cases hr; exact ⟨rb, rfl, hR⟩), ⟨eb, ob, EL, hfin.1⟩, hfin.2⟩
end Go.Proofs.YtagklnaaoclmhaaGreatDoor

namespace Go.Proofs.YtagklnaaoclmhaaGreatDoor
open Go.RowKit Go.MuLone

structure KpOut (b0 mb : Nat) (C : Mc) (R : Nat → Rs → Prop) (X : Ms) (w : World) (e : Ending) (w' : World) : Prop where
  res : e = .returned (.tuple #[])
  st : ∃ eb ob EL, MmI w' b0 mb eb ob EL C R X
  kept : Kept (Mw b0 w) w w'

theorem bit_all : ∀ m : Fin 256, ∀ r : Fin 8, (bits BinOp.and IntKind.i64 ((m.val : Int) / 2 ^ r.val) 1 == 0) = decide (m.val / 2 ^ r.val % 2 = 0) := by decide +kernel
theorem bit_at {m r : Nat} (hm : m ≤ 255) (hr : r < 8) : (bits BinOp.and IntKind.i64 ((m : Int) / 2 ^ r) 1 == 0) = decide (m / 2 ^ r % 2 = 0) := bit_all ⟨m, by omega⟩ ⟨r, hr⟩

set_option maxRecDepth 100000 in
set_option maxHeartbeats 800000 in
theorem keep0_any (b0 mb eb ob : Nat) (EL : List (Ky × Nat)) (C : Mc) (R : Nat → Rs → Prop) (M : Ms) (k : Ky) (rb : Nat) (r : Rs) (w : World) (h : MmI w b0 mb eb ob EL C R M) (hk : KyIn k) (h0 : C.mask / 2 ^ k.rule % 2 = 0) :
    Calls Tryz.prog 152 #[ptB' mb, kyV k, ptB' rb] w fun e w' => KpOut b0 mb C R (mKeep C M k r) w e w' := by
  have hb := h.blk
  have c0 : w.cell? ⟨mb, 0, none⟩ = some (.int .i64 (C.mask : Int)) := by simp [World.cell?, hb]
  have hmb := lt_cell c0
  have HM : Hid (mKeep C M k r = M) := by unfold Hid mKeep; rw [if_pos h0]
  have hkr := hk.rule
  have hq := bit_at h.ok.mask hkr
  rw [decide_eq_true h0] at hq
  clear hb
  unfold kyV ptB' at *
  go_enter_defers Tryz.func152, Tryz.ntmps152
  go_wp2_with fail
  go_quiet (fail)
  go_wp2
  rw [HM.out]
  exact ⟨_, results_none rfl _ _ _, rfl, ⟨eb, ob, EL, h.same (((Kept.refl _ w).alloc _).drewN _)⟩, (((Kept.refl _ w).alloc _).drewN _)⟩

/-- Entries, pairwise. -/
def Pw (w : World) (R : Nat → Rs → Prop) (x : Ky × Nat) (y : Ky × Rs) : Prop := x.1 = y.1 ∧ ∃ rb, EnAt w x.2 x.1 rb ∧ R rb y.2
inductive F2 {α β : Type} (P : α → β → Prop) : List α → List β → Prop
  | nil : F2 P [] []
  | cons {a b l m} : P a b → F2 P l m → F2 P (a :: l) (b :: m)
theorem F2.len {α β : Type} {P : α → β → Prop} {l : List α} {m : List β} (h : F2 P l m) : l.length = m.length := by
  induction h with
  | nil => rfl
  | cons _ _ ih => simp [ih]
theorem F2.get {α β : Type} {P : α → β → Prop} {l : List α} {m : List β} (h : F2 P l m) : ∀ i (h1 : i < l.length) (h2 : i < m.length), P l[i] m[i] := by
  induction h with
  | nil => intro i h1; simp at h1
  | cons hp _ ih =>
    intro i h1 h2
    cases i with
    | zero => exact hp
    | succ i => simp only [List.getElem_cons_succ]; exact ih i _ _
theorem F2.mk' {α β : Type} {P : α → β → Prop} : ∀ {l : List α} {m : List β}, l.length = m.length → (∀ i (h1 : i < l.length) (h2 : i < m.length), P l[i] m[i]) → F2 P l m
  | [], [], _, _ => .nil
  | [], _ :: _, h, _ => by simp at h
  | _ :: _, [], h, _ => by simp at h
  | a :: l, b :: m, h, hp => .cons (hp 0 (by simp) (by simp)) (F2.mk' (by simpa using h) (fun i h1 h2 => by
      have := hp (i + 1) (by simp; omega) (by simp; omega)
      simpa using this))
theorem F2.app {α β : Type} {P : α → β → Prop} {l l' : List α} {m m' : List β} (h : F2 P l m) (h' : F2 P l' m') : F2 P (l ++ l') (m ++ m') := by
  induction h with
  | nil => exact h'
  | cons hp _ ih => exact .cons hp ih
theorem F2.mono {α β : Type} {P Q : α → β → Prop} {l : List α} {m : List β} (h : F2 P l m) (hPQ : ∀ a b, a ∈ l → P a b → Q a b) : F2 Q l m := by
  induction h with
  | nil => exact .nil
  | cons hp _ ih => exact .cons (hPQ _ _ (by simp) hp) (ih (fun a b ha => hPQ a b (List.mem_cons_of_mem _ ha)))
theorem MmI.f2 {w : World} {b0 mb eb ob : Nat} {EL : List (Ky × Nat)} {C : Mc} {R : Nat → Rs → Prop} {M : Ms} (h : MmI w b0 mb eb ob EL C R M) : F2 (Pw w R) EL M.ent := by
  have hl : EL.length = M.ent.length := by have := congrArg List.length h.keys; simpa using this
  refine F2.mk' hl (fun i h1 h2 => ⟨?_, h.ent i h1 h2⟩)
  have : (EL.map (·.1))[i]? = (M.ent.map (·.1))[i]? := by rw [h.keys]
  simpa [h1, h2] using this
theorem F2.keys {w : World} {R : Nat → Rs → Prop} {EL : List (Ky × Nat)} {L : List (Ky × Rs)} (h : F2 (Pw w R) EL L) : EL.map (·.1) = L.map (·.1) := by
  induction h with
  | nil => rfl
  | cons hp _ ih => simp [hp.1, ih]
theorem F2.rm {w : World} {R : Nat → Rs → Prop} {EL : List (Ky × Nat)} {L : List (Ky × Rs)} (h : F2 (Pw w R) EL L) (k : Ky) : F2 (Pw w R) (eRm EL k) (eDel L k) := by
  induction h with
  | nil => exact .nil
  | @cons a b l m hp hr ih =>
    rw [eRm, eDel, ← hp.1]
    by_cases hk : k = a.1
    · rw [if_pos hk, if_pos hk.symm]; exact hr
    · rw [if_neg hk, if_neg (fun e => hk e.symm)]; exact .cons hp ih
theorem F2.upd {w w' : World} {R : Nat → Rs → Prop} {EL : List (Ky × Nat)} {L : List (Ky × Rs)} (h : F2 (Pw w R) EL L) (hnd : (EL.map (·.1)).Nodup) {k : Ky} {b rb : Nat} {r : Rs} (hm : (k, b) ∈ EL) (hR : R rb r) (hb : EnAt w' b k rb) (ho : ∀ x ∈ EL, x.1 ≠ k → ∀ q, EnAt w x.2 x.1 q → EnAt w' x.2 x.1 q) : F2 (Pw w' R) EL (eSet L k r) := by
  induction h with
  | nil => cases hm
  | @cons a y l m hp hr ih =>
    rw [List.map_cons, List.nodup_cons] at hnd
    rw [eSet]
    have hoth : ∀ x ∈ l, x.1 ≠ k → ∀ q, EnAt w x.2 x.1 q → EnAt w' x.2 x.1 q := fun x hx => ho x (List.mem_cons_of_mem _ hx)
    by_cases hk : y.1 = k
    · rw [if_pos hk]
      have hak : a.1 = k := hp.1.trans hk
      have hab : a = (k, b) := by
        rcases List.mem_cons.1 hm with e | e
        · exact e.symm
        · exact absurd (List.mem_map_of_mem e) (by rw [← hak] at *; exact hnd.1)
      refine .cons ⟨hp.1, rb, by rw [hab]; exact hb, hR⟩ (hr.mono (fun x z hx hxz => ⟨hxz.1, ?_⟩))
      obtain ⟨q, h1, h2⟩ := hxz.2
      refine ⟨q, hoth x hx (fun e => hnd.1 ?_) q h1, h2⟩
      rw [hak, ← e]; exact List.mem_map_of_mem hx
    · rw [if_neg hk]
      have hak : a.1 ≠ k := fun e => hk (hp.1.symm.trans e)
      obtain ⟨q, h1, h2⟩ := hp.2
      refine .cons ⟨hp.1, q, ho a (by simp) hak q h1, h2⟩ (ih hnd.2 ?_ hoth)
      rcases List.mem_cons.1 hm with e | e
      · rw [← e] at hak; exact absurd rfl hak
      · exact e
/-- The memory behind a change, the lock still held. -/
theorem MmI.mk5 {w5 : World} {b0 mb eb ob : Nat} {EL' : List (Ky × Nat)} {C : Mc} {R : Nat → Rs → Prop} {M' : Ms} (hok : McOk C) (hb5 : w5.heap[mb]? = some (.cells #[.int .i64 (C.mask : Int), ordV C ob, .int .i32 1, .int .u32 0, .map (some eb), .int .i64 (M'.hits : Int)] 218 (0, 0)))
    (hmap : MapIs w5 eb EL') (hf : F2 (Pw w5 R) EL' M'.ent) (hnd : (EL'.map (·.1)).Nodup) (hin : ∀ e ∈ EL', KyIn e.1) (hlow : b0 ≤ mb ∧ b0 ≤ eb ∧ ∀ e ∈ EL', b0 ≤ e.2) (hp : C.pol ≠ 0)
    (hd : C.pol = 1 → DirI w5 b0 ob C.bud C.nr EL' M'.plc) (ho : C.pol = 2 → OldI w5 b0 ob C.bud EL' M'.ord) (hh : M'.hits ≤ 100000) :
    MmI (w5.setCell ⟨mb, 2, none⟩ (.int .i32 0)) b0 mb eb ob EL' C R M' := by
  have hk : Kept (· = mb) w5 (w5.setCell ⟨mb, 2, none⟩ (.int .i32 0)) := (Kept.refl (· = mb) w5).setCell (p := ⟨mb, 2, none⟩) (fun _ => rfl) _
  have hne : ∀ j c t, w5.heap[j]? = some (.cells c t (0, 0)) → t ≠ 218 → j ≠ mb := by
    intro j c t hj ht e
    rw [e, hb5] at hj; simp at hj; exact ht hj.2.symm
  refine ⟨hok, ?_, hmap.same (hk.block eb hmap.lt (fun e => ?_)), hf.keys, hnd, hin, fun i h1 h2 => ?_, hlow, fun e => absurd e hp, fun hp1 => (hd hp1).kept hk (fun j c t f hc ht e => ?_), fun hp2 => ?_, hh⟩
  · rw [heap_set_at hb5]; simp
  · obtain ⟨es, c, hm, _⟩ := hmap
    have e' : eb = mb := e
    rw [e', hb5] at hm; simp at hm
  · obtain ⟨_, rb, h3, h4⟩ := hf.get i h1 h2
    refine ⟨rb, h3.same (hk.block _ h3.lt ?_), h4⟩
    obtain ⟨v3, v4, h5⟩ := h3
    exact hne _ _ _ h5 (by decide)
  · have e' : j = mb := e
    rw [e', hb5] at hc
    rcases ht with rfl | rfl <;> simp at hc
  · obtain ⟨c0, h0⟩ := (ho hp2).ty
    refine (ho hp2).kept hk (hne _ _ _ h0 (by decide)) (fun e he => ?_)
    obtain ⟨i, hi, rfl⟩ := List.getElem_of_mem he
    obtain ⟨_, rb, ⟨v3, v4, h5⟩, _⟩ := hf.get i hi (by rw [← hf.len]; exact hi)
    exact hne _ _ _ h5 (by decide)
end Go.Proofs.YtagklnaaoclmhaaGreatDoor
