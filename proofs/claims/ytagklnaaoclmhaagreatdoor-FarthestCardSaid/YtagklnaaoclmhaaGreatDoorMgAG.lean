import Derived.Test.YtagklnaaoclmhaaGreatDoorMgAF
import Derived.Maps.OwnSet
import Derived.Deep.RegionWith
set_option linter.unusedSimpArgs false
set_option linter.unusedVariables false
namespace Go.Proofs.YtagklnaaoclmhaaGreatDoor
open Go.RowKit Go.MuLone

/-- Behind the lock. -/
structure LkF (w w1 : World) (mb eb ob : Nat) (EL : List (Ky × Nat)) (C : Mc) (M : Ms) (k : Ky) : Prop where
  kept : Kept (· = mb) w w1
  map : MapIs w1 eb EL
  blk : w1.heap[mb]? = some (.cells #[.int .i64 (C.mask : Int), ordV C ob, .int .i32 1, .int .u32 0, .map (some eb), .int .i64 (M.hits : Int)] 218 (0, 0))
  key : w1.heap[w.heap.size]? = some (.cells #[.int .i64 (k.inp : Int), .int .i64 (k.rule : Int), .int .i64 (k.place : Int)] 225 (0, 0))
  size : w1.heap.size = w.heap.size + 1
theorem MmI.locked {w : World} {b0 mb eb ob : Nat} {EL : List (Ky × Nat)} {C : Mc} {R : Nat → Rs → Prop} {M : Ms} (h : MmI w b0 mb eb ob EL C R M) (k : Ky) (n : Nat) : LkF w (((w.alloc (.cells #[.int .i64 (k.inp : Int), .int .i64 (k.rule : Int), .int .i64 (k.place : Int)] 225)).drewN n).setCell ⟨mb, 2, Option.none⟩ (.int .i32 1)) mb eb ob EL C M k := by
  have hmb := objAt_lt (show objAt w mb = _ from h.blk)
  have hk : Kept (· = mb) w (((w.alloc (.cells #[.int .i64 (k.inp : Int), .int .i64 (k.rule : Int), .int .i64 (k.place : Int)] 225)).drewN n).setCell ⟨mb, 2, Option.none⟩ (.int .i32 1)) := (((Kept.refl (· = mb) w).alloc _).drewN n).setCell (p := ⟨mb, 2, Option.none⟩) (fun _ => rfl) _
  refine ⟨hk, h.map.same (hk.block eb h.map.lt h.apart.1), ?_, ?_, by simp⟩
  · exact heap_set_at (show ((w.alloc _).drewN n).heap[mb]? = _ from (Below.heap_alloc _ _ _ hmb).trans h.blk) 2 _
  · rw [Below.heap_setCell _ _ _ _ (show w.heap.size ≠ mb by omega)]
    exact heap_alloc_new w _
theorem LkF.look {w w1 : World} {mb eb ob : Nat} {EL : List (Ky × Nat)} {C : Mc} {M : Ms} {k : Ky} (h : LkF w w1 mb eb ob EL C M k) (n : Nat) : (Instr.lookup 210 (.map (some eb)) (.agg #[.int .i64 (k.inp : Int), .int .i64 (k.rule : Int), .int .i64 (k.place : Int)]) true).run Tryz.prog (w1.drewN n) = .ok (.tuple #[optP ((eFi EL k 0).map (·.2)), .bool (eFi EL k 0).isSome]) (w1.drewN n) := look_run (show MapIs (w1.drewN n) eb EL from h.map) k

/-- An entry's value is another one. -/
theorem OldI.val {w : World} {b0 ob bud : Nat} {EL : List (Ky × Nat)} {ks : List Ky} (h : OldI w b0 ob bud EL ks) {b : Nat} (hb : b ≠ ob) (v : Value) : OldI (w.setCell ⟨b, 5, none⟩ v) b0 ob bud EL ks := by
  obtain ⟨OL, hp, hks, od, nw, hr, hl⟩ := h.ex
  obtain ⟨fr, hfr, hcf⟩ := h.free
  refine ⟨⟨OL, hp, hks, od, nw, hr, fun x hx => ?_⟩, ⟨fr, hfr, ?_⟩, h.low⟩
  · have h1 := hl x hx
    unfold Lnk at h1 ⊢
    by_cases hxb : x = b
    · subst hxb
      have h2 := heap_set_at h1 5 v
      rw [h2]
      have h3 : celOf (w.setCell ⟨x, 5, none⟩ v) x = { celOf w x with a5 := v } := by
        have h2' : (w.setCell ⟨x, 5, none⟩ v).heap[x]? = some (.cells #[(celOf w x).a0, (celOf w x).a1, (celOf w x).a2, ptB' (od x), ptB' (nw x), v] (celOf w x).ty (0, 0)) := by rw [h2]; simp
        exact celOf_at h2'
      rw [h3]
      simp
    · have he : (w.setCell ⟨b, 5, none⟩ v).heap[x]? = w.heap[x]? := Below.heap_setCell _ _ _ _ (show x ≠ b from hxb)
      have h3 : celOf (w.setCell ⟨b, 5, none⟩ v) x = celOf w x := by unfold celOf; rw [he]
      rw [he, h3]; exact h1
  · have he : (w.setCell ⟨b, 5, none⟩ v).heap[ob]? = w.heap[ob]? := Below.heap_setCell _ _ _ _ (show ob ≠ b from fun e => hb e.symm)
    unfold celOf at hcf ⊢
    rw [he]; exact hcf

set_option maxRecDepth 100000 in
set_option maxHeartbeats 1600000 in
theorem keep1_any (b0 mb eb ob : Nat) (EL : List (Ky × Nat)) (C : Mc) (R : Nat → Rs → Prop) (M : Ms) (k : Ky) (rb b j : Nat) (r : Rs) (w : World) (h : MmI w b0 mb eb ob EL C R M) (hk : KyIn k) (h1 : ¬ C.mask / 2 ^ k.rule % 2 = 0) (hR : R rb r) (hx : eFi EL k 0 = some (j, b)) :
    Calls Tryz.prog 152 #[ptB' mb, kyV k, ptB' rb] w fun e w' => KpOut b0 mb C R (mKeep C M k r) w e w' := by
  have hb := h.blk
  have hap := h.apart
  have c0 : w.cell? ⟨mb, 0, none⟩ = some (.int .i64 (C.mask : Int)) := by simp [World.cell?, hb]
  have c2 : w.cell? ⟨mb, 2, none⟩ = some (.int .i32 0) := by simp [World.cell?, hb]
  have f2 : w.frozen? ⟨mb, 2, none⟩ = false := by simp [World.frozen?, hb]
  have hmb := lt_cell c0
  have hkr := hk.rule
  have hq := bit_at h.ok.mask hkr
  rw [decide_eq_false h1] at hq
  obtain ⟨q, hj, hq1, hq2, hEL, hg⟩ := eFi_some EL M.ent k 0 j b h.keys hx
  have hmem : (k, b) ∈ EL := by rw [← hEL]; exact List.getElem_mem hq1
  obtain ⟨rb0, hen⟩ := h.en_at hmem
  dsimp only at hen
  have hpol : C.pol ≠ 0 := fun e => by rw [h.no0 e] at hmem; cases hmem
  have HM : Hid (mKeep C M k r = mUse C { M with ent := eSet M.ent k r } k) := by
    unfold Hid mKeep; rw [if_neg h1, hg]; rfl
  have hL := fun (W : World) (hc : W.cell? ⟨mb, 2, none⟩ = some (.int .i32 0)) (hf : W.frozen? ⟨mb, 2, none⟩ = false) => lock_free Tryz.muLib ⟨mb, 2, none⟩ W hc hf
  unfold kyV ptB' at *
  clear hb
  go_enter_defers Tryz.func152, Tryz.ntmps152
  go_wp2_with fail
  go_quiet (fail)
  go_wp2_with fail
  refine (hL _ (by go_simp) (by go_simp)).mono ?_
  rintro e w2 ⟨rfl, rfl⟩
  go_wp2_with fail
  have hF := h.locked k nq
  obtain ⟨w1, hw1⟩ : ∃ w1, w1 = (((w.alloc (.cells #[.int .i64 (k.inp : Int), .int .i64 (k.rule : Int), .int .i64 (k.place : Int)] 225)).drewN nq).setCell ⟨mb, 2, none⟩ (.int .i32 1)) := ⟨_, rfl⟩
  rw [← hw1] at hF
  rw [← hw1]
  clear hw1 c0 c2 f2 hL hq
  have hlkN := hF.look
  rw [hx] at hlkN
  simp only [Option.map_some, Option.isSome_some, optP] at hlkN
  have d4 : w1.cell? ⟨mb, 4, none⟩ = some (.map (some eb)) := by simp [World.cell?, hF.blk]
  have k0 : w1.cell? ⟨w.heap.size, 0, none⟩ = some (.int .i64 (k.inp : Int)) := by simp [World.cell?, hF.key]
  have k1 : w1.cell? ⟨w.heap.size, 1, none⟩ = some (.int .i64 (k.rule : Int)) := by simp [World.cell?, hF.key]
  have k2 : w1.cell? ⟨w.heap.size, 2, none⟩ = some (.int .i64 (k.place : Int)) := by simp [World.cell?, hF.key]
  have hen1 : EnAt w1 b k rb0 := hen.same (hF.kept.block b hen.lt (hap.2.2 _ hmem).1)
  obtain ⟨v3, v4, hbk⟩ := hen1
  have g5 : w1.cell? ⟨b, 5, none⟩ = some (.pointer (some ⟨rb0, 0, none⟩)) := by simp [World.cell?, hbk, ptB']
  have gf5 : w1.frozen? ⟨b, 5, none⟩ = false := by simp [World.frozen?, hbk]
  go_quiet (fail)
  go_wp2_with fail
  obtain ⟨w2, hw2⟩ : ∃ w2, w2 = (w1.drewN nq).setCell ⟨b, 5, none⟩ (.pointer (some ⟨rb, 0, none⟩)) := ⟨_, rfl⟩
  rw [← hw2]
  have hbm : b ≠ mb := (hap.2.2 _ hmem).1
  have hbo : b ≠ ob := (hap.2.2 _ hmem).2.2 hpol
  have hk12 : Kept (· = b) w1 w2 := by rw [hw2]; exact ((Kept.refl (· = b) w1).drewN _).setCell (p := ⟨b, 5, none⟩) (fun _ => rfl) _
  have hmb1 : mb < w1.heap.size := objAt_lt (show objAt w1 mb = _ from hF.blk)
  have hb2 : w2.heap[mb]? = _ := (hk12.block mb hmb1 (fun e => hbm e.symm)).trans hF.blk
  have hk2 : Kept (fun j => j = mb ∨ j = ob ∨ ∃ x ∈ EL, x.2 = j) w w2 := (hF.kept.mono (T := fun j => j = mb ∨ j = ob ∨ ∃ x ∈ EL, x.2 = j) (fun j _ e => Or.inl e)).trans (hk12.mono (fun j _ e => Or.inr (Or.inr ⟨(k, b), hmem, (show j = b from e).symm⟩)))
  have hmap2 : MapIs w2 eb EL := hF.map.same (hk12.block eb hF.map.lt (fun e => (hap.2.2 _ hmem).2.1 e.symm))
  have henb : EnAt w2 b k rb := ⟨v3, v4, by rw [hw2, heap_set_at (show (w1.drewN nq).heap[b]? = _ from hbk)]; rfl⟩
  have henx : ∀ x ∈ EL, x.1 ≠ k → ∀ q, EnAt w x.2 x.1 q → EnAt w2 x.2 x.1 q := by
    intro x hx hne q hq
    have hxb : x.2 ≠ b := by
      intro e
      obtain ⟨u3, u4, hu⟩ := hq
      obtain ⟨t3, t4, ht⟩ := hen
      rw [e, ht] at hu
      have hA := (Obj.cells.inj (Option.some.inj hu)).1
      have e1 := congrArg (fun a => a[0]?) hA
      have e2 := congrArg (fun a => a[1]?) hA
      have e3 := congrArg (fun a => a[2]?) hA
      simp at e1 e2 e3
      apply hne
      obtain ⟨⟨i, r, p⟩, z⟩ := x
      obtain ⟨i', r', p'⟩ := k
      simp at e1 e2 e3 ⊢
      exact ⟨by omega, by omega, by omega⟩
    have h1 := hq.same (hF.kept.block x.2 hq.lt (hap.2.2 x hx).1)
    exact h1.same (hk12.block x.2 h1.lt hxb)
  have hf2 := h.f2.upd h.nd (r := r) hmem hR henb henx
  have hdir : C.pol = 1 → DirI w2 b0 ob C.bud C.nr EL M.plc := fun hp1 => ((h.dir hp1).kept hF.kept (fun j c t f hc ht e => by
    have e' : j = mb := e
    rw [e', h.blk] at hc
    rcases ht with rfl | rfl <;> simp at hc)).kept hk12 (fun j c t f hc ht e => by
    have e' : j = b := e
    rw [e', hbk] at hc
    rcases ht with rfl | rfl <;> simp at hc)
  have hold : C.pol = 2 → OldI w2 b0 ob C.bud EL M.ord := fun hp2 => by
    rw [hw2]
    have h1 := (h.old hp2).kept hF.kept (hap.2.1 hpol).1 (fun e he => (hap.2.2 e he).1)
    have h2 : OldI (w1.drewN nq) b0 ob C.bud EL M.ord := h1.kept ((Kept.refl (fun _ => False) w1).drewN nq) (fun x => x) (fun _ _ x => x)
    exact h2.val hbo _
  have hlow := h.low
  have hnd := h.nd
  have hin := h.in_
  have hok := h.ok
  have hhits := h.hits
  have hE : (mUse C { M with ent := eSet M.ent k r } k).ent = eSet M.ent k r := by unfold mUse; split <;> rfl
  have hH : (mUse C { M with ent := eSet M.ent k r } k).hits = M.hits := by unfold mUse; split <;> rfl
  have hP : (mUse C { M with ent := eSet M.ent k r } k).plc = M.plc := by unfold mUse; split <;> rfl
  have hmw : ∀ j, (j = mb ∨ j = ob ∨ ∃ x ∈ EL, x.2 = j) → Mw b0 w j := fun j hj => by
    rcases hj with e | e | e
    · exact h.mw (.inl e)
    · exact h.mw (.inr (.inl ⟨e, hpol⟩))
    · exact h.mw (.inr (.inr e))
  clear hF hw2 d4 k0 k1 k2 hlkN g5 gf5 hbk
  rcases (h.ok.pol.resolve_left (fun e => hpol e.1)).1 with hp | hp
  · have hov : ordV C ob = .iface 219 (.pointer (some ⟨ob, 0, none⟩)) := by unfold ordV ptB'; rw [if_pos hp]
    have hU := fun W => useD_any ob b W
    have hme1 := meth_useD
    unfold ptB' at hU
    have g1 : w2.cell? ⟨mb, 1, none⟩ = some (.iface 219 (.pointer (some ⟨ob, 0, none⟩))) := by rw [← hov]; simp [World.cell?, hb2]
    have g2 : w2.cell? ⟨mb, 2, none⟩ = some (.int .i32 1) := by simp [World.cell?, hb2]
    have g3 : w2.frozen? ⟨mb, 2, none⟩ = false := by simp [World.frozen?, hb2]
    go_region_held3 (fun w' => w'.cell? ⟨mb, 1, none⟩ = some (.iface 219 (.pointer (some ⟨ob, 0, none⟩)))) (go_keep) ((go_at_call 236; refine (hU _).mono ?_; rintro e w3 ⟨rfl, rfl⟩))
    go_wp2
    refine leaves_cons (f := 109) (args := #[.pointer (some ⟨mb, 2, none⟩)]) (by simp) (by simp [go_sem]) ?_
    refine (unlock_deferred Tryz.muLib ⟨mb, 2, none⟩ .returning w2.drew g2 g3).mono ?_
    rintro e u' w'' ⟨rfl, rfl, rfl⟩
    rw [HM.out]
    have hfin := MmI.mk5 (w5 := w2.drew) (b0 := b0) (M' := mUse C { M with ent := eSet M.ent k r } k) hok (by rw [hH]; exact hb2) hmap2 (by rw [hE]; exact hf2) hnd hin hlow hpol (fun hp1 => by rw [hP]; exact (hdir hp1).kept (Kept.refl (fun _ => False) w2).drew (fun _ _ _ _ _ _ x => x)) (fun hp2 => by omega) (by rw [hH]; exact hhits)
    exact ⟨_, results_none rfl _ _ _, rfl, ⟨eb, ob, EL, hfin⟩, Kept.setCell (S := Mw b0 w) ((hk2.mono (T := Mw b0 w) (fun j _ hj => hmw j hj)).drew) (p := ⟨mb, 2, none⟩) (fun _ => hmw mb (.inl rfl)) _⟩
  · have hov : ordV C ob = .iface 221 (.pointer (some ⟨ob, 0, none⟩)) := by unfold ordV ptB'; rw [if_neg (by omega), if_pos hp]
    have hme1 := meth_useO
    have hU := useO_old (show OldI w2.drew b0 ob C.bud EL M.ord from (hold hp).kept (Kept.refl (fun _ => False) w2).drew (fun x => x) (fun _ _ x => x)) hnd hmem
    unfold ptB' at hU
    have g1 : w2.cell? ⟨mb, 1, none⟩ = some (.iface 221 (.pointer (some ⟨ob, 0, none⟩))) := by rw [← hov]; simp [World.cell?, hb2]
    have hmbo : ¬ (mb = ob ∨ ∃ x ∈ EL, x.2 = mb) := fun e => by
      rcases e with e | ⟨x, hx, e⟩
      · exact (hap.2.1 hpol).1 e.symm
      · exact (hap.2.2 x hx).1 e
    have hmb2 : mb < w2.drew.heap.size := objAt_lt (show objAt w2 mb = _ from hb2)
    go_region_held3 (fun w' => w'.cell? ⟨mb, 1, none⟩ = some (.iface 221 (.pointer (some ⟨ob, 0, none⟩)))) (go_keep) ((go_at_call 240; refine hU.mono ?_; rintro e w3 ⟨rfl, ho3, he3, hk3⟩; have g1' : w3.cell? ⟨mb, 1, none⟩ = some (.iface 221 (.pointer (some ⟨ob, 0, none⟩))) := (hk3.cell (p := ⟨mb, 1, none⟩) hmb2 hmbo).trans g1))
    have hb3 := (hk3.block mb hmb2 hmbo).trans hb2
    have g2 : w3.cell? ⟨mb, 2, none⟩ = some (.int .i32 1) := by simp [World.cell?, hb3]
    have g3 : w3.frozen? ⟨mb, 2, none⟩ = false := by simp [World.frozen?, hb3]
    go_wp2
    refine leaves_cons (f := 109) (args := #[.pointer (some ⟨mb, 2, none⟩)]) (by simp) (by simp [go_sem]) ?_
    refine (unlock_deferred Tryz.muLib ⟨mb, 2, none⟩ .returning w3 g2 g3).mono ?_
    rintro e u' w'' ⟨rfl, rfl, rfl⟩
    rw [HM.out]
    have hmap3 : MapIs w3 eb EL := hmap2.same (hk3.block eb hmap2.lt (fun e => by
      rcases e with e | ⟨x, hx, e⟩
      · exact (hap.2.1 hpol).2 e.symm
      · exact (hap.2.2 x hx).2.1 e))
    have hfin := MmI.mk5 (w5 := w3) (b0 := b0) (M' := mUse C { M with ent := eSet M.ent k r } k) hok (by rw [hH]; exact hb3) hmap3 (by
      rw [hE]
      exact hf2.mono (fun a b _ hab => ⟨hab.1, by obtain ⟨q, h1, h2⟩ := hab.2; exact ⟨q, he3 _ _ _ h1, h2⟩⟩)) hnd hin hlow hpol (fun hp1 => by omega) (fun hp2 => by
      have : (mUse C { M with ent := eSet M.ent k r } k).ord = k :: M.ord.erase k := by unfold mUse; rw [if_pos hp2]
      rw [this]; exact ho3) (by rw [hH]; exact hhits)
    exact ⟨_, results_none rfl _ _ _, rfl, ⟨eb, ob, EL, hfin⟩, Kept.setCell (S := Mw b0 w) ((hk2.drew.trans (hk3.mono (fun j _ e => Or.inr e))).mono (T := Mw b0 w) (fun j _ hj => hmw j hj)) (p := ⟨mb, 2, none⟩) (fun _ => hmw mb (.inl rfl)) _⟩
end Go.Proofs.YtagklnaaoclmhaaGreatDoor

namespace Go.Proofs.YtagklnaaoclmhaaGreatDoor
open Go.RowKit Go.MuLone

def bOf : List (Ky × Nat) → Ky → Option Nat
  | [], _ => none
  | e :: l, k => if k = e.1 then some e.2 else bOf l k
theorem bOf_eFi : ∀ (EL : List (Ky × Nat)) (k : Ky) (i : Nat), (eFi EL k i).map (·.2) = bOf EL k
  | [], _, _ => rfl
  | e :: l, k, i => by
    rw [eFi, bOf]
    split
    · rfl
    · exact bOf_eFi l k (i + 1)
theorem bOf_rm : ∀ (EL : List (Ky × Nat)) (g k : Ky), k ≠ g → bOf (eRm EL g) k = bOf EL k
  | [], _, _, _ => rfl
  | e :: l, g, k, h => by
    rw [eRm]
    split
    · next hg => rw [bOf, if_neg (by rw [← hg]; exact h)]
    · rw [bOf, bOf, bOf_rm l g k h]
theorem bOf_app : ∀ (EL : List (Ky × Nat)) (k k' : Ky) (b : Nat), bOf (EL ++ [(k, b)]) k' = (bOf EL k').or (if k' = k then some b else none)
  | [], k, k', b => by simp [bOf]
  | e :: l, k, k', b => by
    rw [List.cons_append, bOf, bOf, bOf_app l k k' b]
    split <;> simp
theorem bOf_mem : ∀ (EL : List (Ky × Nat)) (k : Ky) (b : Nat), bOf EL k = some b → (k, b) ∈ EL
  | [], _, _, h => by cases h
  | e :: l, k, b, h => by
    rw [bOf] at h
    split at h
    · next hk => cases h; rw [hk]; simp
    · exact List.mem_cons_of_mem _ (bOf_mem l k b h)
theorem bOf_some : ∀ (EL : List (Ky × Nat)) (k : Ky) (b : Nat), (EL.map (·.1)).Nodup → (k, b) ∈ EL → bOf EL k = some b
  | [], _, _, _, h => by cases h
  | e :: l, k, b, hn, h => by
    rw [bOf]
    rcases List.mem_cons.1 h with e1 | e1
    · rw [← e1]; simp
    · rw [List.map_cons, List.nodup_cons] at hn
      rw [if_neg (fun he => hn.1 (by rw [← he]; exact List.mem_map_of_mem e1))]
      exact bOf_some l k b hn.2 e1
theorem eRm_sub : ∀ (EL : List (Ky × Nat)) (g : Ky), ∀ x ∈ eRm EL g, x ∈ EL
  | [], _, _, h => h
  | e :: l, g, x, h => by
    rw [eRm] at h
    split at h
    · exact List.mem_cons_of_mem _ h
    · rcases List.mem_cons.1 h with e1 | e1
      · rw [e1]; simp
      · exact List.mem_cons_of_mem _ (eRm_sub l g x e1)
theorem eRm_not : ∀ (EL : List (Ky × Nat)) (g : Ky), (EL.map (·.1)).Nodup → ∀ x ∈ eRm EL g, x.1 ≠ g
  | [], _, _, _, h => by cases h
  | e :: l, g, hn, x, h => by
    rw [List.map_cons, List.nodup_cons] at hn
    rw [eRm] at h
    split at h
    · next hg => intro e1; exact hn.1 (by rw [← hg, ← e1]; exact List.mem_map_of_mem h)
    · next hg =>
      rcases List.mem_cons.1 h with e1 | e1
      · rw [e1]; exact fun e2 => hg e2.symm
      · exact eRm_not l g hn.2 x e1
theorem eRm_mem : ∀ (EL : List (Ky × Nat)) (g : Ky), ∀ x ∈ EL, x.1 ≠ g → x ∈ eRm EL g
  | [], _, _, h, _ => h
  | e :: l, g, x, h, hne => by
    rw [eRm]
    rcases List.mem_cons.1 h with e1 | e1
    · rw [if_neg (fun e2 => hne (by rw [e1, e2])), e1]; simp
    · split
      · exact e1
      · exact List.mem_cons_of_mem _ (eRm_mem l g x e1 hne)
theorem eRm_nd : ∀ (EL : List (Ky × Nat)) (g : Ky), (EL.map (·.1)).Nodup → ((eRm EL g).map (·.1)).Nodup
  | [], _, h => h
  | e :: l, g, hn => by
    rw [List.map_cons, List.nodup_cons] at hn
    rw [eRm]
    split
    · exact hn.2
    · rw [List.map_cons, List.nodup_cons]
      refine ⟨fun hx => hn.1 ?_, eRm_nd l g hn.2⟩
      obtain ⟨y, hy, e1⟩ := List.mem_map.1 hx
      rw [← e1]; exact List.mem_map_of_mem (eRm_sub l g y hy)
theorem eRm_erase : ∀ (EL : List (Ky × Nat)) (g : Ky) (gb : Nat), (EL.map (·.1)).Nodup → (g, gb) ∈ EL → eRm EL g = EL.erase (g, gb)
  | [], _, _, _, h => by cases h
  | e :: l, g, gb, hn, h => by
    rw [List.map_cons, List.nodup_cons] at hn
    rw [eRm]
    rcases List.mem_cons.1 h with e1 | e1
    · rw [← e1]; simp
    · have hne : e ≠ (g, gb) := fun e2 => hn.1 (by rw [e2]; exact List.mem_map_of_mem (f := (·.1)) e1)
      have hg : ¬ g = e.1 := fun e2 => hn.1 (by rw [← e2]; exact List.mem_map_of_mem (f := (·.1)) e1)
      rw [if_neg hg, List.erase_cons_tail (by simpa using hne), eRm_erase l g gb hn.2 e1]

def eOut (EL : List (Ky × Nat)) : Option Ky → List (Ky × Nat)
  | none => EL
  | some g => eRm EL g
/-- What add leaves, whatever goes. -/
structure AdG (b0 ob eb : Nat) (C : Mc) (M : Ms) (EL : List (Ky × Nat)) (k : Ky) (nb : Nat) (w : World) (e : Ending) (w' : World) : Prop where
  res : ∃ g : Option Nat, e = .returned (optP g) ∧ (g = none ∧ (mAdd C M k).1 = none ∨ ∃ gk gb, g = some gb ∧ (mAdd C M k).1 = some gk ∧ (gk, gb) ∈ EL)
  en : ∀ b k rb, EnAt w b k rb → EnAt w' b k rb
  dir : C.pol = 1 → DirI w' b0 ob C.bud C.nr (eOut EL (mAdd C M k).1 ++ [(k, nb)]) (mAdd C M k).2.plc
  old : C.pol = 2 → OldI w' b0 ob C.bud (eOut EL (mAdd C M k).1 ++ [(k, nb)]) (mAdd C M k).2.ord
  kept : Kept (fun j => j = ob ∧ C.pol ≠ 0 ∨ j = nb ∨ (∃ x ∈ EL, x.2 = j) ∨ b0 ≤ j ∧ ∃ c, w.heap[j]? = some (.cells c 271 (0, 0))) w w'

theorem addO_g {b0 ob eb : Nat} {C : Mc} {M : Ms} {EL : List (Ky × Nat)} {k : Ky} {nb rb : Nat} {w : World} (hp : C.pol = 2) (hbud : 0 < C.bud) (hbud2 : C.bud ≤ 1000) (h : OldI w b0 ob C.bud EL M.ord) (hnd : (EL.map (·.1)).Nodup) (hen : EnAt w nb k rb) (hno : nb ∉ EL.map (·.2)) (hbo : nb ≠ ob) :
    Calls Tryz.prog 238 #[ptB' ob, ptB' nb] w fun e w' => AdG b0 ob eb C M EL k nb w e w' := by
  have hlen : M.ord.length = EL.length := by
    obtain ⟨OL, hp', hks, _⟩ := h.ex
    rw [← hks, List.length_map, hp'.length_eq]
  obtain ⟨fr, hfr, _⟩ := h.free
  refine (addO_old h hbud hbud2 hen hno hbo).mono ?_
  intro e w' hA
  have hk : Kept (fun j => j = ob ∧ C.pol ≠ 0 ∨ j = nb ∨ (∃ x ∈ EL, x.2 = j) ∨ b0 ≤ j ∧ ∃ c, w.heap[j]? = some (.cells c 271 (0, 0))) w w' := hA.kept.mono (fun j _ hj => by
    rcases hj with e1 | e1 | e1
    · exact .inl ⟨e1, by omega⟩
    · exact .inr (.inl e1)
    · exact .inr (.inr (.inl e1)))
  rcases Nat.lt_or_ge EL.length C.bud with hl | hl
  · have hm : mAdd C M k = (none, { M with ord := k :: M.ord }) := by unfold mAdd; rw [if_pos hp, if_pos (by omega)]
    obtain ⟨rfl, ho⟩ := hA.free hl
    exact ⟨⟨none, rfl, .inl ⟨rfl, by rw [hm]⟩⟩, hA.en, fun e1 => by omega, fun _ => by rw [hm]; exact ho, hk⟩
  · have hm : mAdd C M k = (M.ord.getLast?, { M with ord := k :: M.ord.dropLast }) := by unfold mAdd; rw [if_pos hp, if_neg (by omega)]
    obtain ⟨g, gb, h1, h2, rfl, h3⟩ := hA.full (by omega)
    refine ⟨⟨some gb, rfl, .inr ⟨g, gb, rfl, by rw [hm]; exact h1, h2⟩⟩, hA.en, fun e1 => by omega, fun _ => ?_, hk⟩
    rw [hm]
    refine h3 _ ?_
    show (eOut EL M.ord.getLast? ++ [(k, nb)]).Perm _
    rw [h1]
    show (eRm EL g ++ [(k, nb)]).Perm _
    rw [eRm_erase EL g gb hnd h2]

theorem plV_b (EL : List (Ky × Nat)) (p : Option Ky) : plV EL p = optP (p.bind (bOf EL)) := by
  unfold plV
  cases p with
  | none => rfl
  | some k => simp only [Option.bind_some]; rw [bOf_eFi]
theorem addD_g {b0 ob eb : Nat} {C : Mc} {M : Ms} {EL : List (Ky × Nat)} {k : Ky} {nb rb : Nat} {w : World} (hp : C.pol = 1) (hbud : 0 < C.bud) (hbud2 : C.bud ≤ 1000) (hnr : C.nr ≤ 8) (hk : KyIn k) (h : DirI w b0 ob C.bud C.nr EL M.plc) (hnd : (EL.map (·.1)).Nodup) (hen : EnAt w nb k rb) (hno : bOf EL k = none) :
    Calls Tryz.prog 235 #[ptB' ob, ptB' nb] w fun e w' => AdG b0 ob eb C M EL k nb w e w' := by
  obtain ⟨pb, h1, h2, h3⟩ := h.blk
  obtain ⟨v3, v4, hB⟩ := hen
  obtain ⟨p, hpd⟩ : ∃ p, p = kN C.nr k % C.bud := ⟨_, rfl⟩
  have hpl : p < M.plc.length := by rw [h.len, hpd]; exact Nat.mod_lt _ hbud
  obtain ⟨gk, hgk⟩ : ∃ gk, gk = M.plc.getD p none := ⟨_, rfl⟩
  have hget : M.plc[p]? = some gk := by rw [hgk, List.getD_eq_getElem?_getD, List.getElem?_eq_getElem hpl]; rfl
  have hm : mAdd C M k = (gk, { M with plc := M.plc.set p (some k) }) := by
    unfold mAdd
    rw [if_neg (by omega)]
    have : kNum C k % C.bud = p := by rw [hpd]; rfl
    rw [this, ← hgk]
  have hgone : ∀ g, gk = some g → ∃ gb, bOf EL g = some gb ∧ (g, gb) ∈ EL := by
    intro g e
    rw [e] at hget
    obtain ⟨_, b, hb⟩ := h.is_ p g hget
    exact ⟨b, bOf_some EL g b hnd hb, hb⟩
  refine (addD_any ob pb nb C.bud C.nr k _ (plV EL gk) v3 v4 (ptB' rb) 280 w hk hnr h2 hB h3 hbud hbud2 (by
    rw [← hpd]
    simp [hget])).mono ?_
  rintro e w' ⟨rfl, hrow, hkp⟩
  rw [← hpd] at hrow
  have hne : nb ≠ pb := fun e => by rw [e, h3] at hB; simp at hB
  refine ⟨?_, fun b k' rb' he => ?_, fun _ => ?_, fun e => by omega, hkp.mono (fun j _ e => .inr (.inr (.inr ?_)))⟩
  · rw [hm, plV_b]
    cases hgk2 : gk with
    | none => exact ⟨none, rfl, .inl ⟨rfl, rfl⟩⟩
    | some g =>
      obtain ⟨gb, hg1, hg2⟩ := hgone g hgk2
      exact ⟨some gb, by simp [hg1], .inr ⟨g, gb, rfl, rfl, hg2⟩⟩
  · refine he.same (hkp.block b he.lt (fun e => ?_))
    obtain ⟨u3, u4, hu⟩ := he
    have e' : b = pb := e
    rw [e', h3] at hu; simp at hu
  · rw [hm]
    dsimp only
    have hdb : w'.heap[ob]? = w.heap[ob]? := hkp.block ob (objAt_lt (show objAt w ob = _ from h2)) (fun e => by
      have e' : ob = pb := e
      rw [e', h3] at h2; simp at h2)
    have hbo : ∀ k', k' ≠ k → gk ≠ some k' → bOf (eOut EL gk ++ [(k, nb)]) k' = bOf EL k' := by
      intro k' hk' hg'
      rw [bOf_app, if_neg hk']
      cases gk with
      | none => simp [eOut]
      | some g => rw [eOut, bOf_rm EL g k' (fun e => hg' (by rw [e]))]; simp
    have hkk : bOf (eOut EL gk ++ [(k, nb)]) k = some nb := by
      rw [bOf_app, if_pos rfl]
      cases gk with
      | none => rw [eOut, hno]; rfl
      | some g =>
        have : bOf (eRm EL g) k = none := by
          by_cases hkg : k = g
          · cases hbb : bOf (eRm EL g) k with
            | none => rfl
            | some z => exact absurd hkg (eRm_not EL g hnd _ (bOf_mem _ _ _ hbb))
          · rw [bOf_rm EL g k hkg]; exact hno
        rw [eOut, this]; rfl
    refine ⟨⟨pb, h1, by rw [hdb]; exact h2, ?_⟩, by simp [h.len], fun x hx => ?_, fun q k' hq => ?_, h.low⟩
    · rw [hrow]
      congr 2
      rw [List.setIfInBounds_toArray]
      congr 1
      apply List.ext_getElem?
      intro q
      rw [List.getElem?_map, List.getElem?_set, List.getElem?_set, List.length_map]
      by_cases hqp : p = q
      · subst hqp
        rw [if_pos rfl, if_pos rfl, if_pos hpl, if_pos hpl]
        simp only [Option.map_some]
        rw [plV_b, Option.bind_some, hkk]
        rfl
      · rw [if_neg hqp, if_neg hqp, List.getElem?_map]
        cases hc : M.plc[q]? with
        | none => rfl
        | some o =>
          simp only [Option.map_some]
          congr 1
          rw [plV_b, plV_b]
          cases o with
          | none => rfl
          | some k' =>
            simp only [Option.bind_some]
            have hi := h.is_ q k' hc
            rw [hbo k' (fun e => hqp (by rw [hpd, ← e]; exact hi.1)) (fun e => hqp (by
              rw [e] at hget
              rw [← (h.is_ p k' hget).1]; exact hi.1))]
    · rcases List.mem_append.1 hx with h4 | h4
      · have hxE : x ∈ EL := by
          cases gk with
          | none => exact h4
          | some g => exact eRm_sub EL g x h4
        have hat := h.at_ x hxE
        have hne : p ≠ kN C.nr x.1 % C.bud := by
          intro e
          rw [← e, ← hgk] at hat
          rw [hat] at h4
          exact eRm_not EL x.1 hnd x h4 rfl
        rw [List.getD_eq_getElem?_getD, List.getElem?_set, if_neg hne, ← List.getD_eq_getElem?_getD]
        exact hat
      · rw [List.mem_singleton.1 h4]
        dsimp only
        rw [← hpd, List.getD_eq_getElem?_getD, List.getElem?_set, if_pos rfl, if_pos hpl]
        rfl
    · rw [List.getElem?_set] at hq
      by_cases hqp : p = q
      · rw [if_pos hqp, if_pos hpl] at hq
        have : k = k' := by simpa using hq
        rw [← this, ← hqp, ← hpd]
        exact ⟨rfl, nb, by simp⟩
      · rw [if_neg hqp] at hq
        obtain ⟨h4, b, h5⟩ := h.is_ q k' hq
        refine ⟨h4, b, List.mem_append_left _ ?_⟩
        cases hgk2 : gk with
        | none => exact h5
        | some g =>
          refine eRm_mem EL g (k', b) h5 (fun e => hqp ?_)
          have e' : k' = g := e
          rw [hgk2, ← e'] at hget
          rw [← (h.is_ p k' hget).1]; exact h4
  · have e' : j = pb := e
    rw [e']
    exact ⟨h1, _, h3⟩
end Go.Proofs.YtagklnaaoclmhaaGreatDoor

namespace Go.Proofs.YtagklnaaoclmhaaGreatDoor
open Go.RowKit Go.MuLone

theorem mTurn_cell {w : World} {eb : Nat} {o : Obj} {j q : Nat} (h : j ≠ eb) : (mTurn w eb o).cell? ⟨j, q, none⟩ = w.cell? ⟨j, q, none⟩ := by
  have : (mTurn w eb o).heap[j]? = w.heap[j]? := by
    show (w.heap.setIfInBounds eb o)[j]? = _
    rw [Array.getElem?_setIfInBounds_ne (fun e => h e.symm)]
  simp only [World.cell?, this]
theorem mTurn_at {w : World} {eb : Nat} {o : Obj} {j : Nat} (h : j ≠ eb) : (mTurn w eb o).heap[j]? = w.heap[j]? := by
  show (w.heap.setIfInBounds eb o)[j]? = _
  rw [Array.getElem?_setIfInBounds_ne (fun e => h e.symm)]

/-- The memory behind a new entry, the lock still held. -/
theorem keep_put {w w2 w3 W : World} {b0 mb eb ob nb rb : Nat} {EL : List (Ky × Nat)} {C : Mc} {R : Nat → Rs → Prop} {M : Ms} {k : Ky} {r : Rs} {e : Ending} (h : MmI w b0 mb eb ob EL C R M) (hk : KyIn k) (hR : R rb r) (hpol : C.pol ≠ 0) (hO : AdG b0 ob eb C M EL k nb w2.drew e w3) (hen2 : ∀ b k rb, EnAt w b k rb → EnAt w2.drew b k rb) (henb : EnAt w2.drew nb k rb) (hno : bOf EL k = none) (hlow : b0 ≤ nb)
    (hS : ∀ j, (j = ob ∧ C.pol ≠ 0 ∨ j = nb ∨ (∃ x ∈ EL, x.2 = j) ∨ b0 ≤ j ∧ ∃ c, w2.drew.heap[j]? = some (.cells c 271 (0, 0))) → j ≠ mb ∧ j ≠ eb)
    (hb3 : w3.heap[mb]? = some (.cells #[.int .i64 (C.mask : Int), ordV C ob, .int .i32 1, .int .u32 0, .map (some eb), .int .i64 (M.hits : Int)] 218 (0, 0))) (hmap3 : MapIs w3 eb EL) (hkW : Kept (· = eb) w3 W) (hmapW : MapIs W eb (eOut EL (mAdd C M k).1 ++ [(k, nb)])) :
    MmI (W.setCell ⟨mb, 2, none⟩ (.int .i32 0)) b0 mb eb ob (eOut EL (mAdd C M k).1 ++ [(k, nb)]) C R { mDrop (mAdd C M k).2 (mAdd C M k).1 with ent := (mDrop (mAdd C M k).2 (mAdd C M k).1).ent ++ [(k, r)] } := by
  have hap := h.apart
  have hsub : ∀ x ∈ eOut EL (mAdd C M k).1, x ∈ EL := by
    intro x hx
    cases hg : (mAdd C M k).1 with
    | none => rw [hg] at hx; exact hx
    | some g => rw [hg] at hx; exact eRm_sub EL g x hx
  have hndo : ((eOut EL (mAdd C M k).1).map (·.1)).Nodup := by
    cases hg : (mAdd C M k).1 with
    | none => exact h.nd
    | some g => exact eRm_nd EL g h.nd
  have hkno : k ∉ EL.map (·.1) := by
    intro hx
    obtain ⟨x, hx, e⟩ := List.mem_map.1 hx
    have := bOf_some EL x.1 x.2 h.nd hx
    rw [e, hno] at this; cases this
  have hA2 : (mAdd C M k).2.ent = M.ent ∧ (mAdd C M k).2.hits = M.hits := by unfold mAdd; (repeat' split) <;> exact ⟨rfl, rfl⟩
  have hent : (mDrop (mAdd C M k).2 (mAdd C M k).1).ent = match (mAdd C M k).1 with | none => M.ent | some g => eDel M.ent g := by
    cases hg : (mAdd C M k).1 with
    | none => simp [mDrop, hA2.1]
    | some g => simp [mDrop, hA2.1]
  have hhit : (mDrop (mAdd C M k).2 (mAdd C M k).1).hits = M.hits := by
    cases hg : (mAdd C M k).1 with
    | none => simp [mDrop, hA2.2]
    | some g => simp [mDrop, hA2.2]
  have hplc : (mDrop (mAdd C M k).2 (mAdd C M k).1).plc = (mAdd C M k).2.plc ∧ (mDrop (mAdd C M k).2 (mAdd C M k).1).ord = (mAdd C M k).2.ord := by
    cases hg : (mAdd C M k).1 with
    | none => exact ⟨rfl, rfl⟩
    | some g => exact ⟨rfl, rfl⟩
  have henW : ∀ b k' q, EnAt w b k' q → EnAt W b k' q := fun b k' q h' => by
    have h1 := hO.en _ _ _ (hen2 _ _ _ h')
    refine h1.same (hkW.block b h1.lt (fun e => ?_))
    obtain ⟨v3, v4, h2⟩ := h'
    obtain ⟨es, c, hm, _⟩ := h.map
    have e' : b = eb := e
    rw [e', hm] at h2; simp at h2
  have henbW : EnAt W nb k rb := by
    have h1 := hO.en _ _ _ henb
    exact h1.same (hkW.block nb h1.lt (fun e => (hS nb (.inr (.inl rfl))).2 e))
  have hF : F2 (Pw W R) EL M.ent := h.f2.mono (fun a b _ hab => ⟨hab.1, by obtain ⟨q, h1, h2⟩ := hab.2; exact ⟨q, henW _ _ _ h1, h2⟩⟩)
  have hF2 : F2 (Pw W R) (eOut EL (mAdd C M k).1) (mDrop (mAdd C M k).2 (mAdd C M k).1).ent := by
    rw [hent]
    cases hg : (mAdd C M k).1 with
    | none => exact hF
    | some g => exact hF.rm g
  have hmbW : W.heap[mb]? = _ := (hkW.block mb (objAt_lt (show objAt w3 mb = _ from hb3)) (fun e => hap.1 e.symm)).trans hb3
  have hebO : ∀ j c t, w3.heap[j]? = some (.cells c t (0, 0)) → j ≠ eb → W.heap[j]? = w3.heap[j]? := fun j c t hj hne => hkW.block j (objAt_lt (show objAt w3 j = _ from hj)) hne
  refine MmI.mk5 h.ok (by rw [show ({ mDrop (mAdd C M k).2 (mAdd C M k).1 with ent := (mDrop (mAdd C M k).2 (mAdd C M k).1).ent ++ [(k, r)] } : Ms).hits = M.hits from hhit]; exact hmbW) hmapW (hF2.app (.cons ⟨rfl, rb, henbW, hR⟩ .nil)) ?_ ?_ ⟨h.low.1, h.low.2.1, ?_⟩ hpol (fun hp => ?_) (fun hp => ?_) (by rw [show ({ mDrop (mAdd C M k).2 (mAdd C M k).1 with ent := (mDrop (mAdd C M k).2 (mAdd C M k).1).ent ++ [(k, r)] } : Ms).hits = M.hits from hhit]; exact h.hits)
  · rw [List.map_append, List.nodup_append]
    refine ⟨hndo, by simp, fun a ha b hb e => ?_⟩
    have hb' : b = k := by simpa using hb
    obtain ⟨x, hx, e1⟩ := List.mem_map.1 ha
    exact hkno (by rw [← hb', ← e, ← e1]; exact List.mem_map_of_mem (hsub x hx))
  · intro x hx
    rcases List.mem_append.1 hx with h1 | h1
    · exact h.in_ x (hsub x h1)
    · rw [List.mem_singleton.1 h1]; exact hk
  · intro x hx
    rcases List.mem_append.1 hx with h1 | h1
    · exact h.low.2.2 x (hsub x h1)
    · rw [List.mem_singleton.1 h1]; exact hlow
  · rw [show ({ mDrop (mAdd C M k).2 (mAdd C M k).1 with ent := (mDrop (mAdd C M k).2 (mAdd C M k).1).ent ++ [(k, r)] } : Ms).plc = (mAdd C M k).2.plc from hplc.1]
    exact (hO.dir hp).kept hkW (fun j c t f hc ht e => by
      have e' : j = eb := e
      obtain ⟨es, cl, hm, _⟩ := hmap3
      rw [e', hm] at hc; simp at hc)
  · rw [show ({ mDrop (mAdd C M k).2 (mAdd C M k).1 with ent := (mDrop (mAdd C M k).2 (mAdd C M k).1).ent ++ [(k, r)] } : Ms).ord = (mAdd C M k).2.ord from hplc.2]
    refine (hO.old hp).kept hkW (hap.2.1 hpol).2 (fun x hx => ?_)
    rcases List.mem_append.1 hx with h1 | h1
    · exact (hap.2.2 x (hsub x h1)).2.1
    · rw [List.mem_singleton.1 h1]; exact (hS nb (.inr (.inl rfl))).2
end Go.Proofs.YtagklnaaoclmhaaGreatDoor

namespace Go.Proofs.YtagklnaaoclmhaaGreatDoor
open Go.RowKit Go.MuLone

set_option maxRecDepth 100000 in
set_option maxHeartbeats 1600000 in
theorem keep2_any (b0 mb eb ob : Nat) (EL : List (Ky × Nat)) (C : Mc) (R : Nat → Rs → Prop) (M : Ms) (k : Ky) (rb : Nat) (r : Rs) (w : World) (h : MmI w b0 mb eb ob EL C R M) (hk : KyIn k) (h1 : ¬ C.mask / 2 ^ k.rule % 2 = 0) (hR : R rb r) (hx : eFi EL k 0 = none) :
    Calls Tryz.prog 152 #[ptB' mb, kyV k, ptB' rb] w fun e w' => KpOut b0 mb C R (mKeep C M k r) w e w' := by
  have hb := h.blk
  have hap := h.apart
  have c0 : w.cell? ⟨mb, 0, none⟩ = some (.int .i64 (C.mask : Int)) := by simp [World.cell?, hb]
  have c2 : w.cell? ⟨mb, 2, none⟩ = some (.int .i32 0) := by simp [World.cell?, hb]
  have f2 : w.frozen? ⟨mb, 2, none⟩ = false := by simp [World.frozen?, hb]
  have hmb := lt_cell c0
  have hkr := hk.rule
  have hq := bit_at h.ok.mask hkr
  rw [decide_eq_false h1] at hq
  have hg := eFi_none EL M.ent k 0 h.keys hx
  have hpol : C.pol ≠ 0 := fun e => by
    rcases h.ok.pol with h2 | h2
    · rw [h2.2] at h1; simp at h1
    · omega
  have hbud : 0 < C.bud := (h.ok.pol.resolve_left (fun e => hpol e.1)).2
  have HM : Hid (mKeep C M k r = { mDrop (mAdd C M k).2 (mAdd C M k).1 with ent := (mDrop (mAdd C M k).2 (mAdd C M k).1).ent ++ [(k, r)] }) := by
    unfold Hid mKeep; rw [if_neg h1, hg]; rfl
  have hL := fun (W : World) (hc : W.cell? ⟨mb, 2, none⟩ = some (.int .i32 0)) (hf : W.frozen? ⟨mb, 2, none⟩ = false) => lock_free Tryz.muLib ⟨mb, 2, none⟩ W hc hf
  unfold kyV ptB' at *
  clear hb
  go_enter_defers Tryz.func152, Tryz.ntmps152
  go_wp2_with fail
  go_quiet (fail)
  go_wp2_with fail
  refine (hL _ (by go_simp) (by go_simp)).mono ?_
  rintro e w2 ⟨rfl, rfl⟩
  go_wp2_with fail
  have hF := h.locked k nq
  obtain ⟨w1, hw1⟩ : ∃ w1, w1 = (((w.alloc (.cells #[.int .i64 (k.inp : Int), .int .i64 (k.rule : Int), .int .i64 (k.place : Int)] 225)).drewN nq).setCell ⟨mb, 2, none⟩ (.int .i32 1)) := ⟨_, rfl⟩
  rw [← hw1] at hF
  rw [← hw1]
  clear hw1 c0 c2 f2 hL hq
  have hlkN := hF.look
  rw [hx] at hlkN
  simp only [Option.map_none, Option.isSome_none, optP] at hlkN
  have d4 : w1.cell? ⟨mb, 4, none⟩ = some (.map (some eb)) := by simp [World.cell?, hF.blk]
  have k0 : w1.cell? ⟨w.heap.size, 0, none⟩ = some (.int .i64 (k.inp : Int)) := by simp [World.cell?, hF.key]
  have k1 : w1.cell? ⟨w.heap.size, 1, none⟩ = some (.int .i64 (k.rule : Int)) := by simp [World.cell?, hF.key]
  have k2 : w1.cell? ⟨w.heap.size, 2, none⟩ = some (.int .i64 (k.place : Int)) := by simp [World.cell?, hF.key]
  go_quiet (fail)
  go_wp2_with fail
  obtain ⟨nb, hnb⟩ : ∃ nb, nb = w1.heap.size := ⟨_, rfl⟩
  obtain ⟨w2, hw2⟩ : ∃ w2, w2 = (w1.drewN nq).alloc (.cells #[.int .i64 (k.inp : Int), .int .i64 (k.rule : Int), .int .i64 (k.place : Int), .pointer none, .pointer none, .pointer (some ⟨rb, 0, none⟩)] 280) := ⟨_, rfl⟩
  rw [← hw2]
  have hk12 : Kept (fun _ => False) w1 w2 := by rw [hw2]; exact ((Kept.refl (fun _ => False) w1).drewN _).alloc _
  have hnbk : w2.heap[nb]? = some (.cells #[.int .i64 (k.inp : Int), .int .i64 (k.rule : Int), .int .i64 (k.place : Int), .pointer none, .pointer none, .pointer (some ⟨rb, 0, none⟩)] 280 (0, 0)) := by
    rw [hw2, hnb]; exact heap_alloc_new (w1.drewN nq) _
  have hsz2 : w2.heap.size = nb + 1 := by rw [hw2, hnb]; simp
  have hmb1 : mb < w1.heap.size := objAt_lt (show objAt w1 mb = _ from hF.blk)
  have hb2 : w2.heap[mb]? = _ := (hk12.block mb hmb1 (fun x => x)).trans hF.blk
  have hkey2 : w2.heap[w.heap.size]? = _ := (hk12.block _ (objAt_lt (show objAt w1 w.heap.size = _ from hF.key)) (fun x => x)).trans hF.key
  have hmap2 : MapIs w2 eb EL := hF.map.same (hk12.block eb hF.map.lt (fun x => x))
  have hk2 : Kept (· = mb) w w2 := hF.kept.trans (hk12.mono (fun j _ e => e.elim))
  have hnbw : w.heap.size < nb := by rw [hnb, hF.size]; omega
  have henb : EnAt w2.drew nb k rb := ⟨_, _, hnbk⟩
  have hen2 : ∀ b k rb, EnAt w b k rb → EnAt w2.drew b k rb := fun b k rb h' => h'.same (hk2.drew.block b h'.lt (fun e => by
    obtain ⟨v3, v4, h3⟩ := h'
    have e' : b = mb := e
    rw [e', h.blk] at h3; simp at h3))
  have hlt : ∀ x ∈ EL, x.2 < w.heap.size := fun x hx => by obtain ⟨q, hq⟩ := h.en_at hx; exact hq.lt
  have hno2 : nb ∉ EL.map (·.2) := fun hx => by
    obtain ⟨x, hx, e⟩ := List.mem_map.1 hx
    have := hlt x hx
    omega
  have hbno : bOf EL k = none := by rw [← bOf_eFi EL k 0, hx]; rfl
  have hA : ∀ F, (C.pol = 1 ∧ F = 235 ∨ C.pol = 2 ∧ F = 238) → Calls Tryz.prog F #[.pointer (some ⟨ob, 0, none⟩), .pointer (some ⟨nb, 0, none⟩)] w2.drew fun e w' => AdG b0 ob eb C M EL k nb w2.drew e w' := by
    intro F hFp
    rcases hFp with ⟨hp, rfl⟩ | ⟨hp, rfl⟩
    · exact addD_g hp hbud h.ok.bud h.ok.nr hk ((h.dir hp).kept hk2.drew (fun j c t f hc ht e => by
        have e' : j = mb := e
        rw [e', h.blk] at hc
        rcases ht with rfl | rfl <;> simp at hc)) h.nd henb hbno
    · exact addO_g hp hbud h.ok.bud ((h.old hp).kept hk2.drew (hap.2.1 hpol).1 (fun e he => (hap.2.2 e he).1)) h.nd henb hno2 (fun e => by
        have := (h.old hp).ob_lt
        omega)
  have hS : ∀ j, (j = ob ∧ C.pol ≠ 0 ∨ j = nb ∨ (∃ x ∈ EL, x.2 = j) ∨ b0 ≤ j ∧ ∃ c, w2.drew.heap[j]? = some (.cells c 271 (0, 0))) → j ≠ mb ∧ j ≠ eb ∧ j ≠ w.heap.size := by
    intro j hj
    have heb := h.map.lt
    have hmbw : mb < w.heap.size := hmb
    rcases hj with ⟨rfl, hp⟩ | rfl | ⟨x, hx, rfl⟩ | ⟨_, c, hc⟩
    · have hobl : j < w.heap.size := by
        rcases (h.ok.pol.resolve_left (fun e => hp e.1)).1 with hp' | hp'
        · obtain ⟨pb, _, h2, _⟩ := (h.dir hp').blk
          exact objAt_lt (show objAt w j = _ from h2)
        · exact (h.old hp').ob_lt
      exact ⟨(hap.2.1 hp).1, (hap.2.1 hp).2, by omega⟩
    · exact ⟨by omega, by omega, by omega⟩
    · have := hlt x hx
      exact ⟨(hap.2.2 x hx).1, (hap.2.2 x hx).2.1, by omega⟩
    · have hc' : w2.heap[j]? = some (.cells c 271 (0, 0)) := hc
      refine ⟨fun e => ?_, fun e => ?_, fun e => ?_⟩
      · rw [e, hb2] at hc'; simp at hc'
      · obtain ⟨es, cl, hm, _⟩ := hmap2
        rw [e, hm] at hc'; simp at hc'
      · rw [e, hkey2] at hc'; simp at hc'
  have hmwk : ∀ (W w3 : World), Kept (fun j => j = ob ∧ C.pol ≠ 0 ∨ j = nb ∨ (∃ x ∈ EL, x.2 = j) ∨ b0 ≤ j ∧ ∃ c, w2.drew.heap[j]? = some (.cells c 271 (0, 0))) w2.drew w3 → Kept (· = eb) w3 W → Kept (Mw b0 w) w W := by
    intro W w3 ha hb
    refine (Kept.then (S := Mw b0 w) ((hk2.drew.mono (T := Mw b0 w) (fun j _ e => h.mw (.inl e)))) ha (fun j hj hx => ?_)).then hb (fun j hj e => ?_)
    · rcases hx with hx | hx | hx | ⟨hx1, c, hx2⟩
      · exact h.mw (.inr (.inl hx))
      · omega
      · exact h.mw (.inr (.inr hx))
      · refine ⟨hx1, fun c' t f hc => ?_⟩
        have hjm : j ≠ mb := fun e => by
          have hx2' : w2.heap[j]? = some (.cells c 271 (0, 0)) := hx2
          rw [e, hb2] at hx2'; simp at hx2'
        have := hk2.drew.block j hj hjm
        rw [hx2] at this
        rw [hc] at this
        simp at this
        exact .inr (.inr (.inr (.inr this.2.1.symm)))
    · have e' : j = eb := e
      subst e'
      obtain ⟨es, cl, hm, _⟩ := h.map
      exact ⟨h.low.2.1, fun c t f hc => by rw [hm] at hc; simp at hc⟩
  clear hF hw2 d4 k0 k1 k2 hlkN
  subst hnb
  rcases (h.ok.pol.resolve_left (fun e => hpol e.1)).1 with hp | hp
  · have hov : ordV C ob = .iface 219 (.pointer (some ⟨ob, 0, none⟩)) := by unfold ordV ptB'; rw [if_pos hp]
    have hmeth := meth_addD ⟨ob, 0, none⟩
    have hAF := hA 235 (.inl ⟨hp, rfl⟩)
    have g1 : w2.cell? ⟨mb, 1, none⟩ = some (.iface 219 (.pointer (some ⟨ob, 0, none⟩))) := by rw [← hov]; simp [World.cell?, hb2]
    have hmb2 : mb < w2.drew.heap.size := objAt_lt (show objAt w2 mb = _ from hb2)
    clear hA
    go_region_held3 (fun w' => w'.cell? ⟨mb, 1, none⟩ = some (.iface 219 (.pointer (some ⟨ob, 0, none⟩)))) (go_keep) ((go_at_call 235; refine hAF.mono ?_; rintro e w3 hO; obtain ⟨g, rfl, hgg⟩ := hO.res; have g1' : w3.cell? ⟨mb, 1, none⟩ = some (.iface 219 (.pointer (some ⟨ob, 0, none⟩))) := (hO.kept.cell (p := ⟨mb, 1, none⟩) hmb2 (fun e => (hS mb e).1 rfl)).trans g1))
    have hb3 := (hO.kept.block mb hmb2 (fun e => (hS mb e).1 rfl)).trans hb2
    have hkey3 := (hO.kept.block _ (objAt_lt (show objAt w2 w.heap.size = _ from hkey2)) (fun e => (hS _ e).2.2 rfl)).trans hkey2
    have hmap3 : MapIs w3 eb EL := hmap2.same (hO.kept.block eb hmap2.lt (fun e => (hS eb e).2.1 rfl))
    have m2 : w3.cell? ⟨mb, 2, none⟩ = some (.int .i32 1) := by simp [World.cell?, hb3]
    have m3 : w3.frozen? ⟨mb, 2, none⟩ = false := by simp [World.frozen?, hb3]
    have m4 : w3.cell? ⟨mb, 4, none⟩ = some (.map (some eb)) := by simp [World.cell?, hb3]
    have q0 : w3.cell? ⟨w.heap.size, 0, none⟩ = some (.int .i64 (k.inp : Int)) := by simp [World.cell?, hkey3]
    have q1 : w3.cell? ⟨w.heap.size, 1, none⟩ = some (.int .i64 (k.rule : Int)) := by simp [World.cell?, hkey3]
    have q2 : w3.cell? ⟨w.heap.size, 2, none⟩ = some (.int .i64 (k.place : Int)) := by simp [World.cell?, hkey3]
    have heb := h.map.lt
    have hne4 : mb ≠ eb := fun e => hap.1 e.symm
    have hne5 : w.heap.size ≠ eb := by omega
    rcases hgg with ⟨rfl, hgn⟩ | ⟨gk, gb, rfl, hgn, hgm⟩
    · obtain ⟨o, hput, hmapW⟩ := put_run (show MapIs w3.drew eb EL from hmap3) k hx w1.heap.size
      unfold kyV ptB' at hput
      have hEO : eOut EL (mAdd C M k).1 = EL := by rw [hgn]; rfl
      have hfin := keep_put (W := mTurn w3.drew eb o) (r := r) h hk hR hpol hO hen2 henb hbno (by have := h.low.1; omega) (fun j hj => ⟨(hS j hj).1, (hS j hj).2.1⟩) hb3 hmap3 ((Kept.refl (· = eb) w3).drew.trans (mTurn_kept _ _ _)) (by rw [hEO]; exact hmapW)
      have hkW : Kept (Mw b0 w) w (mTurn w3.drew eb o) := hmwk (mTurn w3.drew eb o) w3 hO.kept ((Kept.refl (· = eb) w3).drew.trans (mTurn_kept _ _ _))
      have n2 : (mTurn w3.drew eb o).cell? ⟨mb, 2, none⟩ = some (.int .i32 1) := (mTurn_cell hne4).trans m2
      have n4 : (mTurn w3.drew eb o).cell? ⟨mb, 4, none⟩ = some (.map (some eb)) := (mTurn_cell hne4).trans m4
      have n5 : (mTurn w3.drew eb o).cell? ⟨w.heap.size, 0, none⟩ = some (.int .i64 (k.inp : Int)) := (mTurn_cell hne5).trans q0
      have n6 : (mTurn w3.drew eb o).cell? ⟨w.heap.size, 1, none⟩ = some (.int .i64 (k.rule : Int)) := (mTurn_cell hne5).trans q1
      have n7 : (mTurn w3.drew eb o).cell? ⟨w.heap.size, 2, none⟩ = some (.int .i64 (k.place : Int)) := (mTurn_cell hne5).trans q2
      have n3 : (mTurn w3.drew eb o).frozen? ⟨mb, 2, none⟩ = false := by
        have hx := (mTurn_at (w := w3.drew) (eb := eb) (o := o) hne4).trans hb3
        simp [World.frozen?, hx]
      simp only [optP, Option.map_none]
      go_wp2_with fail
      go_region_held3 (fun w' => w'.cell? ⟨mb, 4, none⟩ = some (.map (some eb)) ∧ w'.cell? ⟨w.heap.size, 0, none⟩ = some (.int .i64 (k.inp : Int)) ∧ w'.cell? ⟨w.heap.size, 1, none⟩ = some (.int .i64 (k.rule : Int)) ∧ w'.cell? ⟨w.heap.size, 2, none⟩ = some (.int .i64 (k.place : Int))) (go_keep) (fail)
      go_wp2
      refine leaves_cons (f := 109) (args := #[.pointer (some ⟨mb, 2, none⟩)]) (by simp) (by simp [go_sem]) ?_
      refine (unlock_deferred Tryz.muLib ⟨mb, 2, none⟩ .returning (mTurn w3.drew eb o) n2 n3).mono ?_
      rintro e u' w'' ⟨rfl, rfl, rfl⟩
      rw [HM.out]
      exact ⟨_, results_none rfl _ _ _, rfl, ⟨eb, ob, _, hfin⟩, Kept.setCell (S := Mw b0 w) hkW (p := ⟨mb, 2, none⟩) (fun _ => h.mw (.inl rfl)) _⟩
    · obtain ⟨qb, hgen⟩ := h.en_at hgm
      dsimp only at hgen
      have hgen3 : EnAt w3 gb gk qb := hO.en _ _ _ (hen2 _ _ _ hgen)
      obtain ⟨u3, u4, hgb⟩ := hgen3
      have y0 : w3.cell? ⟨gb, 0, none⟩ = some (.int .i64 (gk.inp : Int)) := by simp [World.cell?, hgb]
      have y1 : w3.cell? ⟨gb, 1, none⟩ = some (.int .i64 (gk.rule : Int)) := by simp [World.cell?, hgb]
      have y2 : w3.cell? ⟨gb, 2, none⟩ = some (.int .i64 (gk.place : Int)) := by simp [World.cell?, hgb]
      have hne6 : gb ≠ eb := (hap.2.2 _ hgm).2.1
      obtain ⟨o1, hdel, hmapD⟩ := del_run (show MapIs w3.drew eb EL from hmap3) gk
      obtain ⟨w4, hw4⟩ : ∃ w4, w4 = mTurn w3.drew eb o1 := ⟨_, rfl⟩
      rw [← hw4] at hdel hmapD
      have hk34 : Kept (· = eb) w3 w4 := by rw [hw4]; exact (Kept.refl (· = eb) w3).drew.trans (mTurn_kept _ _ _)
      have p4 : w4.cell? ⟨mb, 4, none⟩ = some (.map (some eb)) := by rw [hw4]; exact (mTurn_cell hne4).trans m4
      have p5 : w4.cell? ⟨w.heap.size, 0, none⟩ = some (.int .i64 (k.inp : Int)) := by rw [hw4]; exact (mTurn_cell hne5).trans q0
      have p6 : w4.cell? ⟨w.heap.size, 1, none⟩ = some (.int .i64 (k.rule : Int)) := by rw [hw4]; exact (mTurn_cell hne5).trans q1
      have p7 : w4.cell? ⟨w.heap.size, 2, none⟩ = some (.int .i64 (k.place : Int)) := by rw [hw4]; exact (mTurn_cell hne5).trans q2
      have z0 : w4.cell? ⟨gb, 0, none⟩ = some (.int .i64 (gk.inp : Int)) := by rw [hw4]; exact (mTurn_cell hne6).trans y0
      have z1 : w4.cell? ⟨gb, 1, none⟩ = some (.int .i64 (gk.rule : Int)) := by rw [hw4]; exact (mTurn_cell hne6).trans y1
      have z2 : w4.cell? ⟨gb, 2, none⟩ = some (.int .i64 (gk.place : Int)) := by rw [hw4]; exact (mTurn_cell hne6).trans y2
      have hbD : bOf (eRm EL gk) k = none := by
        by_cases hkg : k = gk
        · cases hbb : bOf (eRm EL gk) k with
          | none => rfl
          | some z => exact absurd hkg (eRm_not EL gk h.nd _ (bOf_mem _ _ _ hbb))
        · rw [bOf_rm EL gk k hkg]; exact hbno
      have hfD : eFi (eRm EL gk) k 0 = none := by
        have := bOf_eFi (eRm EL gk) k 0
        rw [hbD] at this
        simpa using this
      obtain ⟨o, hput, hmapW⟩ := put_run (show MapIs w4.drew eb (eRm EL gk) from hmapD) k hfD w1.heap.size
      unfold kyV ptB' at hput
      unfold kyV at hdel
      have hEO : eOut EL (mAdd C M k).1 = eRm EL gk := by rw [hgn]; rfl
      have hk3W : Kept (· = eb) w3 (mTurn w4.drew eb o) := hk34.trans ((Kept.refl (· = eb) w4).drew.trans (mTurn_kept _ _ _))
      have hfin := keep_put (W := mTurn w4.drew eb o) (r := r) h hk hR hpol hO hen2 henb hbno (by have := h.low.1; omega) (fun j hj => ⟨(hS j hj).1, (hS j hj).2.1⟩) hb3 hmap3 hk3W (by rw [hEO]; exact hmapW)
      have hkW : Kept (Mw b0 w) w (mTurn w4.drew eb o) := hmwk (mTurn w4.drew eb o) w3 hO.kept hk3W
      have s2 : w4.cell? ⟨mb, 2, none⟩ = some (.int .i32 1) := by rw [hw4]; exact (mTurn_cell hne4).trans m2
      have n2 : (mTurn w4.drew eb o).cell? ⟨mb, 2, none⟩ = some (.int .i32 1) := (mTurn_cell hne4).trans s2
      have n4 : (mTurn w4.drew eb o).cell? ⟨mb, 4, none⟩ = some (.map (some eb)) := (mTurn_cell hne4).trans p4
      have n5 : (mTurn w4.drew eb o).cell? ⟨w.heap.size, 0, none⟩ = some (.int .i64 (k.inp : Int)) := (mTurn_cell hne5).trans p5
      have n6 : (mTurn w4.drew eb o).cell? ⟨w.heap.size, 1, none⟩ = some (.int .i64 (k.rule : Int)) := (mTurn_cell hne5).trans p6
      have n7 : (mTurn w4.drew eb o).cell? ⟨w.heap.size, 2, none⟩ = some (.int .i64 (k.place : Int)) := (mTurn_cell hne5).trans p7
      have n3 : (mTurn w4.drew eb o).frozen? ⟨mb, 2, none⟩ = false := by
        have hx := (hk3W.block mb (objAt_lt (show objAt w3 mb = _ from hb3)) hne4).trans hb3
        simp [World.frozen?, hx]
      clear hw4
      simp only [optP, Option.map_some]
      go_wp2_with fail
      go_region_held3 (fun w' => w'.cell? ⟨mb, 4, none⟩ = some (.map (some eb)) ∧ w'.cell? ⟨gb, 0, none⟩ = some (.int .i64 (gk.inp : Int)) ∧ w'.cell? ⟨gb, 1, none⟩ = some (.int .i64 (gk.rule : Int)) ∧ w'.cell? ⟨gb, 2, none⟩ = some (.int .i64 (gk.place : Int))) (go_keep) (fail)
      go_wp2_with fail
      go_region_held3 (fun w' => w'.cell? ⟨mb, 4, none⟩ = some (.map (some eb)) ∧ w'.cell? ⟨w.heap.size, 0, none⟩ = some (.int .i64 (k.inp : Int)) ∧ w'.cell? ⟨w.heap.size, 1, none⟩ = some (.int .i64 (k.rule : Int)) ∧ w'.cell? ⟨w.heap.size, 2, none⟩ = some (.int .i64 (k.place : Int))) (go_keep) (fail)
      go_wp2
      refine leaves_cons (f := 109) (args := #[.pointer (some ⟨mb, 2, none⟩)]) (by simp) (by simp [go_sem]) ?_
      refine (unlock_deferred Tryz.muLib ⟨mb, 2, none⟩ .returning (mTurn w4.drew eb o) n2 n3).mono ?_
      rintro e u' w'' ⟨rfl, rfl, rfl⟩
      rw [HM.out]
      exact ⟨_, results_none rfl _ _ _, rfl, ⟨eb, ob, _, hfin⟩, Kept.setCell (S := Mw b0 w) hkW (p := ⟨mb, 2, none⟩) (fun _ => h.mw (.inl rfl)) _⟩
  · have hov : ordV C ob = .iface 221 (.pointer (some ⟨ob, 0, none⟩)) := by unfold ordV ptB'; rw [if_neg (by omega), if_pos hp]
    have hmeth := meth_addO ⟨ob, 0, none⟩
    have hAF := hA 238 (.inr ⟨hp, rfl⟩)
    have g1 : w2.cell? ⟨mb, 1, none⟩ = some (.iface 221 (.pointer (some ⟨ob, 0, none⟩))) := by rw [← hov]; simp [World.cell?, hb2]
    have hmb2 : mb < w2.drew.heap.size := objAt_lt (show objAt w2 mb = _ from hb2)
    clear hA
    go_region_held3 (fun w' => w'.cell? ⟨mb, 1, none⟩ = some (.iface 221 (.pointer (some ⟨ob, 0, none⟩)))) (go_keep) ((go_at_call 238; refine hAF.mono ?_; rintro e w3 hO; obtain ⟨g, rfl, hgg⟩ := hO.res; have g1' : w3.cell? ⟨mb, 1, none⟩ = some (.iface 221 (.pointer (some ⟨ob, 0, none⟩))) := (hO.kept.cell (p := ⟨mb, 1, none⟩) hmb2 (fun e => (hS mb e).1 rfl)).trans g1))
    have hb3 := (hO.kept.block mb hmb2 (fun e => (hS mb e).1 rfl)).trans hb2
    have hkey3 := (hO.kept.block _ (objAt_lt (show objAt w2 w.heap.size = _ from hkey2)) (fun e => (hS _ e).2.2 rfl)).trans hkey2
    have hmap3 : MapIs w3 eb EL := hmap2.same (hO.kept.block eb hmap2.lt (fun e => (hS eb e).2.1 rfl))
    have m2 : w3.cell? ⟨mb, 2, none⟩ = some (.int .i32 1) := by simp [World.cell?, hb3]
    have m3 : w3.frozen? ⟨mb, 2, none⟩ = false := by simp [World.frozen?, hb3]
    have m4 : w3.cell? ⟨mb, 4, none⟩ = some (.map (some eb)) := by simp [World.cell?, hb3]
    have q0 : w3.cell? ⟨w.heap.size, 0, none⟩ = some (.int .i64 (k.inp : Int)) := by simp [World.cell?, hkey3]
    have q1 : w3.cell? ⟨w.heap.size, 1, none⟩ = some (.int .i64 (k.rule : Int)) := by simp [World.cell?, hkey3]
    have q2 : w3.cell? ⟨w.heap.size, 2, none⟩ = some (.int .i64 (k.place : Int)) := by simp [World.cell?, hkey3]
    have heb := h.map.lt
    have hne4 : mb ≠ eb := fun e => hap.1 e.symm
    have hne5 : w.heap.size ≠ eb := by omega
    rcases hgg with ⟨rfl, hgn⟩ | ⟨gk, gb, rfl, hgn, hgm⟩
    · obtain ⟨o, hput, hmapW⟩ := put_run (show MapIs w3.drew eb EL from hmap3) k hx w1.heap.size
      unfold kyV ptB' at hput
      have hEO : eOut EL (mAdd C M k).1 = EL := by rw [hgn]; rfl
      have hfin := keep_put (W := mTurn w3.drew eb o) (r := r) h hk hR hpol hO hen2 henb hbno (by have := h.low.1; omega) (fun j hj => ⟨(hS j hj).1, (hS j hj).2.1⟩) hb3 hmap3 ((Kept.refl (· = eb) w3).drew.trans (mTurn_kept _ _ _)) (by rw [hEO]; exact hmapW)
      have hkW : Kept (Mw b0 w) w (mTurn w3.drew eb o) := hmwk (mTurn w3.drew eb o) w3 hO.kept ((Kept.refl (· = eb) w3).drew.trans (mTurn_kept _ _ _))
      have n2 : (mTurn w3.drew eb o).cell? ⟨mb, 2, none⟩ = some (.int .i32 1) := (mTurn_cell hne4).trans m2
      have n4 : (mTurn w3.drew eb o).cell? ⟨mb, 4, none⟩ = some (.map (some eb)) := (mTurn_cell hne4).trans m4
      have n5 : (mTurn w3.drew eb o).cell? ⟨w.heap.size, 0, none⟩ = some (.int .i64 (k.inp : Int)) := (mTurn_cell hne5).trans q0
      have n6 : (mTurn w3.drew eb o).cell? ⟨w.heap.size, 1, none⟩ = some (.int .i64 (k.rule : Int)) := (mTurn_cell hne5).trans q1
      have n7 : (mTurn w3.drew eb o).cell? ⟨w.heap.size, 2, none⟩ = some (.int .i64 (k.place : Int)) := (mTurn_cell hne5).trans q2
      have n3 : (mTurn w3.drew eb o).frozen? ⟨mb, 2, none⟩ = false := by
        have hx := (mTurn_at (w := w3.drew) (eb := eb) (o := o) hne4).trans hb3
        simp [World.frozen?, hx]
      simp only [optP, Option.map_none]
      go_wp2_with fail
      go_region_held3 (fun w' => w'.cell? ⟨mb, 4, none⟩ = some (.map (some eb)) ∧ w'.cell? ⟨w.heap.size, 0, none⟩ = some (.int .i64 (k.inp : Int)) ∧ w'.cell? ⟨w.heap.size, 1, none⟩ = some (.int .i64 (k.rule : Int)) ∧ w'.cell? ⟨w.heap.size, 2, none⟩ = some (.int .i64 (k.place : Int))) (go_keep) (fail)
      go_wp2
      refine leaves_cons (f := 109) (args := #[.pointer (some ⟨mb, 2, none⟩)]) (by simp) (by simp [go_sem]) ?_
      refine (unlock_deferred Tryz.muLib ⟨mb, 2, none⟩ .returning (mTurn w3.drew eb o) n2 n3).mono ?_
      rintro e u' w'' ⟨rfl, rfl, rfl⟩
      rw [HM.out]
      exact ⟨_, results_none rfl _ _ _, rfl, ⟨eb, ob, _, hfin⟩, Kept.setCell (S := Mw b0 w) hkW (p := ⟨mb, 2, none⟩) (fun _ => h.mw (.inl rfl)) _⟩
    · obtain ⟨qb, hgen⟩ := h.en_at hgm
      dsimp only at hgen
      have hgen3 : EnAt w3 gb gk qb := hO.en _ _ _ (hen2 _ _ _ hgen)
      obtain ⟨u3, u4, hgb⟩ := hgen3
      have y0 : w3.cell? ⟨gb, 0, none⟩ = some (.int .i64 (gk.inp : Int)) := by simp [World.cell?, hgb]
      have y1 : w3.cell? ⟨gb, 1, none⟩ = some (.int .i64 (gk.rule : Int)) := by simp [World.cell?, hgb]
      have y2 : w3.cell? ⟨gb, 2, none⟩ = some (.int .i64 (gk.place : Int)) := by simp [World.cell?, hgb]
      have hne6 : gb ≠ eb := (hap.2.2 _ hgm).2.1
      obtain ⟨o1, hdel, hmapD⟩ := del_run (show MapIs w3.drew eb EL from hmap3) gk
      obtain ⟨w4, hw4⟩ : ∃ w4, w4 = mTurn w3.drew eb o1 := ⟨_, rfl⟩
      rw [← hw4] at hdel hmapD
      have hk34 : Kept (· = eb) w3 w4 := by rw [hw4]; exact (Kept.refl (· = eb) w3).drew.trans (mTurn_kept _ _ _)
      have p4 : w4.cell? ⟨mb, 4, none⟩ = some (.map (some eb)) := by rw [hw4]; exact (mTurn_cell hne4).trans m4
      have p5 : w4.cell? ⟨w.heap.size, 0, none⟩ = some (.int .i64 (k.inp : Int)) := by rw [hw4]; exact (mTurn_cell hne5).trans q0
      have p6 : w4.cell? ⟨w.heap.size, 1, none⟩ = some (.int .i64 (k.rule : Int)) := by rw [hw4]; exact (mTurn_cell hne5).trans q1
      have p7 : w4.cell? ⟨w.heap.size, 2, none⟩ = some (.int .i64 (k.place : Int)) := by rw [hw4]; exact (mTurn_cell hne5).trans q2
      have z0 : w4.cell? ⟨gb, 0, none⟩ = some (.int .i64 (gk.inp : Int)) := by rw [hw4]; exact (mTurn_cell hne6).trans y0
      have z1 : w4.cell? ⟨gb, 1, none⟩ = some (.int .i64 (gk.rule : Int)) := by rw [hw4]; exact (mTurn_cell hne6).trans y1
      have z2 : w4.cell? ⟨gb, 2, none⟩ = some (.int .i64 (gk.place : Int)) := by rw [hw4]; exact (mTurn_cell hne6).trans y2
      have hbD : bOf (eRm EL gk) k = none := by
        by_cases hkg : k = gk
        · cases hbb : bOf (eRm EL gk) k with
          | none => rfl
          | some z => exact absurd hkg (eRm_not EL gk h.nd _ (bOf_mem _ _ _ hbb))
        · rw [bOf_rm EL gk k hkg]; exact hbno
      have hfD : eFi (eRm EL gk) k 0 = none := by
        have := bOf_eFi (eRm EL gk) k 0
        rw [hbD] at this
        simpa using this
      obtain ⟨o, hput, hmapW⟩ := put_run (show MapIs w4.drew eb (eRm EL gk) from hmapD) k hfD w1.heap.size
      unfold kyV ptB' at hput
      unfold kyV at hdel
      have hEO : eOut EL (mAdd C M k).1 = eRm EL gk := by rw [hgn]; rfl
      have hk3W : Kept (· = eb) w3 (mTurn w4.drew eb o) := hk34.trans ((Kept.refl (· = eb) w4).drew.trans (mTurn_kept _ _ _))
      have hfin := keep_put (W := mTurn w4.drew eb o) (r := r) h hk hR hpol hO hen2 henb hbno (by have := h.low.1; omega) (fun j hj => ⟨(hS j hj).1, (hS j hj).2.1⟩) hb3 hmap3 hk3W (by rw [hEO]; exact hmapW)
      have hkW : Kept (Mw b0 w) w (mTurn w4.drew eb o) := hmwk (mTurn w4.drew eb o) w3 hO.kept hk3W
      have s2 : w4.cell? ⟨mb, 2, none⟩ = some (.int .i32 1) := by rw [hw4]; exact (mTurn_cell hne4).trans m2
      have n2 : (mTurn w4.drew eb o).cell? ⟨mb, 2, none⟩ = some (.int .i32 1) := (mTurn_cell hne4).trans s2
      have n4 : (mTurn w4.drew eb o).cell? ⟨mb, 4, none⟩ = some (.map (some eb)) := (mTurn_cell hne4).trans p4
      have n5 : (mTurn w4.drew eb o).cell? ⟨w.heap.size, 0, none⟩ = some (.int .i64 (k.inp : Int)) := (mTurn_cell hne5).trans p5
      have n6 : (mTurn w4.drew eb o).cell? ⟨w.heap.size, 1, none⟩ = some (.int .i64 (k.rule : Int)) := (mTurn_cell hne5).trans p6
      have n7 : (mTurn w4.drew eb o).cell? ⟨w.heap.size, 2, none⟩ = some (.int .i64 (k.place : Int)) := (mTurn_cell hne5).trans p7
      have n3 : (mTurn w4.drew eb o).frozen? ⟨mb, 2, none⟩ = false := by
        have hx := (hk3W.block mb (objAt_lt (show objAt w3 mb = _ from hb3)) hne4).trans hb3
        simp [World.frozen?, hx]
      clear hw4
      simp only [optP, Option.map_some]
      go_wp2_with fail
      go_region_held3 (fun w' => w'.cell? ⟨mb, 4, none⟩ = some (.map (some eb)) ∧ w'.cell? ⟨gb, 0, none⟩ = some (.int .i64 (gk.inp : Int)) ∧ w'.cell? ⟨gb, 1, none⟩ = some (.int .i64 (gk.rule : Int)) ∧ w'.cell? ⟨gb, 2, none⟩ = some (.int .i64 (gk.place : Int))) (go_keep) (fail)
      go_wp2_with fail
      go_region_held3 (fun w' => w'.cell? ⟨mb, 4, none⟩ = some (.map (some eb)) ∧ w'.cell? ⟨w.heap.size, 0, none⟩ = some (.int .i64 (k.inp : Int)) ∧ w'.cell? ⟨w.heap.size, 1, none⟩ = some (.int .i64 (k.rule : Int)) ∧ w'.cell? ⟨w.heap.size, 2, none⟩ = some (.int .i64 (k.place : Int))) (go_keep) (fail)
      go_wp2
      refine leaves_cons (f := 109) (args := #[.pointer (some ⟨mb, 2, none⟩)]) (by simp) (by simp [go_sem]) ?_
      refine (unlock_deferred Tryz.muLib ⟨mb, 2, none⟩ .returning (mTurn w4.drew eb o) n2 n3).mono ?_
      rintro e u' w'' ⟨rfl, rfl, rfl⟩
      rw [HM.out]
      exact ⟨_, results_none rfl _ _ _, rfl, ⟨eb, ob, _, hfin⟩, Kept.setCell (S := Mw b0 w) hkW (p := ⟨mb, 2, none⟩) (fun _ => h.mw (.inl rfl)) _⟩
end Go.Proofs.YtagklnaaoclmhaaGreatDoor

namespace Go.Proofs.YtagklnaaoclmhaaGreatDoor
open Go.RowKit Go.MuLone

theorem keep_any (b0 mb eb ob : Nat) (EL : List (Ky × Nat)) (C : Mc) (R : Nat → Rs → Prop) (M : Ms) (k : Ky) (rb : Nat) (r : Rs) (w : World) (h : MmI w b0 mb eb ob EL C R M) (hk : KyIn k) (hR : R rb r) :
    Calls Tryz.prog 152 #[ptB' mb, kyV k, ptB' rb] w fun e w' => KpOut b0 mb C R (mKeep C M k r) w e w' := by
  by_cases h0 : C.mask / 2 ^ k.rule % 2 = 0
  · exact keep0_any b0 mb eb ob EL C R M k rb r w h hk h0
  · cases hx : eFi EL k 0 with
    | none => exact keep2_any b0 mb eb ob EL C R M k rb r w h hk h0 hR hx
    | some x => exact keep1_any b0 mb eb ob EL C R M k rb x.2 x.1 r w h hk h0 hR hx

theorem World.drewN_heap' (w : World) (n k : Nat) : (w.drewN n).heap[k]? = w.heap[k]? := rfl
theorem World.drew_heap' (w : World) : w.drew.heap = w.heap := rfl

set_option maxRecDepth 100000 in
set_option maxHeartbeats 800000 in
theorem stats_any (b0 mb eb ob : Nat) (EL : List (Ky × Nat)) (C : Mc) (R : Nat → Rs → Prop) (M : Ms) (w : World) (h : MmI w b0 mb eb ob EL C R M) :
    Calls Tryz.prog 75 #[ptB' mb] w fun e w' => e = .returned (.agg #[.int .i64 (M.ent.length : Int), .int .i64 (M.ent.length : Int), .int .i64 (M.hits : Int), .int .i64 0]) ∧ Kept (fun _ => False) w w' := by
  have hb := h.blk
  have hlen : EL.length = M.ent.length := by have := congrArg List.length h.keys; simpa using this
  obtain ⟨es, cl, hm, hes⟩ := h.map
  have hel : es.size = M.ent.length := by have := hes.len; simp at this; omega
  have c2 : w.cell? ⟨mb, 2, none⟩ = some (.int .i32 0) := by simp [World.cell?, hb]
  have c4 : w.cell? ⟨mb, 4, none⟩ = some (.map (some eb)) := by simp [World.cell?, hb]
  have c5 : w.cell? ⟨mb, 5, none⟩ = some (.int .i64 (M.hits : Int)) := by simp [World.cell?, hb]
  have f2 : w.frozen? ⟨mb, 2, none⟩ = false := by simp [World.frozen?, hb]
  have hmb := lt_cell c2
  have hL := fun (W : World) (hc : W.cell? ⟨mb, 2, none⟩ = some (.int .i32 0)) (hf : W.frozen? ⟨mb, 2, none⟩ = false) => lock_free Tryz.muLib ⟨mb, 2, none⟩ W hc hf
  have hebm := h.apart.1
  have heb := h.map.lt
  have hm1 : ∀ o n, (((w.setCell ⟨mb, 2, none⟩ (.int .i32 1)).alloc o).drewN n).heap[eb]? = some (.map es cl) := by
    intro o n
    show ((w.setCell ⟨mb, 2, none⟩ (.int .i32 1)).alloc o).heap[eb]? = _
    rw [Below.heap_alloc _ _ _ (by simpa using heb), Below.heap_setCell _ _ _ _ (show eb ≠ mb from hebm)]
    exact hm
  have hln := fun o (ty : TypeId) => run_len_map (P := Tryz.prog) ((w.setCell ⟨mb, 2, none⟩ (.int .i32 1)).alloc o) 210 ty eb es cl (by kernel_rfl) (hm1 o 0)
  rw [hel] at hln
  unfold ptB' at *
  clear hb
  go_enter_defers Tryz.func75, Tryz.ntmps75
  go_wp2_with fail
  refine (hL _ (by go_simp) (by go_simp)).mono ?_
  rintro e w2 ⟨rfl, rfl⟩
  go_wp2_with fail
  obtain ⟨w1, hw1⟩ : ∃ w1, w1 = (w.setCell ⟨mb, 2, none⟩ (.int .i32 1)).alloc (.cells #[.int .i64 0, .int .i64 0, .int .i64 0, .int .i64 0] 73) := ⟨_, rfl⟩
  rw [← hw1]
  have hb1 : w1.heap[mb]? = some (.cells #[.int .i64 (C.mask : Int), ordV C ob, .int .i32 1, .int .u32 0, .map (some eb), .int .i64 (M.hits : Int)] 218 (0, 0)) := by
    rw [hw1]
    exact (Below.heap_alloc _ _ _ (by simpa using hmb)).trans (heap_set_at h.blk 2 _)
  have hr1 : w1.heap[w.heap.size]? = some (.cells #[.int .i64 0, .int .i64 0, .int .i64 0, .int .i64 0] 73 (0, 0)) := by
    rw [hw1]; have := heap_alloc_new (w.setCell ⟨mb, 2, none⟩ (.int .i32 1)) (.cells #[.int .i64 0, .int .i64 0, .int .i64 0, .int .i64 0] 73); simpa using this
  have hk1 : Kept (· = mb) w w1 := by rw [hw1]; exact ((Kept.refl (· = mb) w).setCell (p := ⟨mb, 2, none⟩) (fun _ => rfl) _).alloc _
  have d5 : w1.cell? ⟨mb, 5, none⟩ = some (.int .i64 (M.hits : Int)) := by simp [World.cell?, hb1]
  have r0 : w1.cell? ⟨w.heap.size, 0, none⟩ = some (.int .i64 0) := by simp [World.cell?, hr1]
  have r1 : w1.cell? ⟨w.heap.size, 1, none⟩ = some (.int .i64 0) := by simp [World.cell?, hr1]
  have r2 : w1.cell? ⟨w.heap.size, 2, none⟩ = some (.int .i64 0) := by simp [World.cell?, hr1]
  have r3 : w1.cell? ⟨w.heap.size, 3, none⟩ = some (.int .i64 0) := by simp [World.cell?, hr1]
  have s0 : w1.frozen? ⟨w.heap.size, 0, none⟩ = false := by simp [World.frozen?, hr1]
  have s1 : w1.frozen? ⟨w.heap.size, 1, none⟩ = false := by simp [World.frozen?, hr1]
  have s2 : w1.frozen? ⟨w.heap.size, 2, none⟩ = false := by simp [World.frozen?, hr1]
  have s3 : w1.frozen? ⟨w.heap.size, 3, none⟩ = false := by simp [World.frozen?, hr1]
  have hmbn : ¬ mb = w.heap.size := by omega
  have hmbn' : ¬ w.heap.size = mb := by omega
  clear hw1 hln hm1 c2 c4 c5 f2 hL
  go_region_held3 (fun w' => w'.cell? ⟨mb, 5, none⟩ = some (.int .i64 (M.hits : Int))) (go_keep) (fail)
  obtain ⟨w2, hw2⟩ : ∃ w2, w2 = (((((((w1.setCell ⟨w.heap.size, 0, none⟩ (.int .i64 0)).setCell ⟨w.heap.size, 1, none⟩ (.int .i64 0)).setCell ⟨w.heap.size, 2, none⟩ (.int .i64 0)).setCell ⟨w.heap.size, 3, none⟩ (.int .i64 0)).setCell ⟨w.heap.size, 0, none⟩ (.int .i64 (M.ent.length : Int))).setCell ⟨w.heap.size, 1, none⟩ (.int .i64 (M.ent.length : Int))).setCell ⟨w.heap.size, 2, none⟩ (.int .i64 (M.hits : Int))).drew := ⟨_, rfl⟩
  rw [← hw2]
  have hk2 : Kept (· = w.heap.size) w1 w2 := by
    rw [hw2]
    exact ((((((((Kept.refl (· = w.heap.size) w1).setCell (p := ⟨w.heap.size, 0, none⟩) (fun _ => rfl) _).setCell (p := ⟨w.heap.size, 1, none⟩) (fun _ => rfl) _).setCell (p := ⟨w.heap.size, 2, none⟩) (fun _ => rfl) _).setCell (p := ⟨w.heap.size, 3, none⟩) (fun _ => rfl) _).setCell (p := ⟨w.heap.size, 0, none⟩) (fun _ => rfl) _).setCell (p := ⟨w.heap.size, 1, none⟩) (fun _ => rfl) _).setCell (p := ⟨w.heap.size, 2, none⟩) (fun _ => rfl) _).drew
  have hr2 : w2.heap[w.heap.size]? = some (.cells #[.int .i64 (M.ent.length : Int), .int .i64 (M.ent.length : Int), .int .i64 (M.hits : Int), .int .i64 0] 73 (0, 0)) := by
    have h1 := heap_set_at hr1 0 (.int .i64 0)
    have h2 := heap_set_at h1 1 (.int .i64 0)
    have h3 := heap_set_at h2 2 (.int .i64 0)
    have h4 := heap_set_at h3 3 (.int .i64 0)
    have h5 := heap_set_at h4 0 (.int .i64 (M.ent.length : Int))
    have h6 := heap_set_at h5 1 (.int .i64 (M.ent.length : Int))
    have h7 := heap_set_at h6 2 (.int .i64 (M.hits : Int))
    clear h1 h2 h3 h4 h5 h6
    rw [hw2, World.drew_heap']
    rw [h7]
    simp
  have hb2 := (hk2.block mb (objAt_lt (show objAt w1 mb = _ from hb1)) hmbn).trans hb1
  have m2 : w2.cell? ⟨mb, 2, none⟩ = some (.int .i32 1) := by simp [World.cell?, hb2]
  have m3 : w2.frozen? ⟨mb, 2, none⟩ = false := by simp [World.frozen?, hb2]
  have hkf : Kept (fun _ => False) w (w2.setCell ⟨mb, 2, none⟩ (.int .i32 0)) := relock (W := w2) h.blk hb2 rfl (hk1.then hk2 (fun i hi e => by
    have e' : i = w.heap.size := e
    omega))
  have hrf : (w2.setCell ⟨mb, 2, none⟩ (.int .i32 0)).heap[w.heap.size]? = some (.cells #[.int .i64 (M.ent.length : Int), .int .i64 (M.ent.length : Int), .int .i64 (M.hits : Int), .int .i64 0] 73 (0, 0)) := by
    rw [Below.heap_setCell _ _ _ _ (show w.heap.size ≠ mb from hmbn')]; exact hr2
  have t0 : (w2.setCell ⟨mb, 2, none⟩ (.int .i32 0)).cell? ⟨w.heap.size, 0, none⟩ = some (.int .i64 (M.ent.length : Int)) := by simp only [World.cell?, hrf]; rfl
  have t1 : (w2.setCell ⟨mb, 2, none⟩ (.int .i32 0)).cell? ⟨w.heap.size, 1, none⟩ = some (.int .i64 (M.ent.length : Int)) := by simp only [World.cell?, hrf]; rfl
  have t2 : (w2.setCell ⟨mb, 2, none⟩ (.int .i32 0)).cell? ⟨w.heap.size, 2, none⟩ = some (.int .i64 (M.hits : Int)) := by simp only [World.cell?, hrf]; rfl
  have t3 : (w2.setCell ⟨mb, 2, none⟩ (.int .i32 0)).cell? ⟨w.heap.size, 3, none⟩ = some (.int .i64 0) := by simp only [World.cell?, hrf]; rfl
  clear hw2
  generalize hw3 : w2.setCell ⟨mb, 2, none⟩ (.int .i32 0) = w3 at *
  go_wp2
  refine leaves_cons (f := 109) (args := #[.pointer (some ⟨mb, 2, none⟩)]) (by simp) (by simp [go_sem]) ?_
  refine (unlock_deferred Tryz.muLib ⟨mb, 2, none⟩ .returning w2 m2 m3).mono ?_
  rintro e u' w'' ⟨rfl, rfl, rfl⟩
  rw [hw3]
  refine ⟨.agg #[.int .i64 (M.ent.length : Int), .int .i64 (M.ent.length : Int), .int .i64 (M.hits : Int), .int .i64 0], ?_, rfl, hkf⟩
  simp [results, Tryz.results75, go_sem, t0, t1, t2, t3]

/-- What New makes of a configuration. -/
def mcOf (pol bud mask nr : Nat) : Mc := if bud = 0 ∨ pol = 0 then ⟨0, bud, 0, nr⟩ else ⟨pol, bud, mask, nr⟩
def ms0 (bud : Nat) : Ms := ⟨[], [], List.replicate bud none, 0⟩
theorem info271 : (Tryz.prog.info? 271).map (fun i => (i.zero, i.size, i.bytes)) = some (some (.pointer none), 1, 8) := by kernel_rfl
theorem mkL (W : World) (n : Nat) (hn : n ≤ 5000) : (Instr.makeSlice 268 (.int .i64 (n : Int)) (.int .i64 (n : Int))).run Tryz.prog W = .ok (.slice (some ⟨W.heap.size, 0, none⟩) n n) (W.alloc (.cells (Array.replicate n (.pointer none)) 271)) := by
  obtain ⟨i0, hi0, hz0, hz1, hz2⟩ := info_parts info271
  have hr := run_make (P := Tryz.prog) W 268 271 i0 _ Tryz.underlying268 hi0 hz0 .i64 .i64 n n (by omega) (Int.le_refl _) (by rw [hz2]; omega) (by omega)
  rw [hr]
  simp only [Int.toNat_natCast, hz1, Nat.mul_one]
  have hz : (Value.pointer none).cells = #[.pointer none] := rfl
  have : madeCells (Value.pointer none).cells n = Array.replicate n (.pointer none) := by
    apply Array.ext'
    rw [hz, toList_madeCells_one]; simp
  rw [this]

set_option maxRecDepth 100000 in
set_option maxHeartbeats 800000 in
theorem newD_any (bud nr : Nat) (w : World) (hb : bud ≤ 1000) (hn : nr ≤ 8) : Calls Tryz.prog 101 #[.int .i64 (bud : Int), .int .i64 (nr : Int)] w fun e w' => e = .returned (ptB' (w.heap.size + 1)) ∧ w' = (w.alloc (.cells (Array.replicate bud (.pointer none)) 271)).alloc (.cells #[.slice (some ⟨w.heap.size, 0, none⟩) bud bud, .int .i64 (nr : Int)] 270) := by
  unfold ptB'
  have hmk := mkL w bud (by omega)
  go_enter Tryz.func101, Tryz.ntmps101
  go_wp2
  go_ret
  exact ⟨rfl, rfl⟩

set_option maxRecDepth 100000 in
set_option maxHeartbeats 800000 in
theorem newO_any (bud : Nat) (w : World) (hb : bud ≤ 1000) : Calls Tryz.prog 102 #[.int .i64 (bud : Int)] w fun e w' => e = .returned (ptB' w.heap.size) ∧ ∃ n, w' = (w.alloc (.cells #[.int .i64 0, .int .i64 0, .int .i64 0, ptB' w.heap.size, ptB' w.heap.size, .int .i64 (bud : Int)] 275)).drewN n := by
  unfold ptB'
  go_enter Tryz.func102, Tryz.ntmps102
  go_wp2
  go_region
  go_wp2
  go_ret
  exact ⟨rfl, 1, rfl⟩

theorem mm_new {W : World} {b0 mb eb ob : Nat} {C : Mc} {bud : Nat} {R : Nat → Rs → Prop} (hok : McOk C) (h1 : W.heap[mb]? = some (.cells #[.int .i64 (C.mask : Int), ordV C ob, .int .i32 0, .int .u32 0, .map (some eb), .int .i64 0] 218 (0, 0))) (h2 : W.heap[eb]? = some (.map #[] 0)) (hl : b0 ≤ mb ∧ b0 ≤ eb)
    (hd : C.pol = 1 → DirI W b0 ob C.bud C.nr [] (ms0 bud).plc) (ho : C.pol = 2 → OldI W b0 ob C.bud [] (ms0 bud).ord) : MmI W b0 mb eb ob [] C R (ms0 bud) :=
  ⟨hok, h1, ⟨#[], 0, h2, rfl⟩, rfl, List.nodup_nil, fun e he => absurd he (by simp), fun i h => absurd h (by simp), ⟨hl.1, hl.2, fun e he => absurd he (by simp)⟩, fun _ => rfl, hd, ho, by simp [ms0]⟩
theorem dir_new {W : World} {b0 db pb bud nr : Nat} (h1 : W.heap[db]? = some (.cells #[.slice (some ⟨pb, 0, none⟩) bud bud, .int .i64 (nr : Int)] 270 (0, 0))) (h2 : W.heap[pb]? = some (.cells (Array.replicate bud (.pointer none)) 271 (0, 0))) (hl : b0 ≤ db ∧ b0 ≤ pb) : DirI W b0 db bud nr [] (List.replicate bud none) := by
  refine ⟨⟨pb, hl.2, h1, ?_⟩, by simp, fun e he => absurd he (by simp), fun p k hp => ?_, hl.1⟩
  · rw [h2]
    congr 2
    simp [plV, optP]
  · rw [List.getElem?_replicate] at hp
    split at hp <;> simp at hp
theorem old_new {W : World} {b0 ob bud : Nat} (h : W.heap[ob]? = some (.cells #[.int .i64 0, .int .i64 0, .int .i64 0, ptB' ob, ptB' ob, .int .i64 (bud : Int)] 275 (0, 0))) (hl : b0 ≤ ob) : OldI W b0 ob bud [] [] := by
  have hc := celOf_at h
  refine ⟨⟨[], List.Perm.refl _, rfl, fun _ => ob, fun _ => ob, ⟨⟨rfl, rfl, trivial⟩, by simp⟩, fun x hx => ?_⟩, ⟨bud, by simp, hc⟩, hl⟩
  have : x = ob := by simpa using hx
  subst this
  unfold Lnk
  rw [hc]; exact h

theorem al2 (w : World) (a b : Obj) : ((w.alloc a).alloc b).heap[w.heap.size + 1]? = some b := by
  have := heap_alloc_new (w.alloc a) b
  simpa using this
theorem al3 (w : World) (a b c : Obj) : (((w.alloc a).alloc b).alloc c).heap[w.heap.size + 1]? = some b ∧ (((w.alloc a).alloc b).alloc c).heap[w.heap.size + 1 + 1]? = some c := by
  refine ⟨(Below.heap_alloc _ _ _ (by simp)).trans (al2 w a b), ?_⟩
  have := al2 (w.alloc a) b c
  simpa using this
theorem al4 (w : World) (a b c d : Obj) : ((((w.alloc a).alloc b).alloc c).alloc d).heap[w.heap.size + 1]? = some b ∧ ((((w.alloc a).alloc b).alloc c).alloc d).heap[w.heap.size + 1 + 1]? = some c ∧ ((((w.alloc a).alloc b).alloc c).alloc d).heap[w.heap.size + 1 + 1 + 1]? = some d := by
  refine ⟨(Below.heap_alloc _ _ _ (by simp)).trans (al3 w a b c).1, (Below.heap_alloc _ _ _ (by simp)).trans (al3 w a b c).2, ?_⟩
  have := (al3 (w.alloc a) b c d).2
  simpa using this
theorem al5 (w : World) (a b c d e : Obj) : (((((w.alloc a).alloc b).alloc c).alloc d).alloc e).heap[w.heap.size + 1]? = some b ∧ (((((w.alloc a).alloc b).alloc c).alloc d).alloc e).heap[w.heap.size + 1 + 1]? = some c ∧ (((((w.alloc a).alloc b).alloc c).alloc d).alloc e).heap[w.heap.size + 1 + 1 + 1]? = some d ∧ (((((w.alloc a).alloc b).alloc c).alloc d).alloc e).heap[w.heap.size + 1 + 1 + 1 + 1]? = some e := by
  refine ⟨(Below.heap_alloc _ _ _ (by simp)).trans (al4 w a b c d).1, (Below.heap_alloc _ _ _ (by simp)).trans (al4 w a b c d).2.1, (Below.heap_alloc _ _ _ (by simp)).trans (al4 w a b c d).2.2, ?_⟩
  have := (al4 (w.alloc a) b c d e).2.2
  simpa using this

structure NwOut (pol bud mask nr : Nat) (R : Nat → Rs → Prop) (w : World) (e : Ending) (w' : World) : Prop where
  res : ∃ mb eb ob, e = .returned (ptB' mb) ∧ MmI w' w.heap.size mb eb ob [] (mcOf pol bud mask nr) R (ms0 bud)
  kept : Kept (fun _ => False) w w'
set_option maxRecDepth 100000 in
set_option maxHeartbeats 800000 in
theorem new_any (pol bud mask nr : Nat) (runs : Int) (R : Nat → Rs → Prop) (w : World) (hp : pol ≤ 2) (hb : bud ≤ 1000) (hm : mask ≤ 255) (hn : nr ≤ 8) :
    Calls Tryz.prog 71 #[.agg #[.int .i64 (pol : Int), .int .i64 (bud : Int), .int .i64 (mask : Int), .int .i64 runs], .int .i64 (nr : Int)] w fun e w' => NwOut pol bud mask nr R w e w' := by
  have hmk : ∀ W : World, (Instr.makeMap 210 none).run Tryz.prog W = .ok (.map (some W.heap.size)) (W.alloc (.map #[] 0)) := fun W => rfl
  by_cases hb0 : bud = 0
  · subst hb0
    have hC : mcOf pol 0 mask nr = ⟨0, 0, 0, nr⟩ := by simp [mcOf]
    go_enter Tryz.func71, Tryz.ntmps71
    go_wp2
    go_ret
    refine ⟨⟨w.heap.size + 1 + 1, w.heap.size + 1, 0, rfl, ?_⟩, (((Kept.refl _ w).alloc _).alloc _).alloc _⟩
    rw [hC]
    exact mm_new ⟨.inl ⟨rfl, rfl⟩, by simp, by simp, hn⟩ (al3 w _ _ _).2 (al3 w _ _ _).1 ⟨by omega, by omega⟩ (fun e => by simp at e) (fun e => by simp at e)
  · have q0 : ((bud : Int) == 0) = false := by simp; omega
    by_cases h1 : pol = 1
    · subst h1
      have hC : mcOf 1 bud mask nr = ⟨1, bud, mask, nr⟩ := by simp [mcOf, hb0]
      have hD := fun W => newD_any bud nr W hb hn
      unfold ptB' at hD
      go_enter Tryz.func71, Tryz.ntmps71
      go_wp2_with fail
      go_region_with (go_at_call 101; refine (hD _).mono ?_; rintro e w1 ⟨rfl, rfl⟩)
      all_goals (go_wp2; go_ret)
      all_goals
        refine ⟨⟨w.heap.size + 1 + 1, w.heap.size + 1, w.heap.size + 1 + 1 + 1 + 1, rfl, ?_⟩, (((((((Kept.refl _ w).alloc _).alloc _).alloc _).alloc _).alloc _)).drew⟩
        rw [hC]
        exact mm_new ⟨.inr ⟨.inl rfl, Nat.pos_of_ne_zero hb0⟩, hb, hm, hn⟩ (al5 w _ _ _ _ _).2.1 (al5 w _ _ _ _ _).1 ⟨by omega, by omega⟩ (fun e => dir_new (pb := w.heap.size + 1 + 1 + 1) (al5 w _ _ _ _ _).2.2.2 (al5 w _ _ _ _ _).2.2.1 ⟨by omega, by omega⟩) (fun e => by simp at e)
    · by_cases h2 : pol = 2
      · subst h2
        have hC : mcOf 2 bud mask nr = ⟨2, bud, mask, nr⟩ := by simp [mcOf, hb0]
        have hD := fun W => newO_any bud W hb
        unfold ptB' at hD
        go_enter Tryz.func71, Tryz.ntmps71
        go_wp2_with fail
        go_region_with (go_at_call 102; refine (hD _).mono ?_; rintro e w1 ⟨rfl, n1, rfl⟩)
        all_goals (go_wp2; go_ret)
        all_goals
          refine ⟨⟨w.heap.size + 1 + 1, w.heap.size + 1, w.heap.size + 1 + 1 + 1, rfl, ?_⟩, ?_⟩
          · rw [hC]
            have hA := al4 w (.cells #[.int .i64 2, .int .i64 (bud : Int), .int .i64 (mask : Int), .int .i64 runs] 23) (.map #[] 0) (.cells #[.int .i64 0, .nilIface, .int .i32 0, .int .u32 0, .map (some (w.heap.size + 1)), .int .i64 0] 218) (.cells #[.int .i64 0, .int .i64 0, .int .i64 0, .pointer (some ⟨w.heap.size + 1 + 1 + 1, 0, none⟩), .pointer (some ⟨w.heap.size + 1 + 1 + 1, 0, none⟩), .int .i64 (bud : Int)] 275)
            refine mm_new ⟨.inr ⟨.inr rfl, Nat.pos_of_ne_zero hb0⟩, hb, hm, hn⟩ ?_ ?_ ⟨by omega, by omega⟩ (fun e => by simp at e) (fun e => old_new ?_ (by omega))
            · have hA2 := fun n => (World.drewN_heap' _ n _).trans hA.2.1
              exact heap_set_at (heap_set_at (hA2 _) 0 _) 1 _
            · rw [Below.heap_setCell _ _ _ _ (show w.heap.size + 1 ≠ w.heap.size + 1 + 1 by omega), Below.heap_setCell _ _ _ _ (show w.heap.size + 1 ≠ w.heap.size + 1 + 1 by omega)]
              exact hA.1
            · rw [Below.heap_setCell _ _ _ _ (show w.heap.size + 1 + 1 + 1 ≠ w.heap.size + 1 + 1 by omega), Below.heap_setCell _ _ _ _ (show w.heap.size + 1 + 1 + 1 ≠ w.heap.size + 1 + 1 by omega)]
              exact hA.2.2
          · exact ((((((Kept.refl _ w).alloc _).alloc _).alloc _).alloc _).drewN _).setCell (p := ⟨w.heap.size + 1 + 1, 0, none⟩) (fun e => by dsimp only at e; omega) _ |>.setCell (p := ⟨w.heap.size + 1 + 1, 1, none⟩) (fun e => by dsimp only at e; omega) _
      · have h3 : pol = 0 := by omega
        subst h3
        have hC : mcOf 0 bud mask nr = ⟨0, bud, 0, nr⟩ := by simp [mcOf]
        go_enter Tryz.func71, Tryz.ntmps71
        go_wp2
        go_ret
        refine ⟨⟨w.heap.size + 1 + 1, w.heap.size + 1, 0, rfl, ?_⟩, (((Kept.refl _ w).alloc _).alloc _).alloc _⟩
        rw [hC]
        exact mm_new ⟨.inl ⟨rfl, rfl⟩, hb, by simp, hn⟩ (al3 w _ _ _).2 (al3 w _ _ _).1 ⟨by omega, by omega⟩ (fun e => by simp at e) (fun e => by simp at e)
end Go.Proofs.YtagklnaaoclmhaaGreatDoor
