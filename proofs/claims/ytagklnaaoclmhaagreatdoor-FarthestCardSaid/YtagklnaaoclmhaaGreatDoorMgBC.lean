import Derived.Test.YtagklnaaoclmhaaGreatDoorMgBB
import Derived.Test.YtagklnaaoclmhaaGreatDoorMgAX
import Derived.Test.YtagklnaaoclmhaaGreatDoorMgAP
set_option linter.unusedSimpArgs false
set_option linter.unusedVariables false
namespace Go.Proofs.YtagklnaaoclmhaaGreatDoor
open Go.RowKit

def wiOf (G s : ByteArray) (c : Cf) (gd gb mb b0 bg H : Nat) (rv : Value) (P L : List Nat) (ρ : Nat → Int) : Wi :=
  { wk := H + 2, gd := gd, gb := gb, mb := mb, kb := H + 1, b0 := b0, inp := s, bg := bg, rv := rv, P := P, ρ := ρ, L := L, K := kOf G s c (brOf P L) }
theorem grd_of {G s : ByteArray} {c : Cf} (hG : refChk G = (0, 0)) (hc : CfOk c) (hs : s.size ≤ 60) {w : World} {gd gb mb eb ob b0 bg : Nat} {rv : Value} {P L : List Nat} {ρ : Nat → Int}
    (hgm : Gm w bg gb rv P ρ (read G).2 (read G).1.ns) (hρ : ∀ i, i < (read G).1.ns.length → (nth (read G).1.ns i).kind = 3 → ρ i = (ruI (read G).2 (nth (read G).1.ns i) : Int))
    (hL : w.cell? ⟨gb, 1, none⟩ = some (.int .i64 (L.length : Int))) (hB : Bk w P L (read G).1.ns)
    (hgd : w.heap[gd]? = some (.cells #[ptB' gb, .int .i64 (c.runs : Int), ptB' mb] 152 (0, 0))) (hM : MmI w b0 mb eb ob [] (mcOf c.pol c.bud c.mask (read G).2.length) (fun _ _ => False) (ms0 c.bud)) :
    Grd (wiOf G s c gd gb mb b0 bg w.heap.size rv P L ρ) c.bud w := by
  obtain ⟨h400, hbad, S, hE⟩ := ended_of hG
  have hq := read_q h400 hbad
  have hln := read_len h400
  have hkc := kc_of (s := s) (c := c) hG hgm hB
  have hmem : ∀ i, i < (read G).1.ns.length → Nsm G (nth (read G).1.ns i) := fun i hi => hq.nd _ (by rw [nth_get hi]; exact List.getElem_mem hi)
  have hb0 : b0 ≤ w.heap.size := by have := hM.low.1; have := objAt_lt (show objAt w mb = _ from hM.blk); omega
  refine ⟨⟨rfl, hs, rfl, hc.runs.2, Nat.zero_le _, hE.wf, fun i hi hk => ⟨hρ i hi hk, hkc.ru i hi hk⟩, hkc.ch, fun i hi => (hmem i hi).term, fun i hi h => br_at h, ?_, ?_⟩, ⟨fun i hi => ?_, fun i hi => ?_⟩, rfl, rfl, hb0, hgd, hgm, ⟨hL, hB⟩, ⟨eb, ob, hM.rel (fun _ _ x => x.elim)⟩⟩
  · show (read G).1.ns.length ≤ 5000; omega
  · show b0 ≤ w.heap.size + 2 ∧ b0 ≤ w.heap.size + 1; omega
  · have := (hmem i hi).tx; show (nth (read G).1.ns i).text.length ≤ 1000; omega
  · have := (hmem i hi).rl; show (nth (read G).1.ns i).rng.length ≤ 5000; omega

/-- A parser in memory: its grammar, its configuration, its stats. -/
structure Psr (w : World) (pb : Nat) (G : ByteArray) (c : Cf) (base : Nat) (a b d e : Nat) : Prop where
  chk : refChk G = (0, 0)
  cf : CfOk c
  low : base ≤ pb
  ex : ∃ gb bg rv P ρ, w.heap[pb]? = some (.cells #[ptB' gb, .int .i64 (c.pol : Int), .int .i64 (c.bud : Int), .int .i64 (c.mask : Int), .int .i64 (c.runs : Int), .int .i64 (a : Int), .int .i64 (b : Int), .int .i64 (d : Int), .int .i64 (e : Int)] 105 (0, 0)) ∧ Gm w bg gb rv P ρ (read G).2 (read G).1.ns ∧
    ∀ i, i < (read G).1.ns.length → (nth (read G).1.ns i).kind = 3 → ρ i = (ruI (read G).2 (nth (read G).1.ns i) : Int)
/-- It lasts. -/
theorem Psr.kept {w w' : World} {pb base a b d e : Nat} {G : ByteArray} {c : Cf} {S : Nat → Prop} (h : Psr w pb G c base a b d e) (hk : Kept S w w') (hS : ∀ j cs t, S j → w.heap[j]? = some (.cells cs t (0, 0)) → t ≠ 150 ∧ t ≠ 189 ∧ t ≠ 203 ∧ t ≠ 187 ∧ t ≠ 321) (hp : ¬ S pb) : Psr w' pb G c base a b d e := by
  obtain ⟨gb, bg, rv, P, ρ, h1, h2, h3⟩ := h.ex
  refine ⟨h.chk, h.cf, h.low, gb, bg, rv, P, ρ, ?_, h2.kept hk hS, h3⟩
  rw [hk.block pb (objAt_lt (show objAt w pb = _ from h1)) hp]; exact h1
theorem Psr.same {w w' : World} {pb base a b d e : Nat} {G : ByteArray} {c : Cf} (h : Psr w pb G c base a b d e) (hk : Kept (fun _ => False) w w') : Psr w' pb G c base a b d e :=
  h.kept hk (fun _ _ _ x => x.elim) (fun x => x)
/-- What Parse leaves, of a run by the document. -/
structure PzOut (G s : ByteArray) (c : Cf) (pb base f : Nat) (o : Ot) (w : World) (e : Ending) (w' : World) : Prop where
  spent : c.runs < o.rn + 1 → e = .returned (.tuple #[zAns, .int .i64 6]) ∧ Psr w' pb G c base 0 0 0 0
  ok : o.rn + 1 ≤ c.runs → ∃ (B : Bool) (T : Int) (tp fp : Option Addr) (tn tc fn fc : Nat), e = .returned (.tuple #[.agg #[.bool B, .int .i64 T, .slice tp tn tc, .int .i64 (fAll o.ev).1, .slice fp fn fc], .int .i64 0]) ∧
    AnsX w' w.heap.size (toI o.to) ((runO 0 0 0 o).tr.map nI) (fAll o.ev).2 B T (.slice tp tn tc) (.slice fp fn fc) ∧
    ∃ br n t s' r, Whole (kOf G s c br) n c.bud o (f + 1) t s' r ∧ s'.mem.ent.length ≤ c.bud ∧ Psr w' pb G c base s'.mem.ent.length s'.mem.ent.length s'.mem.hits s'.dn
  kept : Kept (fun k => k = pb) w w'
structure PlOut (G : ByteArray) (c : Cf) (pb base : Nat) (w : World) (e : Ending) (w' : World) : Prop where
  res : e = .returned (.tuple #[zAns, .int .i64 1])
  ps : Psr w' pb G c base 0 0 0 0
  kept : Kept (fun k => k = pb) w w'
theorem cells9 {w : World} {q t : Nat} {a b c d e f g h i : Value} (hq : w.heap[q]? = some (.cells #[a, b, c, d, e, f, g, h, i] t (0, 0))) : (w.cell? ⟨q, 0, none⟩ = some a ∧ w.cell? ⟨q, 1, none⟩ = some b ∧ w.cell? ⟨q, 2, none⟩ = some c ∧ w.cell? ⟨q, 3, none⟩ = some d ∧ w.cell? ⟨q, 4, none⟩ = some e ∧ w.cell? ⟨q, 5, none⟩ = some f ∧ w.cell? ⟨q, 6, none⟩ = some g ∧ w.cell? ⟨q, 7, none⟩ = some h ∧ w.cell? ⟨q, 8, none⟩ = some i) ∧ ∀ k, w.frozen? ⟨q, k, none⟩ = false := by
  refine ⟨⟨?_, ?_, ?_, ?_, ?_, ?_, ?_, ?_, ?_⟩, fun k => ?_⟩
  all_goals first | simp [World.cell?, hq] | simp [World.frozen?, hq]
/-- The stats are written. -/
def setS (w : World) (q : Nat) (a b c d : Value) : World := (((w.setCell ⟨q, 5, none⟩ a).setCell ⟨q, 6, none⟩ b).setCell ⟨q, 7, none⟩ c).setCell ⟨q, 8, none⟩ d
theorem setS_kept (w : World) (q : Nat) (a b c d : Value) : Kept (fun k => k = q) w (setS w q a b c d) :=
  (((((Kept.refl (fun k => k = q) w).setCell (p := ⟨q, 5, none⟩) (fun _ => rfl) _).setCell (p := ⟨q, 6, none⟩) (fun _ => rfl) _).setCell (p := ⟨q, 7, none⟩) (fun _ => rfl) _).setCell (p := ⟨q, 8, none⟩) (fun _ => rfl) _)
theorem setS_at {w : World} {q t : Nat} {x0 x1 x2 x3 x4 a' b' c' d' : Value} (h : w.heap[q]? = some (.cells #[x0, x1, x2, x3, x4, a', b', c', d'] t (0, 0))) (a b c d : Value) : (setS w q a b c d).heap[q]? = some (.cells #[x0, x1, x2, x3, x4, a, b, c, d] t (0, 0)) := by
  have e1 := heap_set_at h 5 a
  have e2 := heap_set_at e1 6 b
  have e3 := heap_set_at e2 7 c
  have e4 := heap_set_at e3 8 d
  unfold setS
  simpa using e4
theorem Psr.set {w w' : World} {pb base a b d e a' b' d' e' : Nat} {G : ByteArray} {c : Cf} (h : Psr w pb G c base a b d e) (hk : Kept (fun k => k = pb) w w') (hb : ∀ x0, w.heap[pb]? = some (.cells #[x0, .int .i64 (c.pol : Int), .int .i64 (c.bud : Int), .int .i64 (c.mask : Int), .int .i64 (c.runs : Int), .int .i64 (a : Int), .int .i64 (b : Int), .int .i64 (d : Int), .int .i64 (e : Int)] 105 (0, 0)) → w'.heap[pb]? = some (.cells #[x0, .int .i64 (c.pol : Int), .int .i64 (c.bud : Int), .int .i64 (c.mask : Int), .int .i64 (c.runs : Int), .int .i64 (a' : Int), .int .i64 (b' : Int), .int .i64 (d' : Int), .int .i64 (e' : Int)] 105 (0, 0))) : Psr w' pb G c base a' b' d' e' := by
  obtain ⟨gb, bg, rv, P, ρ, h1, h2, h3⟩ := h.ex
  exact ⟨h.chk, h.cf, h.low, gb, bg, rv, P, ρ, hb _ h1, h2.kept hk (fun j cs t e hj => by
    have e' : j = pb := e
    subst e'
    have hj2 : w.heap[j]? = _ := hj
    rw [h1] at hj2; simp at hj2
    rw [← hj2.2]; decide), h3⟩
end Go.Proofs.YtagklnaaoclmhaaGreatDoor

namespace Go.Proofs.YtagklnaaoclmhaaGreatDoor
open Go.RowKit

theorem tab_ne {w : World} {pb : Nat} {gb : Nat} {x1 x2 x3 x4 x5 x6 x7 x8 : Value} (hT : Tab w) (hb : w.heap[pb]? = some (.cells #[ptB' gb, x1, x2, x3, x4, x5, x6, x7, x8] 105 (0, 0))) : ¬ 0 = pb := fun e => by
  have h1 := hT 0 (by decide)
  have h2 := (cells9 hb).1.1
  rw [← e, h1] at h2
  simp [ptB'] at h2
def ans0 : Obj := .cells #[.bool false, .int .i64 0, .slice none 0 0, .int .i64 0, .slice none 0 0] 31
set_option maxRecDepth 100000 in
set_option maxHeartbeats 1600000 in
theorem parse_long {G s : ByteArray} {c : Cf} {pb base a b d e : Nat} {w : World} (h : Psr w pb G c base a b d e) (hT : Tab w) (hs : 60 < s.size) (hm : s.size ≤ maxLen) :
    Calls Tryz.prog 19 #[.pointer (some ⟨pb, 0, none⟩), .string s] w fun e w' => PlOut G c pb base w e w' := by
  obtain ⟨gb, bg, rv, P, ρ, hb, hgm, hρ⟩ := h.ex
  have hpl := objAt_lt (show objAt w pb = _ from hb)
  have hlong : ∀ W, Calls Tryz.prog 47 #[.string s] W fun e w' => e = .returned (.bool true) ∧ w' = W := fun W => by
    have := isLong_any s W hm
    rw [decide_eq_true hs] at this; exact this
  obtain ⟨⟨c0, c1, c2, c3, c4, c5, c6, c7, c8⟩, hf⟩ := cells9 hb
  have f5 := hf 5
  have f6 := hf 6
  have f7 := hf 7
  have f8 := hf 8
  obtain ⟨w1, hw1⟩ : ∃ w1, w1 = (setS w pb (.int .i64 0) (.int .i64 0) (.int .i64 0) (.int .i64 0)).alloc (.cells #[.bool false, .int .i64 0, .slice none 0 0, .int .i64 0, .slice none 0 0] 31) := ⟨_, rfl⟩
  have hK0 := setS_kept w pb (.int .i64 0) (.int .i64 0) (.int .i64 0) (.int .i64 0)
  have hK1 : Kept (fun k => k = pb) w w1 := by rw [hw1]; exact hK0.alloc _
  have hsz0 : (setS w pb (.int .i64 0) (.int .i64 0) (.int .i64 0) (.int .i64 0)).heap.size = w.heap.size := by unfold setS; simp
  have hq1 : w1.heap[w.heap.size]? = some (.cells #[.bool false, .int .i64 0, .slice none 0 0, .int .i64 0, .slice none 0 0] 31 (0, 0)) := by
    rw [hw1, ← hsz0]; exact heap_alloc_new _ _
  have hP1 : Psr w1 pb G c base 0 0 0 0 := h.set hK1 (fun x0 hx => by
    rw [hw1, Below.heap_alloc _ _ _ (by rw [hsz0]; exact hpl)]
    exact setS_at hx _ _ _ _)
  have hw1' := hw1
  unfold setS at hw1'
  clear hw1 hT hgm hρ h
  go_enter Tryz.func19, Tryz.ntmps19
  go_wp2_with fail
  rw [← hw1']
  refine (hlong _).mono ?_
  rintro e w2 ⟨rfl, rfl⟩
  clear hw1' hlong f5 f6 f7 f8 hf c0 c1 c2 c3 c4 c5 c6 c7 c8 hK0 hsz0
  have fq : ∀ k, w2.frozen? ⟨w.heap.size, k, none⟩ = false := fun k => by simp [World.frozen?, hq1]
  have fq0 := fq 0
  have fq1 := fq 1
  have fq2 := fq 2
  have fq3 := fq 3
  have fq4 := fq 4
  obtain ⟨y0, y1, y2, y3, y4⟩ := cells5 hq1
  go_wp2
  obtain ⟨w6, hw6⟩ : ∃ w6, w6 = set5 w2 w.heap.size (.bool false) (.int .i64 0) (.slice none 0 0) (.int .i64 0) (.slice none 0 0) := ⟨_, rfl⟩
  have hw6' := hw6
  unfold set5 at hw6'
  rw [← hw6']
  have h6 : w6.heap[w.heap.size]? = some (.cells #[.bool false, .int .i64 0, .slice none 0 0, .int .i64 0, .slice none 0 0] 31 (0, 0)) := by rw [hw6]; exact set5_at hq1 _ _ _ _ _
  have K6 : Kept (fun k => k = w.heap.size) w2 w6 := by rw [hw6]; exact set5_kept _ _ _ _ _ _ _
  obtain ⟨x0, x1, x2, x3, x4⟩ := cells5 h6
  clear hw6 hw6'
  refine bodyPost_ret (v := .tuple #[zAns, .int .i64 1]) (by simp [results, Tryz.results19, go_sem, x0, x1, x2, x3, x4, zAns]) rfl ⟨rfl, hP1.kept K6 (fun j cs t e hj => by
      have e' : j = w.heap.size := e
      subst e'
      rw [hq1] at hj; simp at hj
      rw [← hj.2]; decide) (fun e => by have e' : pb = w.heap.size := e; omega), ?_⟩
  exact hK1.then K6 (fun i hi e => by have e' : i = w.heap.size := e; omega)


/-- What Walk leaves Parse. -/
structure WpOut (c : Cf) (gd gb mb b0 : Nat) (s' : Wt) (r : Rs) (w : World) (e : Ending) (w' : World) : Prop where
  sp : c.runs < s'.cnt → e = .returned (.tuple #[zAns, .int .i64 0, .bool false])
  ok : s'.cnt ≤ c.runs → ∃ (B : Bool) (T : Int) (tp fp : Option Addr) (tn tc fn fc : Nat), e = .returned (.tuple #[.agg #[.bool B, .int .i64 T, .slice tp tn tc, .int .i64 s'.far.1, .slice fp fn fc], .int .i64 (s'.dn : Int), .bool true]) ∧ AnsX w' w.heap.size r.to (flR 0 r) s'.far.2 B T (.slice tp tn tc) (.slice fp fn fc)
  mem : ∃ C R eb ob EL, MmI w' b0 mb eb ob EL C R s'.mem ∧ C.bud = c.bud
  gnd : w'.heap[gd]? = some (.cells #[ptB' gb, .int .i64 (c.runs : Int), ptB' mb] 152 (0, 0))
  kept : Kept (fun k => b0 ≤ k) w w'
theorem mcOf_bud (a b c d : Nat) : (mcOf a b c d).bud = b := by unfold mcOf; split <;> rfl
theorem walk_p {G s : ByteArray} {c : Cf} (hG : refChk G = (0, 0)) (hc : CfOk c) (hs : s.size ≤ 60) {w : World} {gd gb mb eb ob b0 bg f : Nat} {rv : Value} {P : List Nat} {ρ : Nat → Int} {o : Ot}
    (hgm : Gm w bg gb rv P ρ (read G).2 (read G).1.ns) (hρ : ∀ i, i < (read G).1.ns.length → (nth (read G).1.ns i).kind = 3 → ρ i = (ruI (read G).2 (nth (read G).1.ns i) : Int))
    (hgd : w.heap[gd]? = some (.cells #[ptB' gb, .int .i64 (c.runs : Int), ptB' mb] 152 (0, 0))) (hM : MmI w b0 mb eb ob [] (mcOf c.pol c.bud c.mask (read G).2.length) (fun _ _ => False) (ms0 c.bud)) (hT : Tab w) (hb : 0 < b0)
    (hmt : mtc (byteAt s) s.size (read G).2 (read G).1.ns f (isI (read G).2 0) 0 1 = some o) :
    ∃ br n t s' r, Whole (kOf G s c br) n c.bud o (f + 1) t s' r ∧ Calls Tryz.prog 49 #[.pointer (some ⟨gd, 0, none⟩), .int .i64 0, .string s] w fun e w' => WpOut c gd gb mb b0 s' r w e w' := by
  obtain ⟨L, hL, hB⟩ := hgm.brk
  have hgrd := grd_of (s := s) (c := c) hG hc hs hgm hρ hL hB hgd hM
  have hkc := kc_of (s := s) (c := c) hG hgm hB
  obtain ⟨t, s', r, hwh⟩ := whole_ex hkc (L.length * (s.size + 1)) c.bud (rules_pos hG) (f := f) (o := o) hmt
  refine ⟨brOf P L, _, t, s', r, hwh, ?_⟩
  have htr := mtc_tr _ _ _ _ _ hmt
  have hr20 := hc.runs.2
  have hfl : s'.cnt ≤ c.runs → ¬ r.to = -1 → (flR 0 r).length ≤ 100000 := fun h1 h2 => by
    by_cases h3 : o.rn + 1 ≤ c.runs
    · have h4 := hwh.to h3
      rw [hwh.rto, h4] at h2
      have h5 : o.to.isSome = true := by
        cases ho : o.to with
        | none => rw [ho] at h2; exact absurd rfl h2
        | some x => rfl
      rw [hwh.tr h3 h5, List.length_map]
      obtain ⟨x, hx⟩ := Option.isSome_iff_exists.1 h5
      simp only [runO, hx, List.length_cons]
      omega
    · have := hwh.spent (show c.runs < o.rn + 1 by omega)
      have h6 : c.runs < s'.cnt := this
      omega
  refine (walk_any hgrd hT hwh.run hwh.one (rules_pos hG) hfl hb).mono ?_
  rintro e w' ⟨h1, h2, ⟨R, eb', ob', EL, h3⟩, h4, h5⟩
  exact ⟨h1, h2, ⟨_, R, eb', ob', EL, h3, mcOf_bud _ _ _ _⟩, h4, h5⟩
set_option maxRecDepth 100000 in
set_option maxHeartbeats 6400000 in
theorem parse_any {G s : ByteArray} {c : Cf} {pb base a b d e f : Nat} {w : World} {o : Ot} (h : Psr w pb G c base a b d e) (hT : Tab w) (hs : s.size ≤ 60)
    (hmt : mtc (byteAt s) s.size (read G).2 (read G).1.ns f (isI (read G).2 0) 0 1 = some o) :
    Calls Tryz.prog 19 #[.pointer (some ⟨pb, 0, none⟩), .string s] w fun e w' => PzOut G s c pb base f o w e w' := by
  obtain ⟨gb, bg, rv, P, ρ, hb, hgm, hρ⟩ := h.ex
  have hpl := objAt_lt (show objAt w pb = _ from hb)
  have hp0 := tab_ne hT hb
  have hlong : ∀ W, Calls Tryz.prog 47 #[.string s] W fun e w' => e = .returned (.bool false) ∧ w' = W := fun W => by
    have := isLong_any s W (by unfold maxLen; omega)
    rw [decide_eq_false (by omega)] at this; exact this
  obtain ⟨⟨c0, c1, c2, c3, c4, c5, c6, c7, c8⟩, hf⟩ := cells9 hb
  have f5 := hf 5
  have f6 := hf 6
  have f7 := hf 7
  have f8 := hf 8
  obtain ⟨w1, hw1⟩ : ∃ w1, w1 = (setS w pb (.int .i64 0) (.int .i64 0) (.int .i64 0) (.int .i64 0)).alloc (.cells #[.bool false, .int .i64 0, .slice none 0 0, .int .i64 0, .slice none 0 0] 31) := ⟨_, rfl⟩
  have hK0 := setS_kept w pb (.int .i64 0) (.int .i64 0) (.int .i64 0) (.int .i64 0)
  have hK1 : Kept (fun k => k = pb) w w1 := by rw [hw1]; exact hK0.alloc _
  have hsz0 : (setS w pb (.int .i64 0) (.int .i64 0) (.int .i64 0) (.int .i64 0)).heap.size = w.heap.size := by unfold setS; simp
  have hsz1 : w1.heap.size = w.heap.size + 1 := by rw [hw1]; simp [hsz0]
  have hq1 : w1.heap[w.heap.size]? = some (.cells #[.bool false, .int .i64 0, .slice none 0 0, .int .i64 0, .slice none 0 0] 31 (0, 0)) := by
    rw [hw1, ← hsz0]; exact heap_alloc_new _ _
  have hb1 : w1.heap[pb]? = some (.cells #[ptB' gb, .int .i64 (c.pol : Int), .int .i64 (c.bud : Int), .int .i64 (c.mask : Int), .int .i64 (c.runs : Int), .int .i64 0, .int .i64 0, .int .i64 0, .int .i64 0] 105 (0, 0)) := by
    rw [hw1, Below.heap_alloc _ _ _ (by rw [hsz0]; exact hpl)]
    exact setS_at hb _ _ _ _
  have hgm1 : Gm w1 bg gb rv P ρ (read G).2 (read G).1.ns := hgm.kept hK1 (fun j cs t e hj => by
    have e' : j = pb := e
    subst e'
    have hj2 : w.heap[j]? = _ := hj
    rw [hb] at hj2; simp at hj2
    rw [← hj2.2]; decide)
  have hT1 : Tab w1 := hT.kept hK1 hp0
  have hgr : Calls Tryz.prog 48 #[.pointer (some ⟨gb, 0, none⟩), .agg #[.int .i64 (c.pol : Int), .int .i64 (c.bud : Int), .int .i64 (c.mask : Int), .int .i64 (c.runs : Int)]] w1.drew fun e w' => GdOut c.pol c.bud c.mask (read G).2.length c.runs gb (fun _ _ => False) w1.drew e w' := by
    obtain ⟨z, hz⟩ := hgm1.gram
    obtain ⟨rp, rc, hrv⟩ := ownsRow_form hgm1.own
    exact ground_any c.pol c.bud c.mask (read G).2.length c.runs gb rp rc (fun _ _ => False) w1.drew h.cf.pol h.cf.bud h.cf.mask (read_w G).len (by
      show w1.cell? _ = _
      rw [← hrv]; simp [World.cell?, hz])
  have hw1' := hw1
  unfold setS at hw1'
  have hck : ∀ W, Kept (fun _ => False) w1.drew W → W.cell? ⟨pb, 0, none⟩ = some (.pointer (some ⟨gb, 0, none⟩)) ∧ W.cell? ⟨pb, 1, none⟩ = some (.int .i64 (c.pol : Int)) ∧ W.cell? ⟨pb, 2, none⟩ = some (.int .i64 (c.bud : Int)) ∧ W.cell? ⟨pb, 3, none⟩ = some (.int .i64 (c.mask : Int)) ∧ W.cell? ⟨pb, 4, none⟩ = some (.int .i64 (c.runs : Int)) := fun W hW => by
    have hW' := (Kept.refl (fun _ => False) w1).drew.trans hW
    have hb2 : W.heap[pb]? = _ := (hW'.block pb (objAt_lt (show objAt w1 pb = _ from hb1)) (fun x => x)).trans hb1
    obtain ⟨⟨z0, z1, z2, z3, z4, _⟩, _⟩ := cells9 hb2
    exact ⟨z0, z1, z2, z3, z4⟩
  have HGM := hide hgm1
  have Hρ := hide hρ
  have HT := hide hT1
  have HMT := hide hmt
  have HH := hide h
  obtain ⟨n1, n2, n3, n4, n0⟩ : w1.cell? ⟨pb, 1, none⟩ = some (.int .i64 (c.pol : Int)) ∧ w1.cell? ⟨pb, 2, none⟩ = some (.int .i64 (c.bud : Int)) ∧ w1.cell? ⟨pb, 3, none⟩ = some (.int .i64 (c.mask : Int)) ∧ w1.cell? ⟨pb, 4, none⟩ = some (.int .i64 (c.runs : Int)) ∧ w1.cell? ⟨pb, 0, none⟩ = some (.pointer (some ⟨gb, 0, none⟩)) := by
    obtain ⟨z0, z1, z2, z3, z4⟩ := hck w1.drew (Kept.refl _ _)
    exact ⟨z1, z2, z3, z4, z0⟩
  clear hw1 hT hgm hρ h hgm1 hT1 hmt
  unfold ptB' at c0
  go_enter Tryz.func19, Tryz.ntmps19
  go_wp2_with fail
  rw [← hw1']
  refine (hlong _).mono ?_
  rintro e w1a ⟨rfl, rfl⟩
  clear hw1' hlong f5 f6 f7 f8 hf c0 c1 c2 c3 c4 c5 c6 c7 c8 hK0 hsz0
  go_wp2_with fail
  go_region_held3 (fun w' => w'.cell? ⟨pb, 0, none⟩ = some (.pointer (some ⟨gb, 0, none⟩)) ∧ w'.cell? ⟨pb, 1, none⟩ = some (.int .i64 (c.pol : Int)) ∧ w'.cell? ⟨pb, 2, none⟩ = some (.int .i64 (c.bud : Int)) ∧ w'.cell? ⟨pb, 3, none⟩ = some (.int .i64 (c.mask : Int)) ∧ w'.cell? ⟨pb, 4, none⟩ = some (.int .i64 (c.runs : Int))) (go_keep) ((go_at_call 48; refine hgr.mono ?_; rintro e w2 ⟨⟨gd, mb, eb, ob, rfl, hgd, hM⟩, hK2⟩; obtain ⟨z0, z1, z2, z3, z4⟩ := hck w2 hK2))
  have hK12 : Kept (fun _ => False) w1a w2 := (Kept.refl (fun _ => False) w1a).drew.trans hK2
  have hb0 : w1a.drew.heap.size + 1 = w.heap.size + 2 := by show w1a.heap.size + 1 = _; omega
  rw [hb0] at hM
  obtain ⟨br, n, t, s', r, hwh, hwk⟩ := walk_p (s := s) HH.out.chk HH.out.cf hs (HGM.out.kept hK12 (fun _ _ _ x => x.elim)) Hρ.out hgd hM (HT.out.kept hK12 (fun x => x)) (Nat.succ_pos _) HMT.out
  have HW := hide hwh
  have hK2' : Kept (fun k => k = pb) w w2 := hK1.then hK12 (fun _ _ x => x.elim)
  have hq2 : w2.heap[w.heap.size]? = some (.cells #[.bool false, .int .i64 0, .slice none 0 0, .int .i64 0, .slice none 0 0] 31 (0, 0)) := by
    rw [hK12.block w.heap.size (by omega) (fun x => x)]; exact hq1
  have hb2 : w2.heap[pb]? = some (.cells #[ptB' gb, .int .i64 (c.pol : Int), .int .i64 (c.bud : Int), .int .i64 (c.mask : Int), .int .i64 (c.runs : Int), .int .i64 0, .int .i64 0, .int .i64 0, .int .i64 0] 105 (0, 0)) := by
    rw [hK12.block pb (by omega) (fun x => x)]; exact hb1
  have hsz2 : w.heap.size + 1 ≤ w2.heap.size := by have := hK12.size; omega
  clear hgd hM hwh hgr hck z0 z1 z2 z3 z4 n0 n1 n2 n3 n4 hb0 hK2 hK12 hq1 hb1 hsz1 hK1
  go_wp2_with fail
  refine hwk.mono ?_
  intro e w3 hO
  have hq3 : w3.heap[w.heap.size]? = some (.cells #[.bool false, .int .i64 0, .slice none 0 0, .int .i64 0, .slice none 0 0] 31 (0, 0)) := by
    rw [hO.kept.block w.heap.size (by omega) (fun x => by omega)]; exact hq2
  have hb3 : w3.heap[pb]? = some (.cells #[ptB' gb, .int .i64 (c.pol : Int), .int .i64 (c.bud : Int), .int .i64 (c.mask : Int), .int .i64 (c.runs : Int), .int .i64 0, .int .i64 0, .int .i64 0, .int .i64 0] 105 (0, 0)) := by
    rw [hO.kept.block pb (by omega) (fun x => by omega)]; exact hb2
  have hsz3 : w2.heap.size ≤ w3.heap.size := hO.kept.size
  have K3 : Kept (fun k => k = pb) w w3 := hK2'.then hO.kept (fun i hi x => by omega)
  have P3 : Psr w3 pb G c base 0 0 0 0 := HH.out.set K3 (fun x0 hx => by
    rw [hb] at hx
    simp only [Option.some.injEq, Obj.cells.injEq, Array.mk.injEq, List.cons.injEq] at hx
    rw [← hx.1.1]
    exact hb3)
  clear hwk hq2 hb2 hK2'
  by_cases hsp : c.runs < s'.cnt
  · have he := hO.sp hsp
    subst he
    have hspent : c.runs < o.rn + 1 := by
      by_cases h1 : o.rn + 1 ≤ c.runs
      · have := HW.out.cnt h1; omega
      · omega
    obtain ⟨w4, hw4⟩ : ∃ w4, w4 = w3.alloc (.cells #[.bool false, .int .i64 0, .slice none 0 0, .int .i64 0, .slice none 0 0] 31) := ⟨_, rfl⟩
    have hK4 : Kept (fun _ => False) w3 w4 := by rw [hw4]; exact (Kept.refl _ w3).alloc _
    have hq4 : w4.heap[w.heap.size]? = some (.cells #[.bool false, .int .i64 0, .slice none 0 0, .int .i64 0, .slice none 0 0] 31 (0, 0)) := by
      rw [hK4.block w.heap.size (by omega) (fun x => x)]; exact hq3
    have fq : ∀ k, w4.frozen? ⟨w.heap.size, k, none⟩ = false := fun k => by simp [World.frozen?, hq4]
    have fq0 := fq 0
    have fq1 := fq 1
    have fq2 := fq 2
    have fq3 := fq 3
    have fq4 := fq 4
    obtain ⟨y0, y1, y2, y3, y4⟩ := cells5 hq4
    clear hO fq
    unfold zAns
    rw [hw4] at fq0 fq1 fq2 fq3 fq4 y0 y1 y2 y3 y4
    go_wp2
    rw [← hw4]
    obtain ⟨w6, hw6⟩ : ∃ w6, w6 = set5 w4 w.heap.size (.bool false) (.int .i64 0) (.slice none 0 0) (.int .i64 0) (.slice none 0 0) := ⟨_, rfl⟩
    have hw6' := hw6
    unfold set5 at hw6'
    rw [← hw6']
    have h6 : w6.heap[w.heap.size]? = some (.cells #[.bool false, .int .i64 0, .slice none 0 0, .int .i64 0, .slice none 0 0] 31 (0, 0)) := by rw [hw6]; exact set5_at hq4 _ _ _ _ _
    have K6 : Kept (fun k => k = w.heap.size) w4 w6 := by rw [hw6]; exact set5_kept _ _ _ _ _ _ _
    obtain ⟨x0, x1, x2, x3, x4⟩ := cells5 h6
    clear hw6 hw6' hw4
    have hK7 : Kept (fun k => k = w.heap.size) w3 w6 := (hK4.mono (fun _ _ x => x.elim)).trans K6
    refine bodyPost_ret (v := .tuple #[zAns, .int .i64 6]) (by simp [results, Tryz.results19, go_sem, x0, x1, x2, x3, x4, zAns]) rfl ⟨fun _ => ⟨rfl, P3.kept hK7 (fun j cs t e hj => by
      have e' : j = w.heap.size := e
      subst e'
      rw [hq3] at hj; simp at hj
      rw [← hj.2]; decide) (fun e => by have e' : pb = w.heap.size := e; omega)⟩, fun x => by omega, ?_⟩
    exact K3.then hK7 (fun i hi e => by have e' : i = w.heap.size := e; omega)
  · obtain ⟨B, T, tp, fp, tn, tc, fn, fc, rfl, hA⟩ := hO.ok (by omega)
    obtain ⟨C, R, eb', ob', EL, hM, hC⟩ := hO.mem
    have hgd := hO.gnd
    have hbd := hM.bound
    rw [hC] at hbd
    have hms := memStats_any (w.heap.size + 2) gd mb eb' ob' EL C R s'.mem (w3.alloc (.cells #[.bool B, .int .i64 T, .slice tp tn tc, .int .i64 s'.far.1, .slice fp fn fc] 31)) _ _ (by
      rw [Below.heap_alloc _ _ _ (objAt_lt (show objAt w3 gd = _ from hgd))]; exact hgd) (hM.kept ((Kept.refl (fun _ => False) w3).alloc _) (fun j x => x.elim))
    have hok : o.rn + 1 ≤ c.runs := by
      by_cases h1 : o.rn + 1 ≤ c.runs
      · exact h1
      · have h2 := HW.out.spent (show c.runs < o.rn + 1 by omega)
        have h3 : c.runs < s'.cnt := h2
        omega
    clear hO hM hC hgd
    go_wp2_with fail
    refine hms.mono ?_
    rintro e w5 ⟨rfl, hK5⟩
    have hK35 : Kept (fun _ => False) w3 w5 := ((Kept.refl (fun _ => False) w3).alloc _).trans hK5
    have hb5 : w5.heap[pb]? = some (.cells #[ptB' gb, .int .i64 (c.pol : Int), .int .i64 (c.bud : Int), .int .i64 (c.mask : Int), .int .i64 (c.runs : Int), .int .i64 0, .int .i64 0, .int .i64 0, .int .i64 0] 105 (0, 0)) := by
      rw [hK35.block pb (by omega) (fun x => x)]; exact hb3
    have hq5 : w5.heap[w.heap.size]? = some (.cells #[.bool false, .int .i64 0, .slice none 0 0, .int .i64 0, .slice none 0 0] 31 (0, 0)) := by
      rw [hK35.block w.heap.size (by omega) (fun x => x)]; exact hq3
    have ha5 : w5.heap[w3.heap.size]? = some (.cells #[.bool B, .int .i64 T, .slice tp tn tc, .int .i64 s'.far.1, .slice fp fn fc] 31 (0, 0)) := by
      rw [hK5.block w3.heap.size (by simp) (fun x => x)]; exact heap_alloc_new _ _
    obtain ⟨⟨c0, c1, c2, c3, c4, c5, c6, c7, c8⟩, hf⟩ := cells9 hb5
    have f5 := hf 5
    have f6 := hf 6
    have f7 := hf 7
    have f8 := hf 8
    have fq : ∀ k, w5.frozen? ⟨w.heap.size, k, none⟩ = false := fun k => by simp [World.frozen?, hq5]
    have fq0 := fq 0
    have fq1 := fq 1
    have fq2 := fq 2
    have fq3 := fq 3
    have fq4 := fq 4
    obtain ⟨y0, y1, y2, y3, y4⟩ := cells5 hq5
    obtain ⟨v0, v1, v2, v3, v4⟩ := cells5 ha5
    have hn1 : ¬ w.heap.size = pb := by omega
    have hn2 : ¬ pb = w.heap.size := by omega
    have hn3 : ¬ w3.heap.size = pb := by omega
    have hn4 : ¬ pb = w3.heap.size := by omega
    have hn5 : ¬ w.heap.size = w3.heap.size := by omega
    have hn6 : ¬ w3.heap.size = w.heap.size := by omega
    clear hms hf
    go_wp2
    clear c0 c1 c2 c3 c4 c5 c6 c7 c8 f5 f6 f7 f8 fq fq0 fq1 fq2 fq3 fq4 y0 y1 y2 y3 y4 v0 v1 v2 v3 v4
    obtain ⟨w6, hw6⟩ : ∃ w6, w6 = (setS w5 pb (.int .i64 (s'.mem.ent.length : Int)) (.int .i64 (s'.mem.ent.length : Int)) (.int .i64 (s'.mem.hits : Int)) (.int .i64 0)).setCell ⟨pb, 8, none⟩ (.int .i64 (s'.dn : Int)) := ⟨_, rfl⟩
    have hw6' := hw6
    unfold setS at hw6'
    rw [← hw6']
    have h6 : w6.heap[pb]? = some (.cells #[ptB' gb, .int .i64 (c.pol : Int), .int .i64 (c.bud : Int), .int .i64 (c.mask : Int), .int .i64 (c.runs : Int), .int .i64 (s'.mem.ent.length : Int), .int .i64 (s'.mem.ent.length : Int), .int .i64 (s'.mem.hits : Int), .int .i64 (s'.dn : Int)] 105 (0, 0)) := by
      rw [hw6]
      have e1 := heap_set_at (setS_at hb5 (.int .i64 (s'.mem.ent.length : Int)) (.int .i64 (s'.mem.ent.length : Int)) (.int .i64 (s'.mem.hits : Int)) (.int .i64 0)) 8 (.int .i64 (s'.dn : Int))
      simpa using e1
    have K6 : Kept (fun k => k = pb) w5 w6 := by rw [hw6]; exact (setS_kept _ _ _ _ _ _).setCell (p := ⟨pb, 8, none⟩) (fun _ => rfl) _
    clear hw6 hw6'
    have hq6 : w6.heap[w.heap.size]? = some (.cells #[.bool false, .int .i64 0, .slice none 0 0, .int .i64 0, .slice none 0 0] 31 (0, 0)) := by
      rw [K6.block w.heap.size (objAt_lt (show objAt w5 w.heap.size = _ from hq5)) (fun e => hn1 e)]; exact hq5
    obtain ⟨w7, hw7⟩ : ∃ w7, w7 = set5 w6 w.heap.size (.bool B) (.int .i64 T) (.slice tp tn tc) (.int .i64 s'.far.1) (.slice fp fn fc) := ⟨_, rfl⟩
    have hw7' := hw7
    unfold set5 at hw7'
    rw [← hw7']
    have h7 : w7.heap[w.heap.size]? = some (.cells #[.bool B, .int .i64 T, .slice tp tn tc, .int .i64 s'.far.1, .slice fp fn fc] 31 (0, 0)) := by rw [hw7]; exact set5_at hq6 _ _ _ _ _
    have K7 : Kept (fun k => k = w.heap.size) w6 w7 := by rw [hw7]; exact set5_kept _ _ _ _ _ _ _
    obtain ⟨x0, x1, x2, x3, x4⟩ := cells5 h7
    clear hw7 hw7'
    have K37 : Kept (fun k => k = pb ∨ k = w.heap.size) w3 w7 := ((hK35.mono (fun _ _ x => x.elim)).trans (K6.mono (fun _ _ x => Or.inl x))).trans (K7.mono (fun _ _ x => Or.inr x))
    have K07 : Kept (fun k => k = pb) w w7 := K3.then K37 (fun i hi e => by rcases e with e | e <;> omega)
    have P7 : Psr w7 pb G c base s'.mem.ent.length s'.mem.ent.length s'.mem.hits s'.dn := HH.out.set K07 (fun y hx => by
      rw [hb] at hx
      simp only [Option.some.injEq, Obj.cells.injEq, Array.mk.injEq, List.cons.injEq] at hx
      rw [← hx.1.1, K7.block pb (objAt_lt (show objAt w6 pb = _ from h6)) (fun e => hn2 e)]
      exact h6)
    have hto := HW.out.to hok
    have hrto := HW.out.rto
    have hfar := HW.out.far hok
    have hsz2' : w.heap.size ≤ w2.heap.size := by omega
    have hA7 : AnsX w7 w.heap.size (toI o.to) ((runO 0 0 0 o).tr.map nI) (fAll o.ev).2 B T (.slice tp tn tc) (.slice fp fn fc) := by
      have e1 : r.to = toI o.to := hrto.trans hto
      have e2 : ∀ X : List NoI, (if toI o.to = -1 then [] else flR 0 r) = (if toI o.to = -1 then ([] : List NoI) else (runO 0 0 0 o).tr.map nI) := fun _ => by
        by_cases h1 : toI o.to = -1
        · rw [if_pos h1, if_pos h1]
        · rw [if_neg h1, if_neg h1]
          exact HW.out.tr hok (by
            cases ho : o.to with
            | none => rw [ho] at h1; exact absurd rfl h1
            | some x => rfl)
      have hfl : ∀ v : Value, ∀ i, (∀ j, v.ownBlock = some j → w2.heap.size ≤ j) → v.ownBlock = some i → ¬ (i = pb ∨ i = w.heap.size) := fun v i h1 h2 e => by
        have := h1 i h2
        rcases e with e | e <;> omega
      refine ⟨by rw [← e1]; exact hA.b, by rw [← e1]; exact hA.t, ?_, ?_⟩
      · have h1 := hA.tr
        rw [e1, e2 []] at h1
        exact own_kept (own_base h1 hsz2') K37 (fun i hi => hfl _ i (fun j hj => (h1.lt j hj).1) hi)
      · have h1 := hA.fl
        rw [hfar] at h1
        exact own_kept (own_base h1 hsz2') K37 (fun i hi => hfl _ i (fun j hj => (h1.lt j hj).1) hi)
    refine bodyPost_ret (v := .tuple #[.agg #[.bool B, .int .i64 T, .slice tp tn tc, .int .i64 s'.far.1, .slice fp fn fc], .int .i64 0]) (by simp [results, Tryz.results19, go_sem, x0, x1, x2, x3, x4]) rfl ⟨fun x => by omega, fun _ => ⟨B, T, tp, fp, tn, tc, fn, fc, by rw [hfar], hA7, br, n, t, s', r, HW.out, hbd, P7⟩, K07⟩
end Go.Proofs.YtagklnaaoclmhaaGreatDoor

namespace Go.Proofs.YtagklnaaoclmhaaGreatDoor
open Go.RowKit

theorem refChk_ok {G : ByteArray} (h : (refChk G).1 = 0) : refChk G = (0, 0) := by
  have hC : refChk G = if 400 < G.size then (1, 0) else if 0 ≤ (read G).1.sc.bad then (2, (read G).1.sc.bad) else if 0 ≤ mis (read G).2 (read G).1.ns then (3, mis (read G).2 (read G).1.ns)
    else if 0 ≤ endless (read G).2 (read G).1.ns then (4, endless (read G).2 (read G).1.ns) else (0, 0) := rfl
  rw [hC] at h ⊢
  by_cases h1 : 400 < G.size
  · rw [if_pos h1] at h; exact absurd (show (1 : Int) = 0 from h) (by decide)
  · rw [if_neg h1] at h ⊢
    by_cases h2 : 0 ≤ (read G).1.sc.bad
    · rw [if_pos h2] at h; exact absurd (show (2 : Int) = 0 from h) (by decide)
    · rw [if_neg h2] at h ⊢
      by_cases h3 : 0 ≤ mis (read G).2 (read G).1.ns
      · rw [if_pos h3] at h; exact absurd (show (3 : Int) = 0 from h) (by decide)
      · rw [if_neg h3] at h ⊢
        by_cases h4 : 0 ≤ endless (read G).2 (read G).1.ns
        · rw [if_pos h4] at h; exact absurd (show (4 : Int) = 0 from h) (by decide)
        · rw [if_neg h4]
/-- What Open leaves. -/
structure OzOut (C : Int) (G : ByteArray) (p b m r : Int) (w : World) (e : Ending) (w' : World) : Prop where
  kept : Kept (fun _ => False) w w'
  bad : C ≠ 0 → e = .returned (.tuple #[.pointer none, .int .i64 C])
  cfg : C = 0 → ¬ CfM p b m r → e = .returned (.tuple #[.pointer none, .int .i64 5])
  ok : C = 0 → CfM p b m r → ∃ pb, e = .returned (.tuple #[.pointer (some ⟨pb, 0, none⟩), .int .i64 0]) ∧ Psr w' pb G ⟨p.toNat, b.toNat, m.toNat, r.toNat⟩ w.heap.size 0 0 0 0
set_option maxRecDepth 100000 in
set_option maxHeartbeats 3200000 in
theorem open_any (G : ByteArray) (hm : G.size ≤ maxLen) (p b m r : Int) (w : World) :
    Calls Tryz.prog 18 #[.string G, .agg #[.int .i64 p, .int .i64 b, .int .i64 m, .int .i64 r]] w fun e w' => OzOut (refChk G).1 G p b m r w e w' := by
  obtain ⟨w1, hw1⟩ : ∃ w1, w1 = w.alloc (.cells #[.int .i64 p, .int .i64 b, .int .i64 m, .int .i64 r] 23) := ⟨_, rfl⟩
  have hK1 : Kept (fun _ => False) w w1 := by rw [hw1]; exact (Kept.refl _ w).alloc _
  have hq1 : w1.heap[w.heap.size]? = some (.cells #[.int .i64 p, .int .i64 b, .int .i64 m, .int .i64 r] 23 (0, 0)) := by rw [hw1]; exact heap_alloc_new _ _
  have hsz1 : w1.heap.size = w.heap.size + 1 := by rw [hw1]; simp
  have hrd := read_code G w1 hm
  have hmb := mayBe_any p b m r
  have Hok : Hid ((refChk G).1 = 0 → refChk G = (0, 0)) := refChk_ok
  obtain ⟨C, hC⟩ : ∃ C, C = refChk G := ⟨_, rfl⟩
  have HC := hide hC
  rw [← hC] at hrd
  rw [← hC]
  clear hC
  obtain ⟨ca, cb⟩ := C
  go_enter Tryz.func18, Tryz.ntmps18
  go_wp2_with fail
  rw [← hw1]
  clear hw1
  refine hrd.mono ?_
  intro e w2 hO
  have hK2 := hO.kept
  have hK12 : Kept (fun _ => False) w w2 := hK1.trans hK2
  have hq2 : w2.heap[w.heap.size]? = some (.cells #[.int .i64 p, .int .i64 b, .int .i64 m, .int .i64 r] 23 (0, 0)) := by
    rw [hK2.block w.heap.size (by omega) (fun x => x)]; exact hq1
  clear hrd
  by_cases ha : ca = 0
  · subst ha
    obtain ⟨gb, rfl, bg, rv, P, ρ, hlow, hgm, hρ⟩ := hO.ok rfl
    have HG := hide hgm
    have Hρ := hide hρ
    have a0 : w2.cell? ⟨w.heap.size, 0, none⟩ = some (.int .i64 p) := by simp [World.cell?, hq2]
    have a1 : w2.cell? ⟨w.heap.size, 1, none⟩ = some (.int .i64 b) := by simp [World.cell?, hq2]
    have a2 : w2.cell? ⟨w.heap.size, 2, none⟩ = some (.int .i64 m) := by simp [World.cell?, hq2]
    have a3 : w2.cell? ⟨w.heap.size, 3, none⟩ = some (.int .i64 r) := by simp [World.cell?, hq2]
    clear hO hgm hρ
    dsimp only
    go_wp2_with fail
    refine (hmb w2).mono ?_
    rintro e w3 ⟨rfl, hK3⟩
    have hq3 : w3.heap[w.heap.size]? = some (.cells #[.int .i64 p, .int .i64 b, .int .i64 m, .int .i64 r] 23 (0, 0)) := by
      rw [hK3.block w.heap.size (objAt_lt (show objAt w2 w.heap.size = _ from hq2)) (fun x => x)]; exact hq2
    have d0 : w3.cell? ⟨w.heap.size, 0, none⟩ = some (.int .i64 p) := by simp [World.cell?, hq3]
    have d1 : w3.cell? ⟨w.heap.size, 1, none⟩ = some (.int .i64 b) := by simp [World.cell?, hq3]
    have d2 : w3.cell? ⟨w.heap.size, 2, none⟩ = some (.int .i64 m) := by simp [World.cell?, hq3]
    have d3 : w3.cell? ⟨w.heap.size, 3, none⟩ = some (.int .i64 r) := by simp [World.cell?, hq3]
    have hK13 : Kept (fun _ => False) w w3 := hK12.trans hK3
    clear hmb a0 a1 a2 a3
    by_cases hc : CfM p b m r
    · rw [decide_eq_true hc]
      have Hc := hide hc
      clear hc
      go_wp2
      go_ret2
      refine ⟨hK13.alloc _, fun x => absurd rfl x, fun _ x => absurd Hc.out x, fun _ _ => ⟨_, rfl, Hok.out (by rw [← HC.out]), ?_, ?_, gb, bg, rv, P, ρ, ?_, ?_, Hρ.out⟩⟩
      · obtain ⟨⟨k1, k2⟩, ⟨k3, k4⟩, ⟨k5, k6⟩, ⟨k7, k8⟩⟩ := Hc.out
        exact ⟨show p.toNat ≤ 2 by omega, show b.toNat ≤ 1000 by omega, show m.toNat ≤ 255 by omega, show 1 ≤ r.toNat by omega, show r.toNat ≤ 20000 by omega⟩
      · exact hK13.size
      · obtain ⟨⟨k1, k2⟩, ⟨k3, k4⟩, ⟨k5, k6⟩, ⟨k7, k8⟩⟩ := Hc.out
        have e1 : ((p.toNat : Nat) : Int) = p := by omega
        have e2 : ((b.toNat : Nat) : Int) = b := by omega
        have e3 : ((m.toNat : Nat) : Int) = m := by omega
        have e4 : ((r.toNat : Nat) : Int) = r := by omega
        show _ = some (Obj.cells #[ptB' gb, .int .i64 (p.toNat : Int), .int .i64 (b.toNat : Int), .int .i64 (m.toNat : Int), .int .i64 (r.toNat : Int), .int .i64 0, .int .i64 0, .int .i64 0, .int .i64 0] 105 (0, 0))
        rw [e1, e2, e3, e4]
        exact heap_alloc_new _ _
      · exact (HG.out.kept hK3 (fun _ _ _ x => x.elim)).kept ((Kept.refl (fun _ => False) w3).alloc _) (fun _ _ _ x => x.elim)
    · rw [decide_eq_false hc]
      have Hc := hide hc
      clear hc
      go_wp2
      go_ret2
      exact ⟨hK13, fun x => absurd rfl x, fun _ _ => rfl, fun _ x => absurd x Hc.out⟩
  · have he := hO.bad ha
    subst he
    have Hca := hide ha
    have hbq : (ca == 0) = false := by simpa using ha
    clear hO
    dsimp only
    go_wp2
    go_ret2
    exact ⟨hK12, fun _ => rfl, fun x => absurd x Hca.out, fun x => absurd x Hca.out⟩

set_option maxRecDepth 100000 in
set_option maxHeartbeats 1600000 in
theorem stats_of {w : World} {pb base a b d e : Nat} {G : ByteArray} {c : Cf} (h : Psr w pb G c base a b d e) :
    Calls Tryz.prog 27 #[.pointer (some ⟨pb, 0, none⟩)] w fun e' w' => e' = .returned (.agg #[.int .i64 (a : Int), .int .i64 (b : Int), .int .i64 (d : Int), .int .i64 (e : Int)]) ∧ Kept (fun _ => False) w w' := by
  obtain ⟨gb, bg, rv, P, ρ, hb, _, _⟩ := h.ex
  have hpl := objAt_lt (show objAt w pb = _ from hb)
  obtain ⟨w1, hw1⟩ : ∃ w1, w1 = w.alloc (.cells #[.int .i64 0, .int .i64 0, .int .i64 0, .int .i64 0] 73) := ⟨_, rfl⟩
  have hK1 : Kept (fun _ => False) w w1 := by rw [hw1]; exact (Kept.refl _ w).alloc _
  have hq1 : w1.heap[w.heap.size]? = some (.cells #[.int .i64 0, .int .i64 0, .int .i64 0, .int .i64 0] 73 (0, 0)) := by rw [hw1]; exact heap_alloc_new _ _
  have hb1 := (hK1.block pb hpl (fun x => x)).trans hb
  obtain ⟨⟨c0, c1, c2, c3, c4, c5, c6, c7, c8⟩, hf⟩ := cells9 hb1
  have fq : ∀ k, w1.frozen? ⟨w.heap.size, k, none⟩ = false := fun k => by simp [World.frozen?, hq1]
  have fq0 := fq 0
  have fq1 := fq 1
  have fq2 := fq 2
  have fq3 := fq 3
  have y0 : w1.cell? ⟨w.heap.size, 0, none⟩ = some (.int .i64 0) := by simp [World.cell?, hq1]
  have y1 : w1.cell? ⟨w.heap.size, 1, none⟩ = some (.int .i64 0) := by simp [World.cell?, hq1]
  have y2 : w1.cell? ⟨w.heap.size, 2, none⟩ = some (.int .i64 0) := by simp [World.cell?, hq1]
  have y3 : w1.cell? ⟨w.heap.size, 3, none⟩ = some (.int .i64 0) := by simp [World.cell?, hq1]
  rw [hw1] at c0 c5 c6 c7 c8 fq0 fq1 fq2 fq3 y0 y1 y2 y3
  unfold ptB' at c0
  clear fq hf c1 c2 c3 c4
  go_enter Tryz.func27, Tryz.ntmps27
  go_wp2
  obtain ⟨w3, hw3⟩ : ∃ w3, w3 = w.alloc (.cells #[.int .i64 (a : Int), .int .i64 (b : Int), .int .i64 (d : Int), .int .i64 (e : Int)] 73) := ⟨_, rfl⟩
  rw [← hw3]
  have K3 : Kept (fun _ => False) w w3 := by rw [hw3]; exact (Kept.refl _ w).alloc _
  have hq3 : w3.heap[w.heap.size]? = some (.cells #[.int .i64 (a : Int), .int .i64 (b : Int), .int .i64 (d : Int), .int .i64 (e : Int)] 73 (0, 0)) := by rw [hw3]; exact heap_alloc_new _ _
  have x0 : w3.cell? ⟨w.heap.size, 0, none⟩ = some (.int .i64 (a : Int)) := by simp [World.cell?, hq3]
  have x1 : w3.cell? ⟨w.heap.size, 1, none⟩ = some (.int .i64 (b : Int)) := by simp [World.cell?, hq3]
  have x2 : w3.cell? ⟨w.heap.size, 2, none⟩ = some (.int .i64 (d : Int)) := by simp [World.cell?, hq3]
  have x3 : w3.cell? ⟨w.heap.size, 3, none⟩ = some (.int .i64 (e : Int)) := by simp [World.cell?, hq3]
  clear hw3
  exact bodyPost_ret (v := .agg #[.int .i64 (a : Int), .int .i64 (b : Int), .int .i64 (d : Int), .int .i64 (e : Int)]) (by simp [results, Tryz.results27, go_sem, x0, x1, x2, x3]) rfl ⟨rfl, K3⟩

/-! What Counted and Summed ask. -/
structure PsT (w : World) (p : Addr) (G : ByteArray) (runs : Int) (base : Nat) : Prop where
  ex : ∃ pb c a b d e, p = ⟨pb, 0, none⟩ ∧ ((c : Cf).runs : Int) = runs ∧ Psr w pb G c base a b d e ∧ Tab w
theorem PsT.kept {w w' : World} {p : Addr} {G : ByteArray} {runs : Int} {base : Nat} (h : PsT w p G runs base) (hk : Kept (fun _ => False) w w') : PsT w' p G runs base := by
  obtain ⟨pb, c, a, b, d, e, h1, h2, h3, h4⟩ := h.ex
  exact ⟨pb, c, a, b, d, e, h1, h2, h3.same hk, h4.kept hk (fun x => x)⟩
theorem openC : OpenC PsT := by
  intro G cs runs w hT hG hc
  obtain ⟨p, b, m, rfl, h1, h2, h3, h4, h5, h6⟩ := hc.eq
  have hr := hc.runs
  obtain ⟨h400, _⟩ := ended_of hG
  refine (open_any G (by unfold maxLen; omega) p b m runs w).mono ?_
  intro e w' hO
  obtain ⟨pb, h7, h8⟩ := hO.ok (by rw [hG]) ⟨⟨h1, h2⟩, ⟨h3, h4⟩, ⟨h5, h6⟩, hr⟩
  exact ⟨⟨_, h7, pb, _, 0, 0, 0, 0, rfl, by show ((runs.toNat : Nat) : Int) = runs; omega, h8, hT.kept hO.kept (fun x => x)⟩, hO.kept⟩
theorem nod_get : ∀ (L : List Nod) (k : Nat), k < L.length → ∀ j, j < 4 → ((L.map nI).flatMap nodC)[k * 4 + j]? = (nodC (nI (gN L k)))[j]?
  | [], k, h, _, _ => absurd h (by simp)
  | x :: L, 0, _, j, hj => by
    rw [gN_zero, List.map_cons, List.flatMap_cons, List.getElem?_append_left (by simp [nodC]; omega)]
    simp
  | x :: L, k + 1, h, j, hj => by
    rw [gN_cons_succ, List.map_cons, List.flatMap_cons, List.getElem?_append_right (by simp [nodC]; omega)]
    have hl : (nodC (nI x)).length = 4 := rfl
    rw [hl, show (k + 1) * 4 + j - 4 = k * 4 + j by omega]
    exact nod_get L k (by simpa using h) j hj
theorem tr_at {w : World} {base g cap : Nat} {L : List Nod} (h : w.ownsRow base 61 4 (.slice (some ⟨g, 0, none⟩) L.length cap) L.length ((L.map nI).flatMap nodC)) : TrAt w g L := by
  refine ⟨fun k hk => ?_⟩
  have h0 := (h.cellAt (k * 4 + 0) (by omega)).trans (nod_get L k hk 0 (by omega))
  have h1 := (h.cellAt (k * 4 + 1) (by omega)).trans (nod_get L k hk 1 (by omega))
  have h2 := (h.cellAt (k * 4 + 2) (by omega)).trans (nod_get L k hk 2 (by omega))
  have h3 := (h.cellAt (k * 4 + 3) (by omega)).trans (nod_get L k hk 3 (by omega))
  exact ⟨h0, h1, h2, h3⟩
theorem parseC : ParseC PsT := by
  intro G runs p base s w f o hps hs hmt hrn
  obtain ⟨pb, c, a, b, d, e, rfl, h2, h3, hT⟩ := hps.ex
  refine (parse_any h3 hT hs hmt).mono ?_
  intro e' w' hO
  obtain ⟨B, T, tp, fp, tn, tc, fn, fc, rfl, hA, br, n, t, s', r, _, _, hP⟩ := hO.ok (by omega)
  refine ⟨⟨_, rfl, ?_⟩, ⟨pb, c, _, _, _, _, rfl, h2, hP, hT.kept hO.kept ?_⟩, hO.kept.mono (fun k hk e => by have e2 : k = pb := e; rw [e2]; exact h3.low)⟩
  · have hb := hA.b
    have ht := hA.t
    have htr := hA.tr
    rw [fAll_far]
    refine ⟨fun t ho => ?_, fun ho => ?_⟩
    · have h5 : toI o.to = (t : Int) := by rw [ho]; rfl
      have h6 : ¬ toI o.to = -1 := by omega
      rw [if_neg h6] at ht htr
      rw [decide_eq_true h6] at hb
      have hrun : (runO 0 0 0 o).tr = ⟨0, 0, t, 0⟩ :: o.tr := by simp [runO, ho]
      rw [hrun] at htr
      obtain ⟨gm, cm, hv, _, _⟩ := htr.form (by simp)
      rw [hv] at htr ⊢
      rw [hb, ht, h5]
      exact ⟨gm, cm, fp, fn, fc, by simp, tr_at (base := w.heap.size) (cap := cm) (by simpa using htr)⟩
    · have h5 : toI o.to = -1 := by rw [ho]; rfl
      rw [if_pos h5] at ht htr
      have hb2 : B = false := by rw [hb]; simp [h5]
      obtain ⟨p2, c2, hv⟩ := ownsRow_form htr
      rw [hv, hb2, ht]
      exact ⟨p2, fp, c2, fn, fc, by simp⟩
  · obtain ⟨gb, bg, rv, P, ρ, hb, _, _⟩ := h3.ex
    exact fun e => tab_ne hT hb e
end Go.Proofs.YtagklnaaoclmhaaGreatDoor
