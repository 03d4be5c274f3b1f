import Derived.Test.YtagklnaaoclmhaaGreatDoorMgAC
import Derived.Test.YtagklnaaoclmhaaGreatDoorMgAM
set_option linter.unusedSimpArgs false
set_option linter.unusedVariables false
namespace Go.Proofs.YtagklnaaoclmhaaGreatDoor
open Go.RowKit

/-- pick. -/
def pkI (c n : Int) : Int := (if c < 0 then -(c + 1) else c) % n
theorem pkI_bd {c n : Int} (hn : 0 < n) : 0 ≤ pkI c n ∧ pkI c n < n := ⟨Int.emod_nonneg _ (by omega), Int.emod_lt_of_pos _ hn⟩

set_option maxRecDepth 100000 in
set_option maxHeartbeats 800000 in
theorem pick_any (c n : Int) (h1 : -9223372036854775808 ≤ c) (h2 : c ≤ 9223372036854775807) (hn : 0 < n) (hn2 : n ≤ 9223372036854775807) (w : World) :
    Calls Tryz.prog 16 #[.int .i64 c, .int .i64 n] w fun e w' => e = .returned (.int .i64 (pkI c n)) ∧ w' = w := by
  have hb := pkI_bd (c := c) hn
  have hn0 : n ≠ 0 := by omega
  by_cases hc : c < 0
  · have HP : Hid (pkI c n = -((c + 1).tmod n)) := by
      unfold Hid pkI; rw [if_pos hc, ← Int.neg_tmod, Int.tmod_eq_emod_of_nonneg (by omega)]
    go_enter Tryz.func16, Tryz.ntmps16
    go_wp2
    go_ret
    exact ⟨by rw [HP.out]; rfl, rfl⟩
  · have HP : Hid (pkI c n = c % n) := by
      unfold Hid pkI; rw [if_neg hc]
    go_enter Tryz.func16, Tryz.ntmps16
    go_wp2
    go_ret
    exact ⟨by rw [HP.out]; rfl, rfl⟩

/-- A configuration of the law's. -/
structure CfgOk (c : Array Value) (runs : Int) : Prop where
  eq : ∃ p b m, c = #[.int .i64 p, .int .i64 b, .int .i64 m, .int .i64 runs] ∧ 0 ≤ p ∧ p ≤ 2 ∧ 0 ≤ b ∧ b ≤ 39 ∧ 0 ≤ m ∧ m ≤ 255
set_option maxRecDepth 100000 in
set_option maxHeartbeats 1600000 in
theorem config_any (c r : Int) (h1 : -9223372036854775808 ≤ c) (h2 : c ≤ 9223372036854775807) (h3 : -9223372036854775808 ≤ r) (h4 : r ≤ 9223372036854775807) (w : World) :
    Calls Tryz.prog 23 #[.int .i64 c, .int .i64 r] w fun e w' => (∃ cs, e = .returned (.agg cs) ∧ CfgOk cs (1 + pkI r 20000)) ∧ Kept (fun _ => False) w w' := by
  have hb := pkI_bd (c := c) (n := 1099511627776) (by decide)
  have hb2 := pkI_bd (c := r) (n := 20000) (by decide)
  go_enter Tryz.func23, Tryz.ntmps23
  go_wp2_with fail
  refine (pick_any c 1099511627776 h1 h2 (by decide) (by decide) _).mono ?_
  rintro e w1 ⟨rfl, rfl⟩
  have hpk := pick_any r 20000 h3 h4 (by decide) (by decide)
  generalize pkI c 1099511627776 = v at *
  obtain ⟨u, hu⟩ : ∃ u, u = pkI r 20000 := ⟨_, rfl⟩
  rw [← hu] at hb2 hpk
  have HU := hide hu
  clear hu
  go_wp2_with fail
  refine (hpk _).mono ?_
  rintro e w2 ⟨rfl, rfl⟩
  go_wp2
  refine bodyPost_ret (v := .agg #[.int .i64 (v % 3), .int .i64 (v / 3 % 40), .int .i64 (v / 120 % 256), .int .i64 (1 + u)]) (by simp [results, Tryz.results23, go_sem]) rfl ⟨⟨_, rfl, ⟨_, _, _, by rw [HU.out], by omega, by omega, by omega, by omega, by omega, by omega⟩⟩, (Kept.refl _ _).alloc _⟩

theorem cat_size (a b : ByteArray) : (a ++ b).size = a.size + b.size := ByteArray.size_append

/-- What nested leaves. -/
structure NsOut (e : Ending) : Prop where
  res : ∃ (t : ByteArray) (a b : Nat), e = .returned (.tuple #[.string t, .int .i64 (a : Int), .int .i64 (b : Int)]) ∧ t.size ≤ 60 ∧ AsBs (byteAt t) t.size a b

set_option maxRecDepth 100000 in
set_option maxHeartbeats 1600000 in
theorem nested_any (raw : ByteArray) (hm : raw.size ≤ maxLen) (w : World) :
    Calls Tryz.prog 22 #[.string raw] w fun e w' => NsOut e ∧ w' = w := by
  unfold maxLen at hm
  go_enter Tryz.func22, Tryz.ntmps22
  go_wp2
  go_loop [5, 6] (fun v i => ∃ (t : ByteArray), v = .string t ∧ i = .int .i64 (t.size : Int) ∧ t.size ≤ 60 ∧ t.size ≤ raw.size) (fun v i => 61 - (intOf i).toNat)
  case atStart => exact ⟨⟨#[]⟩, rfl, rfl, by decide, Nat.zero_le _⟩
  case round =>
    obtain ⟨t, rfl, rfl, ht, htr⟩ := hrel
    have hsa := cat_size t ⟨#[97]⟩
    have hsb := cat_size t ⟨#[98]⟩
    have e1 : (⟨#[97]⟩ : ByteArray).size = 1 := rfl
    have e2 : (⟨#[98]⟩ : ByteArray).size = 1 := rfl
    rw [e1] at hsa
    rw [e2] at hsb
    by_cases h1 : t.size < raw.size
    · by_cases h2 : t.size < 60
      · have hb := UInt8.toNat_lt raw[t.size]
        have h2' : (t.size : Int) < 60 := by omega
        by_cases h3 : raw[t.size].toNat % 3 = 0
        · have q : ((((raw[t.size].toNat : Nat) : Int) % 3) == 0) = true := beq_iff_eq.2 (by omega)
          clear h3
          have HS := hide hsb
          clear hsa hsb
          go_wp2
          go_round
          case rel => exact ⟨t ++ ⟨#[98]⟩, rfl, by rw [HS.out]; rfl, by rw [HS.out]; omega, by rw [HS.out]; omega⟩
          case measure => simp [intOf]; omega
        · have q : ((((raw[t.size].toNat : Nat) : Int) % 3) == 0) = false := beq_eq_false_iff_ne.2 (by omega)
          clear h3
          have HS := hide hsa
          clear hsa hsb
          go_wp2
          go_round
          case rel => exact ⟨t ++ ⟨#[97]⟩, rfl, by rw [HS.out]; rfl, by rw [HS.out]; omega, by rw [HS.out]; omega⟩
          case measure => simp [intOf]; omega
      · have h2' : ¬ (t.size : Int) < 60 := by omega
        clear hsa hsb
        go_wp2
        go_loop [7] (fun i => ∃ a : Nat, a ≤ t.size ∧ i = .int .i64 a ∧ Hid (∀ k, k < a → byteAt t k = 97)) (fun i => t.size - (intOf i).toNat)
        case atStart => exact ⟨0, Nat.zero_le _, rfl, fun k hk => absurd hk (by omega)⟩
        case round =>
          obtain ⟨a, ha, rfl, HA⟩ := hrel
          by_cases h5 : a < t.size
          · have hba := UInt8.toNat_lt t[a]
            by_cases h6 : byteAt t a = 97
            · have h7 : t[a].toNat = 97 := by rw [← byteAt_get h5]; exact h6
              have q1 : (((t[a].toNat : Nat) : Int) == 97) = true := beq_iff_eq.2 (by omega)
              have HA2 : Hid (∀ k, k < a + 1 → byteAt t k = 97) := fun k hk => by
                rcases Nat.lt_or_eq_of_le (Nat.lt_succ_iff.1 hk) with h | h
                · exact HA.out k h
                · rw [h]; exact h6
              clear h6 h7 HA
              go_wp2
              go_round
              case rel => exact ⟨a + 1, by omega, by go_num, HA2⟩
              case measure => simp [intOf]; omega
            · have h7 : t[a].toNat ≠ 97 := by rw [← byteAt_get h5]; exact h6
              have q1 : (((t[a].toNat : Nat) : Int) == 97) = false := beq_eq_false_iff_ne.2 (by omega)
              have HNA : Hid (¬ (a < t.size ∧ byteAt t a = 97)) := fun h => h6 h.2
              clear h6 h7
              go_wp2
              go_loop [8] (fun i => ∃ b : Nat, a + b ≤ t.size ∧ i = .int .i64 b ∧ Hid (∀ k, k < b → byteAt t (a + k) = 98)) (fun i => t.size - (intOf i).toNat)
              case atStart => exact ⟨0, by omega, rfl, fun k hk => absurd hk (by omega)⟩
              case round =>
                obtain ⟨b, hab, rfl, HB⟩ := hrel
                by_cases g5 : a + b < t.size
                · have hbb := UInt8.toNat_lt t[a + b]
                  have g5' : (a : Int) + (b : Int) < (t.size : Int) := by omega
                  by_cases g6 : byteAt t (a + b) = 98
                  · have g7 : t[a + b].toNat = 98 := by rw [← byteAt_get g5]; exact g6
                    have q2 : (((t[a + b].toNat : Nat) : Int) == 98) = true := beq_iff_eq.2 (by omega)
                    have HB2 : Hid (∀ k, k < b + 1 → byteAt t (a + k) = 98) := fun k hk => by
                      rcases Nat.lt_or_eq_of_le (Nat.lt_succ_iff.1 hk) with h | h
                      · exact HB.out k h
                      · rw [h]; exact g6
                    clear g6 g7 HB
                    go_wp2
                    go_round
                    case rel => exact ⟨b + 1, by omega, by go_num, HB2⟩
                    case measure => simp [intOf]; omega
                  · have g7 : t[a + b].toNat ≠ 98 := by rw [← byteAt_get g5]; exact g6
                    have q2 : (((t[a + b].toNat : Nat) : Int) == 98) = false := beq_eq_false_iff_ne.2 (by omega)
                    have HNB : Hid (¬ (a + b < t.size ∧ byteAt t (a + b) = 98)) := fun h => g6 h.2
                    clear g6 g7
                    go_wp2
                    go_ret3
                    exact ⟨⟨t, a, b, rfl, ht, ⟨hab, HA.out, HNA.out, HB.out, HNB.out⟩⟩, rfl⟩
                · have HNB : Hid (¬ (a + b < t.size ∧ byteAt t (a + b) = 98)) := fun h => g5 h.1
                  have g5' : ¬ (a : Int) + (b : Int) < (t.size : Int) := by omega
                  go_wp2
                  go_ret3
                  exact ⟨⟨t, a, b, rfl, ht, ⟨hab, HA.out, HNA.out, HB.out, HNB.out⟩⟩, rfl⟩
          · have HNA : Hid (¬ (a < t.size ∧ byteAt t a = 97)) := fun h => h5 h.1
            go_wp2
            go_loop [8] (fun i => ∃ b : Nat, a + b ≤ t.size ∧ i = .int .i64 b ∧ Hid (∀ k, k < b → byteAt t (a + k) = 98)) (fun i => t.size - (intOf i).toNat)
            case atStart => exact ⟨0, by omega, rfl, fun k hk => absurd hk (by omega)⟩
            case round =>
              obtain ⟨b, hab, rfl, HB⟩ := hrel
              have g5 : ¬ a + b < t.size := by omega
              have HNB : Hid (¬ (a + b < t.size ∧ byteAt t (a + b) = 98)) := fun h => g5 h.1
              have g5' : ¬ (a : Int) + (b : Int) < (t.size : Int) := by omega
              go_wp2
              go_ret3
              exact ⟨⟨t, a, b, rfl, ht, ⟨hab, HA.out, HNA.out, HB.out, HNB.out⟩⟩, rfl⟩
    · clear hsa hsb
      go_wp2
      go_loop [7] (fun i => ∃ a : Nat, a ≤ t.size ∧ i = .int .i64 a ∧ Hid (∀ k, k < a → byteAt t k = 97)) (fun i => t.size - (intOf i).toNat)
      case atStart => exact ⟨0, Nat.zero_le _, rfl, fun k hk => absurd hk (by omega)⟩
      case round =>
        obtain ⟨a, ha, rfl, HA⟩ := hrel
        by_cases h5 : a < t.size
        · have hba := UInt8.toNat_lt t[a]
          by_cases h6 : byteAt t a = 97
          · have h7 : t[a].toNat = 97 := by rw [← byteAt_get h5]; exact h6
            have q1 : (((t[a].toNat : Nat) : Int) == 97) = true := beq_iff_eq.2 (by omega)
            have HA2 : Hid (∀ k, k < a + 1 → byteAt t k = 97) := fun k hk => by
              rcases Nat.lt_or_eq_of_le (Nat.lt_succ_iff.1 hk) with h | h
              · exact HA.out k h
              · rw [h]; exact h6
            clear h6 h7 HA
            go_wp2
            go_round
            case rel => exact ⟨a + 1, by omega, by go_num, HA2⟩
            case measure => simp [intOf]; omega
          · have h7 : t[a].toNat ≠ 97 := by rw [← byteAt_get h5]; exact h6
            have q1 : (((t[a].toNat : Nat) : Int) == 97) = false := beq_eq_false_iff_ne.2 (by omega)
            have HNA : Hid (¬ (a < t.size ∧ byteAt t a = 97)) := fun h => h6 h.2
            clear h6 h7
            go_wp2
            go_loop [8] (fun i => ∃ b : Nat, a + b ≤ t.size ∧ i = .int .i64 b ∧ Hid (∀ k, k < b → byteAt t (a + k) = 98)) (fun i => t.size - (intOf i).toNat)
            case atStart => exact ⟨0, by omega, rfl, fun k hk => absurd hk (by omega)⟩
            case round =>
              obtain ⟨b, hab, rfl, HB⟩ := hrel
              by_cases g5 : a + b < t.size
              · have hbb := UInt8.toNat_lt t[a + b]
                have g5' : (a : Int) + (b : Int) < (t.size : Int) := by omega
                by_cases g6 : byteAt t (a + b) = 98
                · have g7 : t[a + b].toNat = 98 := by rw [← byteAt_get g5]; exact g6
                  have q2 : (((t[a + b].toNat : Nat) : Int) == 98) = true := beq_iff_eq.2 (by omega)
                  have HB2 : Hid (∀ k, k < b + 1 → byteAt t (a + k) = 98) := fun k hk => by
                    rcases Nat.lt_or_eq_of_le (Nat.lt_succ_iff.1 hk) with h | h
                    · exact HB.out k h
                    · rw [h]; exact g6
                  clear g6 g7 HB
                  go_wp2
                  go_round
                  case rel => exact ⟨b + 1, by omega, by go_num, HB2⟩
                  case measure => simp [intOf]; omega
                · have g7 : t[a + b].toNat ≠ 98 := by rw [← byteAt_get g5]; exact g6
                  have q2 : (((t[a + b].toNat : Nat) : Int) == 98) = false := beq_eq_false_iff_ne.2 (by omega)
                  have HNB : Hid (¬ (a + b < t.size ∧ byteAt t (a + b) = 98)) := fun h => g6 h.2
                  clear g6 g7
                  go_wp2
                  go_ret3
                  exact ⟨⟨t, a, b, rfl, ht, ⟨hab, HA.out, HNA.out, HB.out, HNB.out⟩⟩, rfl⟩
              · have HNB : Hid (¬ (a + b < t.size ∧ byteAt t (a + b) = 98)) := fun h => g5 h.1
                have g5' : ¬ (a : Int) + (b : Int) < (t.size : Int) := by omega
                go_wp2
                go_ret3
                exact ⟨⟨t, a, b, rfl, ht, ⟨hab, HA.out, HNA.out, HB.out, HNB.out⟩⟩, rfl⟩
        · have HNA : Hid (¬ (a < t.size ∧ byteAt t a = 97)) := fun h => h5 h.1
          go_wp2
          go_loop [8] (fun i => ∃ b : Nat, a + b ≤ t.size ∧ i = .int .i64 b ∧ Hid (∀ k, k < b → byteAt t (a + k) = 98)) (fun i => t.size - (intOf i).toNat)
          case atStart => exact ⟨0, by omega, rfl, fun k hk => absurd hk (by omega)⟩
          case round =>
            obtain ⟨b, hab, rfl, HB⟩ := hrel
            have g5 : ¬ a + b < t.size := by omega
            have HNB : Hid (¬ (a + b < t.size ∧ byteAt t (a + b) = 98)) := fun h => g5 h.1
            have g5' : ¬ (a : Int) + (b : Int) < (t.size : Int) := by omega
            go_wp2
            go_ret3
            exact ⟨⟨t, a, b, rfl, ht, ⟨hab, HA.out, HNA.out, HB.out, HNB.out⟩⟩, rfl⟩
end Go.Proofs.YtagklnaaoclmhaaGreatDoor

namespace Go.Proofs.YtagklnaaoclmhaaGreatDoor
open Go.RowKit
/-- A tree in memory. -/
structure TrAt (w : World) (g : Nat) (L : List Nod) : Prop where
  at_ : ∀ k, k < L.length → w.cell? ⟨g, k * 4, none⟩ = some (.int .i64 ((gN L k).rule : Int)) ∧ w.cell? ⟨g, k * 4 + 1, none⟩ = some (.int .i64 ((gN L k).from_ : Int)) ∧ w.cell? ⟨g, k * 4 + 2, none⟩ = some (.int .i64 ((gN L k).to : Int)) ∧ w.cell? ⟨g, k * 4 + 3, none⟩ = some (.int .i64 ((gN L k).dep : Int))

theorem digit_any (c : UInt8) (w : World) :
    Calls Tryz.prog 51 #[.int .u8 (c.toNat : Int)] w fun e w' => e = .returned (.bool (decide (48 ≤ c.toNat ∧ c.toNat ≤ 57))) ∧ w' = w := by
  have hb := UInt8.toNat_lt c
  obtain ⟨r, hr⟩ : ∃ r, r = decide (48 ≤ c.toNat ∧ c.toNat ≤ 57) := ⟨_, rfl⟩
  rw [← hr]
  by_cases h1 : 48 ≤ c.toNat
  · have h1' : (48 : Int) ≤ (c.toNat : Int) := by omega
    by_cases h2 : c.toNat ≤ 57
    · have h2' : (c.toNat : Int) ≤ 57 := by omega
      have HR : r = true := by rw [hr]; simp [h1, h2]
      subst HR
      clear hr
      go_enter Tryz.func51, Tryz.ntmps51
      go_wp2
      go_ret
      exact ⟨rfl, rfl⟩
    · have h2' : ¬ (c.toNat : Int) ≤ 57 := by omega
      have HR : r = false := by rw [hr]; simp [h2]
      subst HR
      clear hr
      go_enter Tryz.func51, Tryz.ntmps51
      go_wp2
      go_ret
      exact ⟨rfl, rfl⟩
  · have h1' : ¬ (48 : Int) ≤ (c.toNat : Int) := by omega
    have HR : r = false := by rw [hr]; simp [h1]
    subst HR
    clear hr
    go_enter Tryz.func51, Tryz.ntmps51
    go_wp2
    go_ret
    exact ⟨rfl, rfl⟩

theorem wrapN (x : Nat) (h : x ≤ 2000000) : IntKind.i64.wrap (x : Int) = (x : Int) := by
  rw [IntKind.wrap_i64]
  omega

set_option maxRecDepth 100000 in
set_option maxHeartbeats 1600000 in
theorem lies_any (g len : Nat) (cap : Nat) (L : List Nod) (w : World) (hT : TrAt w g L) (hl : L.length ≤ 1000000) (hl0 : 0 < L.length) (hlen : len ≤ 1000) (hd : ∀ i, 0 < i → i < L.length → 1 ≤ (gN L i).dep) (hd2 : ∀ i, i < L.length → (gN L i).dep ≤ 1000000) (hL : ∀ i, i < L.length → LiesAt 0 0 len (gN L) i) :
    Calls Tryz.prog 25 #[.slice (some ⟨g, 0, none⟩) L.length cap, .int .i64 (len : Int)] w fun e w' => e = .returned (.bool true) ∧ ∃ n, w' = w.drewN n := by
  have HT := hide hT.at_
  have HD := hide hd
  have HD2 := hide hd2
  have HL := hide hL
  clear hT hd hd2 hL
  go_enter Tryz.func25, Tryz.ntmps25
  go_wp2
  go_loopg [5] L.length (fun n v wx => ∃ x i : Nat, v = .int .i64 (i : Int) ∧ Hid (i = x + 1 ∧ i ≤ L.length ∧ x + n = L.length) ∧ ∃ m, wx = w.drewN m)
  case atStart => exact ⟨0, 1, rfl, ⟨rfl, by omega, by omega⟩, 0, rfl⟩
  case round =>
    obtain ⟨x, i, rfl, HX, m, rfl⟩ := hrel
    obtain ⟨gk', hgk⟩ : ∃ m, m = gk := ⟨gk, rfl⟩
    subst hgk
    obtain ⟨hx, hx2, -⟩ := HX.out
    by_cases hlt : i < L.length
    · obtain ⟨-, c1, c2, c3⟩ := HT.out i hlt
      obtain ⟨-, -, -, p3⟩ := HT.out x (by omega)
      have A := HL.out i hlt
      have a1 := HD.out i (by omega) hlt
      have a2 := HD2.out x (by omega)
      have a3 := A.next (by omega)
      have a4 := A.to
      have a5 := A.le
      rw [show i - 1 = x by omega] at a3
      have HA := hide (And.intro A.side A.up)
      clear A
      have hix : x < L.length := by omega
      have hw1 := wrapN x (by omega)
      have hi1 : (i : Int) - 1 = (x : Int) := by omega
      clear hx
      obtain ⟨N, hN⟩ : ∃ N, N = gN L i := ⟨_, rfl⟩
      obtain ⟨M, hM⟩ : ∃ M, M = gN L x := ⟨_, rfl⟩
      rw [← hN] at c1 c2 c3 a1 a3 a4 a5
      rw [← hM] at p3 a2 a3
      have HN := hide hN
      clear hN hM
      obtain ⟨nr, nf, nt, nd⟩ := N
      obtain ⟨mr, mf, mt, md⟩ := M
      dsimp only at *
      obtain ⟨q, hq⟩ : ∃ q, q = md + 1 := ⟨_, rfl⟩
      have hw2 := wrapN q (by omega)
      have hm2 : (md : Int) + 1 = (q : Int) := by omega
      have b1 : decide ((nd : Int) < 1) = false := decide_eq_false (by omega)
      have b2 : decide ((q : Int) < (nd : Int)) = false := decide_eq_false (by omega)
      have b3 : decide ((nf : Int) < 0) = false := decide_eq_false (by omega)
      have b4 : decide ((len : Int) < (nt : Int)) = false := decide_eq_false (by omega)
      have b5 : decide ((nt : Int) < (nf : Int)) = false := decide_eq_false (by omega)
      have d2 : decide (q < nd) = false := decide_eq_false (by omega)
      have d4 : decide (len < nt) = false := decide_eq_false (by omega)
      have d5 : decide (nt < nf) = false := decide_eq_false (by omega)
      clear a1 a3 a5 hq
      go_wp2
      go_quiet (fail)
      go_wp2
      have HB := hide (And.intro b1 (And.intro a2 a4))
      clear b1 b2 b3 b4 b5 d2 d4 d5 p3 hw1 hw2 hm2 a2 a4 hi1
      go_loopg [6] x (fun n v wx => ∃ k : Nat, v = .int .i64 (k : Int) ∧ Hid (k = n ∧ k ≤ x ∧ ∀ j, k < j → j < i → nd ≤ (gN L j).dep) ∧ ∃ m, wx = w.drewN m)
      case atStart => exact ⟨x, rfl, ⟨rfl, Nat.le_refl _, fun j h1 h2 => by have := HX.out; omega⟩, by first | exact ⟨_, rfl⟩ | exact ⟨_, World.drewN_drewN ..⟩ | exact ⟨_, by rw [World.drewN_drewN, World.drewN_drewN]⟩ | exact ⟨_, by rw [World.drewN_drewN, World.drewN_drewN, World.drewN_drewN]⟩⟩
      case round =>
        obtain ⟨k, rfl, HK, m2, rfl⟩ := hrel
        obtain ⟨gj, hgj⟩ : ∃ m, m = gk := ⟨gk, rfl⟩
        subst hgj
        obtain ⟨hkn, hkx, hkd⟩ := HK.out
        have hkL : k < L.length := by omega
        obtain ⟨-, e1, e2, e3⟩ := HT.out k hkL
        have HI := HA.out
        rw [← HN.out] at HI
        have HS := HI.1 k (by have := HX.out; omega) hkd
        have HU := HI.2 k (by have := HX.out; omega) hkd
        have H0 : k = 0 → (gN L k).dep < nd := fun h => by
          have h1 := (HL.out 0 (by omega)).first rfl
          have h2 := HD.out i (by have := HX.out; omega) hlt
          rw [← HN.out] at h2
          rw [h, h1]
          exact h2
        have hkb := HD2.out k hkL
        dsimp only at HS HU
        clear HI
        obtain ⟨K, hK⟩ : ∃ K, K = gN L k := ⟨_, rfl⟩
        rw [← hK] at e1 e2 e3 HS HU H0 hkb
        have HKK := hide hK
        clear hK
        obtain ⟨kr, kf, kt, kd⟩ := K
        dsimp only at e1 e2 e3 HS HU H0 hkb
        have HKD := hide hkd
        clear hkd
        by_cases hk0 : k = 0
        · have g0 : decide ((0 : Int) < (k : Int)) = false := decide_eq_false (by omega)
          have g0' : decide (0 < k) = false := decide_eq_false (by omega)
          obtain ⟨u1, u2⟩ := HU (H0 hk0)
          have v1 : decide (nf < kf) = false := decide_eq_false (by omega)
          have v2 : decide (kt < nt) = false := decide_eq_false (by omega)
          clear HS HU H0 hk0 hkn hkx u1 u2
          go_wp2
          go_quiet (fail)
          go_wp2
          go_quiet (fail)
          go_wp2
          go_roundg (gk' - 1)
          case measure => have := HX.out; omega
          case rel => exact ⟨x + 1, i + 1, by go_num, (by have := HX.out; unfold Hid; omega), by first | exact ⟨_, rfl⟩ | exact ⟨_, World.drewN_drewN ..⟩ | exact ⟨_, by rw [World.drewN_drewN, World.drewN_drewN]⟩ | exact ⟨_, by rw [World.drewN_drewN, World.drewN_drewN, World.drewN_drewN]⟩⟩
        · have g0 : decide ((0 : Int) < (k : Int)) = true := decide_eq_true (by omega)
          have g0' : decide (0 < k) = true := decide_eq_true (by omega)
          by_cases hkd : kd < nd
          · obtain ⟨u1, u2⟩ := HU hkd
            have v0 : decide (nd ≤ kd) = false := decide_eq_false (by omega)
            have v1 : decide (nf < kf) = false := decide_eq_false (by omega)
            have v2 : decide (kt < nt) = false := decide_eq_false (by omega)
            clear HS HU H0 hkd hkn hkx u1 u2
            go_wp2
            go_quiet (fail)
            go_wp2
            go_quiet (fail)
            go_wp2
            go_roundg (gk' - 1)
            case measure => have := HX.out; omega
            case rel => exact ⟨x + 1, i + 1, by go_num, (by have := HX.out; unfold Hid; omega), by first | exact ⟨_, rfl⟩ | exact ⟨_, World.drewN_drewN ..⟩ | exact ⟨_, by rw [World.drewN_drewN, World.drewN_drewN]⟩ | exact ⟨_, by rw [World.drewN_drewN, World.drewN_drewN, World.drewN_drewN]⟩⟩
          · have v0 : decide (nd ≤ kd) = true := decide_eq_true (by omega)
            have HK2 : Hid (k - 1 = gj - 1 ∧ k - 1 ≤ x ∧ ∀ j, k - 1 < j → j < i → nd ≤ (gN L j).dep) := ⟨by omega, by omega, fun j h1 h2 => by
              rcases Nat.eq_or_lt_of_le (show k ≤ j by omega) with h | h
              · rw [← h, ← HKK.out]; dsimp only; omega
              · exact HKD.out j h h2⟩
            have HM : Hid (gj - 1 < gj) := by unfold Hid; omega
            have hk1 : (k : Int) - 1 = ((k - 1 : Nat) : Int) := by omega
            by_cases hke : kd = nd
            · have w0 : (kd == nd) = true := by simpa using hke
              have w0' : ((kd : Int) == (nd : Int)) = true := by simp [hke]
              have w1 : decide (nf < kt) = false := decide_eq_false (by have := HS hke; omega)
              clear HS HU H0 hke hkd hkn hkx hk0
              go_wp2
              go_quiet (fail)
              go_wp2
              go_quiet (fail)
              go_wp2
              go_roundg (gj - 1)
              case measure => exact HM.out
              case rel => exact ⟨k - 1, by rw [← hk1], HK2, by first | exact ⟨_, rfl⟩ | exact ⟨_, World.drewN_drewN ..⟩ | exact ⟨_, by rw [World.drewN_drewN, World.drewN_drewN]⟩ | exact ⟨_, by rw [World.drewN_drewN, World.drewN_drewN, World.drewN_drewN]⟩⟩
            · have w0 : (kd == nd) = false := by simpa using hke
              have w0' : ((kd : Int) == (nd : Int)) = false := by simp; omega
              clear HS HU H0 hke hkd hkn hkx hk0
              go_wp2
              go_quiet (fail)
              go_wp2
              go_quiet (fail)
              go_wp2
              go_roundg (gj - 1)
              case measure => exact HM.out
              case rel => exact ⟨k - 1, by rw [← hk1], HK2, by first | exact ⟨_, rfl⟩ | exact ⟨_, World.drewN_drewN ..⟩ | exact ⟨_, by rw [World.drewN_drewN, World.drewN_drewN]⟩ | exact ⟨_, by rw [World.drewN_drewN, World.drewN_drewN, World.drewN_drewN]⟩⟩
    · go_wp2
      go_ret
      exact ⟨rfl, _, rfl⟩
end Go.Proofs.YtagklnaaoclmhaaGreatDoor
