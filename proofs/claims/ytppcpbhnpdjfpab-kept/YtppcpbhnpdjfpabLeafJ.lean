/-
  Boxes and squares: shows, meet, squareSide, boxSide, apart.
-/
import Derived.Test.YtppcpbhnpdjfpabLeafI
namespace Go.Proofs.Ytppcpbhnpdjfpab
open Go.RowKit

def shw (f : Nat → Int) (l z : Int) : Bool := decide (f 1 = l) && decide (f 5 ≤ z)

set_option maxHeartbeats 800000 in
theorem shows48_any (f : Nat → Int) (l z x y : Int) (w : World) :
    Calls Try.prog 44 #[.agg (fc f), .agg #[.int .i64 l, .int .i64 z, .int .i64 x, .int .i64 y]] w fun e w' => e = .returned (.bool (shw f l z)) ∧ Below w.heap.size w w' := by
  have c1 := fc_at f 1 (by decide)
  have c5 := fc_at f 5 (by decide)
  obtain ⟨L, hL⟩ : ∃ S, f 1 = S := ⟨_, rfl⟩
  obtain ⟨F, hF⟩ : ∃ S, f 5 = S := ⟨_, rfl⟩
  rw [hL] at c1; rw [hF] at c5
  have H : Hid (shw f l z = (decide (L = l) && decide (F ≤ z))) := by show shw f l z = _; simp [shw, hL, hF]
  clear hL hF
  by_cases h1 : L = l
  · subst h1
    go_enter Try.func44, Try.ntmps44
    go_wp2
    go_ret
    refine ⟨ret_bool ?_, ?_⟩
    · rw [unhide H]; simp
    · repeat first | exact Below.refl _ _ | refine below_drewN ?_ _ | refine Below.drew ?_ | refine below_alloc ?_ (Nat.le_refl _) _
  · go_enter Try.func44, Try.ntmps44
    go_wp2
    go_ret
    refine ⟨ret_bool ?_, ?_⟩
    · rw [unhide H]; simp [h1]
    · repeat first | exact Below.refl _ _ | refine below_drewN ?_ _ | refine Below.drew ?_ | refine below_alloc ?_ (Nat.le_refl _) _

set_option maxHeartbeats 800000 in
theorem meet_any (a b c d : Int) (w : World) :
    Calls Try.prog 49 #[.agg #[.int .i64 a, .int .i64 b], .agg #[.int .i64 c, .int .i64 d]] w fun e w' => e = .returned (.bool (decide (a ≤ d) && decide (c ≤ b))) ∧ Below w.heap.size w w' := by
  by_cases h1 : a ≤ d
  · go_enter Try.func49, Try.ntmps49
    go_wp2
    go_ret
    refine ⟨ret_bool ?_, ?_⟩
    · simp [h1]
    · repeat first | exact Below.refl _ _ | refine below_drewN ?_ _ | refine Below.drew ?_ | refine below_alloc ?_ (Nat.le_refl _) _
  · go_enter Try.func49, Try.ntmps49
    go_wp2
    go_ret
    refine ⟨ret_bool ?_, ?_⟩
    · simp; intros; omega
    · repeat first | exact Below.refl _ _ | refine below_drewN ?_ _ | refine Below.drew ?_ | refine below_alloc ?_ (Nat.le_refl _) _

set_option maxHeartbeats 800000 in
theorem squareSide_any (p u : Int) (w : World) (hp : 0 ≤ p ∧ p ≤ 4194304) (h1 : 0 ≤ 8 * p * u ∧ 8 * p * u ≤ 1073741824) (h2 : 0 ≤ 8 * (p + 1) * u ∧ 8 * (p + 1) * u ≤ 1073741824) :
    Calls Try.prog 51 #[.int .i64 p, .int .i64 u] w fun e w' => e = .returned (.agg #[.int .i64 (8 * p * u), .int .i64 (8 * (p + 1) * u)]) ∧ Below w.heap.size w w' := by
  have q1 : wrap64 (8 * p * u) = 8 * p * u := IntWalk.wrap64_in _ ⟨by omega, by omega⟩
  have q2 : wrap64 (8 * (p + 1) * u) = 8 * (p + 1) * u := IntWalk.wrap64_in _ ⟨by omega, by omega⟩
  clear h1 h2
  go_enter Try.func51, Try.ntmps51
  go_wp2
  refine bodyPost_ret (v := .agg #[.int .i64 (8 * p * u), .int .i64 (8 * (p + 1) * u)]) (by simp [results, Try.results51, go_sem, q1, q2]) rfl ⟨rfl, ?_⟩
  repeat first | exact Below.refl _ _ | refine below_drewN ?_ _ | refine Below.drew ?_ | refine below_alloc ?_ (Nat.le_refl _) _

/-- The cells of an array of eight numbers. -/
def ac (g : Nat → Int) : Array Value := (Array.range 8).map fun i => .int .i64 (g i)
theorem ac_size (g : Nat → Int) : (ac g).size = 8 := by simp [ac]
theorem ac_at (g : Nat → Int) (i : Nat) (h : i < 8) : (ac g)[i]? = some (.int .i64 (g i)) := by simp [ac, h]
def mnC (g : Nat → Int) : Nat → Int
  | 0 => g 0
  | k + 1 => if g k < mnC g k then g k else mnC g k
def mxC (g : Nat → Int) : Nat → Int
  | 0 => g 0
  | k + 1 => if mxC g k < g k then g k else mxC g k

theorem st0 {X W : World} {n : Nat} {a b v : Int} (hn : n = X.heap.size) (h : ∃ q, W = (X.alloc (.cells #[.int .i64 a, .int .i64 b] 94)).drewN q) : ∃ q, W.setCell ⟨n, 0, none⟩ (.int .i64 v) = (X.alloc (.cells #[.int .i64 v, .int .i64 b] 94)).drewN q := by
  obtain ⟨q, rfl⟩ := h
  refine ⟨q, ?_⟩
  show ((X.alloc (.cells #[.int .i64 a, .int .i64 b] 94)).setCell ⟨n, 0, none⟩ (.int .i64 v)).drewN q = _
  rw [World.setCell_alloc_at _ _ _ _ _ hn]; rfl
theorem st1 {X W : World} {n : Nat} {a b v : Int} (hn : n = X.heap.size) (h : ∃ q, W = (X.alloc (.cells #[.int .i64 a, .int .i64 b] 94)).drewN q) : ∃ q, W.setCell ⟨n, 1, none⟩ (.int .i64 v) = (X.alloc (.cells #[.int .i64 a, .int .i64 v] 94)).drewN q := by
  obtain ⟨q, rfl⟩ := h
  refine ⟨q, ?_⟩
  show ((X.alloc (.cells #[.int .i64 a, .int .i64 b] 94)).setCell ⟨n, 1, none⟩ (.int .i64 v)).drewN q = _
  rw [World.setCell_alloc_at _ _ _ _ _ hn]; rfl
theorem dr {W Y : World} (h : ∃ q, W = Y.drewN q) (m : Nat) : ∃ q, W.drewN m = Y.drewN q := by
  obtain ⟨q, rfl⟩ := h
  exact ⟨_, World.drewN_drewN _ _ _⟩

set_option maxHeartbeats 3200000 in
theorem boxSide_any (f g : Nat → Int) (u : Int) (w : World) (hn : 1 ≤ f 7 ∧ f 7 ≤ 8) (hg : ∀ i, i < 8 → W30 (g i)) (hu : W30 (f 6 * u)) :
    Calls Try.prog 50 #[.agg (fc f), .agg (ac g), .int .i64 u] w fun e w' => e = .returned (.agg #[.int .i64 (mnC g (f 7).toNat - f 6 * u), .int .i64 (mxC g (f 7).toNat + f 6 * u)]) ∧ Below w.heap.size w w' := by
  have c6 := fc_at f 6 (by decide)
  have c7 := fc_at f 7 (by decide)
  have a0 := ac_at g 0 (by decide)
  obtain ⟨S, hS⟩ : ∃ S, f 6 = S := ⟨_, rfl⟩
  obtain ⟨N, hN⟩ : ∃ S, f 7 = S := ⟨_, rfl⟩
  rw [hS] at c6 hu
  rw [hN] at c7 hn
  rw [hS, hN]
  clear hS hN
  obtain ⟨n1, n2⟩ := hn
  unfold W30 at hu
  obtain ⟨R, hR⟩ : ∃ R, S * u = R := ⟨_, rfl⟩
  rw [hR] at hu
  have q1 : wrap64 (S * u) = R := by rw [hR]; exact IntWalk.wrap64_in _ ⟨by omega, by omega⟩
  rw [hR]
  clear hR
  have HG := hide hg
  clear hg
  go_enter Try.func50, Try.ntmps50
  go_wp2
  go_loopw [8] (fun i wr => ∃ (k : Nat) (a b : Int), 1 ≤ k ∧ (k : Int) ≤ N ∧ i = .int .i64 k ∧ Hid (a = mnC g k) ∧ Hid (b = mxC g k) ∧ W30 a ∧ W30 b ∧ ∃ q, wr = (((((w.alloc (.cells (fc f) 54)).alloc (.cells (ac g) 52)).alloc (.cells #[.int .i64 0, .int .i64 0] 94)).alloc (.cells #[.int .i64 a, .int .i64 b] 94))).drewN q) (fun i _ => 8 - (intOf i).toNat)
  case atStart =>
    exact ⟨1, g 0, g 0, by omega, by omega, rfl, by simp [Hid, mnC], by simp [Hid, mxC], unhide HG 0 (by omega), unhide HG 0 (by omega), 0, rfl⟩
  case round =>
    obtain ⟨k, a, b, hk1, hk, rfl, ha, hb, wa, wb, q, rfl⟩ := hrel
    by_cases hlt : (k : Int) < N
    · have hk8 : (k : Int) < 8 := by omega
      have ak := ac_at g k (by omega)
      obtain ⟨G, hG⟩ : ∃ S, g k = S := ⟨_, rfl⟩
      rw [hG] at ak
      have HGk := hide hG
      clear hG
      have wG : W30 G := (unhide HGk) ▸ unhide HG k (by omega)
      have WG := hide wG
      by_cases h1 : G < a
      · by_cases h2 : b < G
        · go_wp2
          go_quiet (fail)
          go_wp2
          go_quiet (fail)
          go_wp2
          go_roundw
          case rel => exact ⟨k + 1, G, G, by omega, by omega, by go_num, hide (by simp only [mnC, ← unhide ha, unhide HGk]; rw [if_pos h1]), hide (by simp only [mxC, ← unhide hb, unhide HGk]; rw [if_pos h2]), wG, wG, st1 (by simp) (dr (st0 (by simp) ⟨_, rfl⟩) _)⟩
          case measure => simp [intOf]; omega
        · go_wp2
          go_quiet (fail)
          go_wp2
          go_quiet (fail)
          go_wp2
          go_roundw
          case rel => exact ⟨k + 1, G, b, by omega, by omega, by go_num, hide (by simp only [mnC, ← unhide ha, unhide HGk]; rw [if_pos h1]), hide (by simp only [mxC, ← unhide hb, unhide HGk]; rw [if_neg (by omega)]), wG, wb, dr (st0 (by simp) ⟨_, rfl⟩) _⟩
          case measure => simp [intOf]; omega
      · by_cases h2 : b < G
        · go_wp2
          go_quiet (fail)
          go_wp2
          go_quiet (fail)
          go_wp2
          go_roundw
          case rel => exact ⟨k + 1, a, G, by omega, by omega, by go_num, hide (by simp only [mnC, ← unhide ha, unhide HGk]; rw [if_neg (by omega)]), hide (by simp only [mxC, ← unhide hb, unhide HGk]; rw [if_pos h2]), wa, wG, st1 (by simp) ⟨_, rfl⟩⟩
          case measure => simp [intOf]; omega
        · go_wp2
          go_quiet (fail)
          go_wp2
          go_quiet (fail)
          go_wp2
          go_roundw
          case rel => exact ⟨k + 1, a, b, by omega, by omega, by go_num, hide (by simp only [mnC, ← unhide ha, unhide HGk]; rw [if_neg (by omega)]), hide (by simp only [mxC, ← unhide hb, unhide HGk]; rw [if_neg (by omega)]), wa, wb, ⟨_, rfl⟩⟩
          case measure => simp [intOf]; omega
    · have hkN : Hid (N.toNat = k) := by show N.toNat = k; omega
      unfold W30 at wa wb
      go_wp2
      refine bodyPost_ret (v := .agg #[.int .i64 (a - R), .int .i64 (b + R)]) (by simp [results, Try.results50, go_sem]) rfl ⟨?_, ?_⟩
      · rw [unhide hkN, ← unhide ha, ← unhide hb]
      · repeat first | exact Below.refl _ _ | refine below_drewN ?_ _ | refine Below.drew ?_ | refine below_alloc ?_ (Nat.le_refl _) _ | refine Below.setCell ?_ (by simp only []; omega) _

/-- Do all the first n places, each with so much room on both sides, lie on one side of lo to hi? -/
def apB (g : Nat → Int) (r lo : Int) (n : Nat) : Bool := (List.range n).all fun i => decide (g i + r < lo)
def apA (g : Nat → Int) (r hi : Int) (n : Nat) : Bool := (List.range n).all fun i => decide (hi < g i - r)
theorem apB_succ (g : Nat → Int) (r lo : Int) (k : Nat) : apB g r lo (k + 1) = (apB g r lo k && decide (g k + r < lo)) := by simp [apB, List.range_succ]
theorem apA_succ (g : Nat → Int) (r lo : Int) (k : Nat) : apA g r lo (k + 1) = (apA g r lo k && decide (lo < g k - r)) := by simp [apA, List.range_succ]

end Go.Proofs.Ytppcpbhnpdjfpab
