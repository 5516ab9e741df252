/-
  THE LEAVES, more of them: the layers' names, the errors of keys.
-/
import Derived.Test.YtacjjjjbfjkohaaDoorLeaf
namespace Go.Proofs.YtacjjjjbfjkohaaDoor
open Go.RowKit

/-- The table of names as it lies in memory. -/
def NamesIn (w : World) : Prop :=
  w.cell? ⟨0, 0, none⟩ = some (.string ⟨#[108, 97, 110, 100]⟩) ∧ w.cell? ⟨0, 1, none⟩ = some (.string ⟨#[119, 97, 116, 101, 114]⟩) ∧
  w.cell? ⟨0, 2, none⟩ = some (.string ⟨#[114, 111, 97, 100]⟩) ∧ w.cell? ⟨0, 3, none⟩ = some (.string ⟨#[109, 97, 114, 107]⟩)

theorem beq_yes (a b : List UInt8) (h : b = a) : (a == b) = true := by simp [h]
theorem beq_no (a b : List UInt8) (h : ¬ b = a) : (a == b) = false := by
  rw [beq_eq_false_iff_ne]; exact fun e => h e.symm

set_option maxHeartbeats 800000 in
theorem layerOf_any (s : ByteArray) (w : World) (hN : NamesIn w) :
    Calls Tryd.prog 13 #[.string s] w fun e w' => e = .returned (.int .i64 (Pp.layerL s.data.toList)) ∧ w = w' := by
  obtain ⟨c0, c1, c2, c3⟩ := hN
  have hsl : s.toList = s.data.toList := ByteArray.toList_eq s
  by_cases h0 : s.data.toList = Pp.land
  · have hL : Hid (Pp.layerL s.data.toList = 0) := by show Pp.layerL s.data.toList = _; simp [Pp.layerL, h0]
    have b0 : ([108, 97, 110, 100] == s.data.toList) = true := beq_yes _ _ h0
    clear h0
    go_enter Tryd.func13, Tryd.ntmps13
    go_wp2
    refine wp_loop_rounds 4 ?_
    rw [rounds_succ]; go_wp2
    go_ret
    exact ⟨ret_int (unhide hL).symm, rfl⟩
  have b0 : ([108, 97, 110, 100] == s.data.toList) = false := beq_no _ _ h0
  by_cases h1 : s.data.toList = Pp.water
  · have hL : Hid (Pp.layerL s.data.toList = 1) := by show Pp.layerL s.data.toList = _; simp [Pp.layerL, h1, Pp.land, Pp.water]
    have b1 : ([119, 97, 116, 101, 114] == s.data.toList) = true := beq_yes _ _ h1
    clear h0 h1
    go_enter Tryd.func13, Tryd.ntmps13
    go_wp2
    refine wp_loop_rounds 4 ?_
    rw [rounds_succ]; go_wp2
    rw [rounds_succ]; go_wp2
    go_ret
    exact ⟨ret_int (unhide hL).symm, rfl⟩
  have b1 : ([119, 97, 116, 101, 114] == s.data.toList) = false := beq_no _ _ h1
  by_cases h2 : s.data.toList = Pp.road
  · have hL : Hid (Pp.layerL s.data.toList = 2) := by show Pp.layerL s.data.toList = _; simp [Pp.layerL, h2, Pp.land, Pp.water, Pp.road]
    have b2 : ([114, 111, 97, 100] == s.data.toList) = true := beq_yes _ _ h2
    clear h0 h1 h2
    go_enter Tryd.func13, Tryd.ntmps13
    go_wp2
    refine wp_loop_rounds 4 ?_
    rw [rounds_succ]; go_wp2
    rw [rounds_succ]; go_wp2
    rw [rounds_succ]; go_wp2
    go_ret
    exact ⟨ret_int (unhide hL).symm, rfl⟩
  have b2 : ([114, 111, 97, 100] == s.data.toList) = false := beq_no _ _ h2
  by_cases h3 : s.data.toList = Pp.mark
  · have hL : Hid (Pp.layerL s.data.toList = 3) := by show Pp.layerL s.data.toList = _; simp [Pp.layerL, h3, Pp.land, Pp.water, Pp.road, Pp.mark]
    have b3 : ([109, 97, 114, 107] == s.data.toList) = true := beq_yes _ _ h3
    clear h0 h1 h2 h3
    go_enter Tryd.func13, Tryd.ntmps13
    go_wp2
    refine wp_loop_rounds 4 ?_
    rw [rounds_succ]; go_wp2
    rw [rounds_succ]; go_wp2
    rw [rounds_succ]; go_wp2
    rw [rounds_succ]; go_wp2
    go_ret
    exact ⟨ret_int (unhide hL).symm, rfl⟩
  have b3 : ([109, 97, 114, 107] == s.data.toList) = false := beq_no _ _ h3
  have hL : Hid (Pp.layerL s.data.toList = -1) := by show Pp.layerL s.data.toList = _; simp [Pp.layerL, h0, h1, h2, h3]
  clear h0 h1 h2 h3
  go_enter Tryd.func13, Tryd.ntmps13
  go_wp2
  refine wp_loop_rounds 5 ?_
  rw [rounds_succ]; go_wp2
  rw [rounds_succ]; go_wp2
  rw [rounds_succ]; go_wp2
  rw [rounds_succ]; go_wp2
  rw [rounds_succ]; go_wp2
  go_ret
  exact ⟨ret_int (unhide hL).symm, rfl⟩

theorem pow_cap (z : Int) (h : z ≤ 22) : (1 : Int) ≤ (2 : Int) ^ z.toNat ∧ (2 : Int) ^ z.toNat ≤ 4194304 := by
  have h1 : z.toNat ≤ 22 := by omega
  have h2 : (2 : Nat) ^ z.toNat ≤ 2 ^ 22 := Nat.pow_le_pow_right (by decide) h1
  have h3 : 1 ≤ (2 : Nat) ^ z.toNat := Nat.one_le_two_pow
  have e : ((2 : Int) ^ z.toNat) = (((2 : Nat) ^ z.toNat : Nat) : Int) := by simp
  rw [e]
  omega
theorem div_pos_iff (x N : Int) (h : 1 ≤ N) : 0 < x / N ↔ N ≤ x := by
  have := Int.le_ediv_iff_mul_le (a := 1) (b := x) (c := N) (by omega)
  omega
theorem keyErr_2 (l z x y : Int) (h : l < 0 ∨ 3 < l) : Pp.keyErr l z x y = 2 := by unfold Pp.keyErr; rw [if_pos h]
theorem keyErr_3 (l z x y : Int) (h : ¬ (l < 0 ∨ 3 < l)) (h' : z < 0 ∨ 22 < z) : Pp.keyErr l z x y = 3 := by unfold Pp.keyErr; rw [if_neg h, if_pos h']
theorem keyErr_4 (l z x y : Int) (h : ¬ (l < 0 ∨ 3 < l)) (h' : ¬ (z < 0 ∨ 22 < z)) (h'' : x < 0 ∨ (2 : Int) ^ z.toNat ≤ x ∨ y < 0 ∨ (2 : Int) ^ z.toNat ≤ y) : Pp.keyErr l z x y = 4 := by unfold Pp.keyErr; rw [if_neg h, if_neg h', if_pos h'']
theorem keyErr_0 (l z x y : Int) (h : ¬ (l < 0 ∨ 3 < l)) (h' : ¬ (z < 0 ∨ 22 < z)) (h'' : ¬ (x < 0 ∨ (2 : Int) ^ z.toNat ≤ x ∨ y < 0 ∨ (2 : Int) ^ z.toNat ≤ y)) : Pp.keyErr l z x y = 0 := by unfold Pp.keyErr; rw [if_neg h, if_neg h', if_neg h'']

def inR (n lo hi : Int) : Bool := decide (lo ≤ n ∧ n ≤ hi)
theorem inR_t {n lo hi : Int} (h : lo ≤ n) (h' : n ≤ hi) : inR n lo hi = true := by simp [inR, h, h']
theorem inR_f1 {n lo hi : Int} (h : n < lo) : inR n lo hi = false := by simp [inR]; omega
theorem inR_f2 {n lo hi : Int} (h : hi < n) : inR n lo hi = false := by simp [inR]; omega
theorem isZoom_any (z : Int) (w : World) :
    Calls Tryd.prog 26 #[.int .i64 z] w fun e w' => e = .returned (.bool (inR z 0 22)) ∧ w = w' := by
  by_cases h1 : 0 ≤ z
  · by_cases h2 : z ≤ 22
    · have H := hide (inR_t h1 h2)
      go_enter Tryd.func26, Tryd.ntmps26
      go_wp2
      go_ret
      exact ⟨ret_bool (unhide H).symm, rfl⟩
    · have H := hide (inR_f2 (n := z) (lo := 0) (hi := 22) (by omega))
      go_enter Tryd.func26, Tryd.ntmps26
      go_wp2
      go_ret
      exact ⟨ret_bool (unhide H).symm, rfl⟩
  · have H := hide (inR_f1 (n := z) (lo := 0) (hi := 22) (by omega))
    go_enter Tryd.func26, Tryd.ntmps26
    go_wp2
    go_ret
    exact ⟨ret_bool (unhide H).symm, rfl⟩

set_option maxHeartbeats 1600000 in
theorem keyError_any (l z x y : Int) (w : World) :
    Calls Tryd.prog 15 #[.agg #[.int .i64 l, .int .i64 z, .int .i64 x, .int .i64 y]] w fun e w' => e = .returned (.int .i64 (Pp.keyErr l z x y)) ∧ Below w.heap.size w w' := by
  by_cases h1 : l < 0
  · have HK := hide (keyErr_2 l z x y (Or.inl h1))
    go_enter Tryd.func15, Tryd.ntmps15
    go_wp2_with (go_at_call 26; refine (isZoom_any _ _).mono ?_; rintro e w1 ⟨rfl, rfl⟩)
    go_ret
    exact ⟨ret_int (unhide HK).symm, (Below.refl _ _).alloc (Nat.le_refl _) _⟩
  by_cases h2 : 3 < l
  · have HK := hide (keyErr_2 l z x y (Or.inr h2))
    go_enter Tryd.func15, Tryd.ntmps15
    go_wp2_with (go_at_call 26; refine (isZoom_any _ _).mono ?_; rintro e w1 ⟨rfl, rfl⟩)
    go_ret
    exact ⟨ret_int (unhide HK).symm, (Below.refl _ _).alloc (Nat.le_refl _) _⟩
  have hl : ¬ (l < 0 ∨ 3 < l) := by omega
  by_cases h3 : z < 0
  · have HK := hide (keyErr_3 l z x y hl (Or.inl h3))
    have hzz := inR_f1 (n := z) (lo := 0) (hi := 22) h3
    clear hl
    go_enter Tryd.func15, Tryd.ntmps15
    go_wp2_with (go_at_call 26; refine (isZoom_any _ _).mono ?_; rintro e w1 ⟨rfl, rfl⟩)
    go_ret
    exact ⟨ret_int (unhide HK).symm, (Below.refl _ _).alloc (Nat.le_refl _) _⟩
  by_cases h4 : 22 < z
  · have HK := hide (keyErr_3 l z x y hl (Or.inr h4))
    have hzz := inR_f2 (n := z) (lo := 0) (hi := 22) h4
    clear hl
    go_enter Tryd.func15, Tryd.ntmps15
    go_wp2_with (go_at_call 26; refine (isZoom_any _ _).mono ?_; rintro e w1 ⟨rfl, rfl⟩)
    go_ret
    exact ⟨ret_int (unhide HK).symm, (Below.refl _ _).alloc (Nat.le_refl _) _⟩
  have hz : ¬ (z < 0 ∨ 22 < z) := by omega
  have hzz := inR_t (n := z) (lo := 0) (hi := 22) (by omega) (by omega)
  have K4 := hide (keyErr_4 l z x y hl hz)
  have K0 := hide (keyErr_0 l z x y hl hz)
  obtain ⟨p1, p2⟩ := pow_cap z (by omega)
  have hw : wrap64 ((2 : Int) ^ z.toNat) = (2 : Int) ^ z.toNat := IntWalk.wrap64_in _ ⟨by omega, by omega⟩
  obtain ⟨N, hN⟩ : ∃ N, (2 : Int) ^ z.toNat = N := ⟨_, rfl⟩
  rw [hN] at p1 p2 K4 K0
  have hw' : wrap64 ((2 : Int) ^ z.toNat) = N := hw.trans hN
  clear hN hw hl hz
  by_cases h5 : x < 0
  · have HK := hide (unhide K4 (Or.inl h5))
    clear K4 K0
    go_enter Tryd.func15, Tryd.ntmps15
    go_wp2_with (go_at_call 26; refine (isZoom_any _ _).mono ?_; rintro e w1 ⟨rfl, rfl⟩)
    go_ret
    exact ⟨ret_int (unhide HK).symm, (Below.refl _ _).alloc (Nat.le_refl _) _⟩
  by_cases h6 : N ≤ x
  · have HK := hide (unhide K4 (Or.inr (Or.inl h6)))
    clear K4 K0
    go_enter Tryd.func15, Tryd.ntmps15
    go_wp2_with (go_at_call 26; refine (isZoom_any _ _).mono ?_; rintro e w1 ⟨rfl, rfl⟩)
    go_ret
    exact ⟨ret_int (unhide HK).symm, (Below.refl _ _).alloc (Nat.le_refl _) _⟩
  by_cases h7 : y < 0
  · have HK := hide (unhide K4 (Or.inr (Or.inr (Or.inl h7))))
    clear K4 K0
    go_enter Tryd.func15, Tryd.ntmps15
    go_wp2_with (go_at_call 26; refine (isZoom_any _ _).mono ?_; rintro e w1 ⟨rfl, rfl⟩)
    go_ret
    exact ⟨ret_int (unhide HK).symm, (Below.refl _ _).alloc (Nat.le_refl _) _⟩
  by_cases h8 : N ≤ y
  · have HK := hide (unhide K4 (Or.inr (Or.inr (Or.inr h8))))
    clear K4 K0
    go_enter Tryd.func15, Tryd.ntmps15
    go_wp2_with (go_at_call 26; refine (isZoom_any _ _).mono ?_; rintro e w1 ⟨rfl, rfl⟩)
    go_ret
    exact ⟨ret_int (unhide HK).symm, (Below.refl _ _).alloc (Nat.le_refl _) _⟩
  have HK := hide (unhide K0 (by omega))
  clear K4 K0
  go_enter Tryd.func15, Tryd.ntmps15
  go_wp2_with (go_at_call 26; refine (isZoom_any _ _).mono ?_; rintro e w1 ⟨rfl, rfl⟩)
  go_ret
  exact ⟨ret_int (unhide HK).symm, (Below.refl _ _).alloc (Nat.le_refl _) _⟩
set_option maxHeartbeats 1600000 in
theorem refKeyError_any (l z x y : Int) (w : World) :
    Calls Tryd.prog 20 #[.agg #[.int .i64 l, .int .i64 z, .int .i64 x, .int .i64 y]] w fun e w' => e = .returned (.int .i64 (Pp.keyErr l z x y)) ∧ Below w.heap.size w w' := by
  by_cases h1 : l < 0
  · have HK := hide (keyErr_2 l z x y (Or.inl h1))
    go_enter Tryd.func20, Tryd.ntmps20
    go_wp2
    go_ret
    exact ⟨ret_int (unhide HK).symm, (Below.refl _ _).alloc (Nat.le_refl _) _⟩
  by_cases h2 : 3 < l
  · have HK := hide (keyErr_2 l z x y (Or.inr h2))
    go_enter Tryd.func20, Tryd.ntmps20
    go_wp2
    go_ret
    exact ⟨ret_int (unhide HK).symm, (Below.refl _ _).alloc (Nat.le_refl _) _⟩
  have hl : ¬ (l < 0 ∨ 3 < l) := by omega
  by_cases h3 : z < 0
  · have HK := hide (keyErr_3 l z x y hl (Or.inl h3))
    clear hl
    go_enter Tryd.func20, Tryd.ntmps20
    go_wp2
    go_ret
    exact ⟨ret_int (unhide HK).symm, (Below.refl _ _).alloc (Nat.le_refl _) _⟩
  by_cases h4 : 22 < z
  · have HK := hide (keyErr_3 l z x y hl (Or.inr h4))
    clear hl
    go_enter Tryd.func20, Tryd.ntmps20
    go_wp2
    go_ret
    exact ⟨ret_int (unhide HK).symm, (Below.refl _ _).alloc (Nat.le_refl _) _⟩
  have hz : ¬ (z < 0 ∨ 22 < z) := by omega
  have K4 := hide (keyErr_4 l z x y hl hz)
  have K0 := hide (keyErr_0 l z x y hl hz)
  obtain ⟨p1, p2⟩ := pow_cap z (by omega)
  clear hl hz
  by_cases h5 : x < 0
  · have HK := hide (unhide K4 (Or.inl h5))
    clear K4 K0
    go_enter Tryd.func20, Tryd.ntmps20
    go_wp2
    go_ret
    exact ⟨ret_int (unhide HK).symm, (Below.refl _ _).alloc (Nat.le_refl _) _⟩
  by_cases h7 : y < 0
  · have HK := hide (unhide K4 (Or.inr (Or.inr (Or.inl h7))))
    clear K4 K0
    go_enter Tryd.func20, Tryd.ntmps20
    go_wp2
    go_ret
    exact ⟨ret_int (unhide HK).symm, (Below.refl _ _).alloc (Nat.le_refl _) _⟩
  have qx := div_pos_iff x _ p1
  have qy := div_pos_iff y _ p1
  have QX := hide qx
  have QY := hide qy
  clear qx qy p1 p2
  by_cases h6 : 0 < x / (2 : Int) ^ z.toNat
  · have HK := hide (unhide K4 (Or.inr (Or.inl ((unhide QX).1 h6))))
    clear K4 K0
    go_enter Tryd.func20, Tryd.ntmps20
    go_wp2
    go_ret
    exact ⟨ret_int (unhide HK).symm, (Below.refl _ _).alloc (Nat.le_refl _) _⟩
  by_cases h8 : 0 < y / (2 : Int) ^ z.toNat
  · have HK := hide (unhide K4 (Or.inr (Or.inr (Or.inr ((unhide QY).1 h8)))))
    clear K4 K0
    go_enter Tryd.func20, Tryd.ntmps20
    go_wp2
    go_ret
    exact ⟨ret_int (unhide HK).symm, (Below.refl _ _).alloc (Nat.le_refl _) _⟩
  have n6 : ¬ (2 : Int) ^ z.toNat ≤ x := fun e => h6 ((unhide QX).2 e)
  have n8 : ¬ (2 : Int) ^ z.toNat ≤ y := fun e => h8 ((unhide QY).2 e)
  have HK := hide (unhide K0 (by omega))
  clear K4 K0 n6 n8
  go_enter Tryd.func20, Tryd.ntmps20
  go_wp2
  go_ret
  exact ⟨ret_int (unhide HK).symm, (Below.refl _ _).alloc (Nat.le_refl _) _⟩
end Go.Proofs.YtacjjjjbfjkohaaDoor
