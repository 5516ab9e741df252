/-
  THE LEAVES: what the small functions on paths answer.
-/
import Derived.Test.YtacjjjjbfjkohaaDoorRows
import Derived.Test.YtacjjjjbfjkohaaDoorParts
import Derived.WalkKit
import Derived.WalkSpells
import Derived.WalkLawsBesides
import Derived.Deep.QuietTactic
import Derived.BigQuiet
import Derived.Lib.Strings
namespace Go.Proofs.YtacjjjjbfjkohaaDoor
open Go.RowKit

theorem hide {p : Prop} (h : p) : Hid p := h
theorem unhide {p : Prop} (h : Hid p) : p := h
theorem ret_bool {a b : Bool} (h : a = b) : Ending.returned (.bool a) = .returned (.bool b) := by rw [h]
theorem ret_int {k : IntKind} {a b : Int} (h : a = b) : Ending.returned (.int k a) = .returned (.int k b) := by rw [h]
theorem ret_str {a b : List UInt8} (h : a = b) : Ending.returned (.string ⟨a.toArray⟩) = .returned (.string ⟨b.toArray⟩) := by rw [h]
theorem take_snoc (s : ByteArray) (k : Nat) (h : k < s.size) : s.data.toList.take (k + 1) = s.data.toList.take k ++ [s[k]] := by
  rw [List.take_succ_eq_append_getElem (by simpa using h)]; rfl
theorem drop_cons (s : ByteArray) (k : Nat) (h : k < s.size) : s.data.toList.drop k = s[k] :: s.data.toList.drop (k + 1) := by
  rw [List.drop_eq_getElem_cons (by simpa using h)]; rfl
theorem i64_in (x : Int) (h1 : -9223372036854775808 ≤ x) (h2 : x ≤ 9223372036854775807) : IntKind.i64.wrap x = x := by rw [IntKind.wrap_i64]; omega
theorem dd (w : World) (q n : Nat) : ∃ k, (w.drewN q).drewN n = w.drewN k := ⟨_, World.drewN_drewN _ _ _⟩

theorem within_false (lo hi : Nat) (s : ByteArray) (k : Nat) (h : k < s.size) (hb : ¬ (lo ≤ s[k].toNat ∧ s[k].toNat ≤ hi)) : Pp.within lo hi s.data.toList = false := by
  rw [Bool.eq_false_iff]
  intro ht
  simp only [Pp.within, List.all_eq_true, decide_eq_true_eq] at ht
  exact hb (ht s[k] (Array.mem_toList_iff.2 (Array.getElem_mem _)))
theorem within_snoc (lo hi : Nat) (s : ByteArray) (k : Nat) (h : k < s.size) (h0 : Pp.within lo hi (s.data.toList.take k) = true) (hb : lo ≤ s[k].toNat ∧ s[k].toNat ≤ hi) : Pp.within lo hi (s.data.toList.take (k + 1)) = true := by
  rw [take_snoc s k h]
  unfold Pp.within at h0 ⊢
  rw [List.all_append, h0]
  simp [hb]
theorem within_all (lo hi : Nat) (s : ByteArray) (h : Pp.within lo hi s.data.toList = true) (k : Nat) (hk : k < s.size) : lo ≤ s[k].toNat ∧ s[k].toNat ≤ hi := by
  simp only [Pp.within, List.all_eq_true, decide_eq_true_eq] at h
  exact h s[k] (Array.mem_toList_iff.2 (Array.getElem_mem _))

set_option maxHeartbeats 400000 in
theorem allWithin_any (s : ByteArray) (lo hi : Nat) (lo' hi' : Int) (w : World) (hs : s.size ≤ maxLen) (e1 : (lo : Int) = lo') (e2 : (hi : Int) = hi') :
    Calls Tryd.prog 28 #[.string s, .int .u8 lo', .int .u8 hi'] w fun e w' => e = .returned (.bool (Pp.within lo hi s.data.toList)) ∧ w = w' := by
  unfold maxLen at hs
  have g1 : (lo : Int) ≤ lo' := by omega
  have g2 : lo' ≤ (lo : Int) := by omega
  have g3 : (hi : Int) ≤ hi' := by omega
  have g4 : hi' ≤ (hi : Int) := by omega
  clear e1 e2
  go_enter Tryd.func28, Tryd.ntmps28
  go_wp2
  go_loop [7] (fun i => ∃ k : Nat, k ≤ s.size ∧ i = .int .i64 k ∧ Hid (Pp.within lo hi (s.data.toList.take k) = true)) (fun i => s.size - (intOf i).toNat)
  case atStart => exact ⟨0, Nat.zero_le _, rfl, hide rfl⟩
  case round =>
    obtain ⟨k, hk, rfl, hall⟩ := hrel
    by_cases hlt : k < s.size
    · by_cases h1 : (s[k].toNat : Int) < lo'
      · go_wp2
        go_ret
        exact ⟨ret_bool (within_false lo hi s k hlt (by omega)).symm, rfl⟩
      · by_cases h2 : hi' < (s[k].toNat : Int)
        · go_wp2
          go_ret
          exact ⟨ret_bool (within_false lo hi s k hlt (by omega)).symm, rfl⟩
        · go_wp2
          go_round
          case rel => exact ⟨k + 1, by omega, by go_num, hide (within_snoc lo hi s k hlt (unhide hall) (by omega))⟩
          case measure => simp [intOf]; omega
    · go_wp2
      go_ret
      refine ⟨ret_bool ?_, rfl⟩
      have := unhide hall
      rw [List.take_of_length_le (by simp; omega)] at this
      exact this.symm

theorem len_size (s : ByteArray) : s.data.toList.length = s.size := by simp
set_option maxHeartbeats 400000 in
theorem isName_any (s : ByteArray) (w : World) (hs : s.size ≤ maxLen) :
    Calls Tryd.prog 24 #[.string s] w fun e w' => e = .returned (.bool (Pp.nameB s.data.toList)) ∧ w = w' := by
  have hs' := hs
  unfold maxLen at hs'
  by_cases h1 : 1 ≤ s.size
  · by_cases h8 : s.size ≤ 8
    · have hn : Hid (Pp.nameB s.data.toList = Pp.within 97 122 s.data.toList) := by
        show Pp.nameB s.data.toList = _
        unfold Pp.nameB; rw [len_size]; simp [h1, h8]
      have g1 : (1 : Int) ≤ (s.size : Int) := by omega
      have g2 : (s.size : Int) ≤ 8 := by omega
      go_enter Tryd.func24, Tryd.ntmps24
      go_wp2_with (go_at_call 28; refine (allWithin_any s 97 122 _ _ _ hs rfl rfl).mono ?_; rintro e w' ⟨rfl, rfl⟩)
      go_ret
      exact ⟨ret_bool (unhide hn).symm, rfl⟩
    · have hn : Hid (Pp.nameB s.data.toList = false) := by
        show Pp.nameB s.data.toList = _
        unfold Pp.nameB; rw [len_size]; simp [h8]
      have g1 : decide ((s.size : Int) ≤ 8) = false := by simp; omega
      go_enter Tryd.func24, Tryd.ntmps24
      go_wp2_with fail
      go_ret
      exact ⟨ret_bool (unhide hn).symm, rfl⟩
  · have hn : Hid (Pp.nameB s.data.toList = false) := by
      show Pp.nameB s.data.toList = _
      unfold Pp.nameB; rw [len_size]; simp [h1]
    have g1 : decide ((1 : Int) ≤ (s.size : Int)) = false := by simp; omega
    go_enter Tryd.func24, Tryd.ntmps24
    go_wp2_with fail
    go_ret
    exact ⟨ret_bool (unhide hn).symm, rfl⟩

theorem head_at (s : ByteArray) (h : 0 < s.size) : s.data.toList.getD 0 0 = s[0] := by
  rw [List.getD_eq_getElem?_getD, List.getElem?_eq_getElem (by simpa using h)]; rfl
set_option maxHeartbeats 400000 in
theorem isNumber_any (s : ByteArray) (w : World) (hs : s.size ≤ maxLen) :
    Calls Tryd.prog 25 #[.string s] w fun e w' => e = .returned (.bool (Pp.numB s.data.toList)) ∧ w = w' := by
  have hs' := hs
  unfold maxLen at hs'
  by_cases h1 : s.size < 1
  · have hn : Hid (Pp.numB s.data.toList = false) := by
      show Pp.numB s.data.toList = _
      have : ¬ 1 ≤ s.size := by omega
      unfold Pp.numB; rw [len_size]; simp [this]
    go_enter Tryd.func25, Tryd.ntmps25
    go_wp2_with fail
    go_ret
    exact ⟨ret_bool (unhide hn).symm, rfl⟩
  by_cases h9 : 9 < s.size
  · have hn : Hid (Pp.numB s.data.toList = false) := by
      show Pp.numB s.data.toList = _
      have : ¬ s.size ≤ 9 := by omega
      unfold Pp.numB; rw [len_size]; simp [this]
    go_enter Tryd.func25, Tryd.ntmps25
    go_wp2_with fail
    go_ret
    exact ⟨ret_bool (unhide hn).symm, rfl⟩
  have hpos : 0 < s.size := by omega
  have hh := hide (head_at s hpos)
  by_cases hg : 1 < s.size
  · by_cases h0 : s[0] = 48
    · have hn : Hid (Pp.numB s.data.toList = false) := by
        show Pp.numB s.data.toList = _
        unfold Pp.numB; rw [len_size, unhide hh]; simp [hg, h0]
      have g0 : ((s[0].toNat : Int) == 48) = true := by rw [h0]; rfl
      clear h0
      go_enter Tryd.func25, Tryd.ntmps25
      go_wp2_with fail
      go_ret
      exact ⟨ret_bool (unhide hn).symm, rfl⟩
    · have hn : Hid (Pp.numB s.data.toList = Pp.within 48 57 s.data.toList) := by
        show Pp.numB s.data.toList = _
        have a1 : 1 ≤ s.size := by omega
        have a2 : s.size ≤ 9 := by omega
        unfold Pp.numB; rw [len_size, unhide hh]; simp [a1, a2, h0]
      have g0 : ((s[0].toNat : Int) == 48) = false := by
        rw [beq_eq_false_iff_ne]
        intro h
        apply h0
        apply UInt8.toNat_inj.1
        have : (48 : UInt8).toNat = 48 := rfl
        omega
      clear h0
      go_enter Tryd.func25, Tryd.ntmps25
      go_wp2_with (go_at_call 28; refine (allWithin_any s 48 57 _ _ _ hs rfl rfl).mono ?_; rintro e w' ⟨rfl, rfl⟩)
      go_ret
      exact ⟨ret_bool (unhide hn).symm, rfl⟩
  · have hn : Hid (Pp.numB s.data.toList = Pp.within 48 57 s.data.toList) := by
      show Pp.numB s.data.toList = _
      have a1 : 1 ≤ s.size := by omega
      have a2 : s.size ≤ 9 := by omega
      unfold Pp.numB; rw [len_size]; simp [a1, a2, hg]
    have g0 : decide ((1 : Int) < (s.size : Int)) = false := by simp; omega
    go_enter Tryd.func25, Tryd.ntmps25
    go_wp2_with (go_at_call 28; refine (allWithin_any s 48 57 _ _ _ hs rfl rfl).mono ?_; rintro e w' ⟨rfl, rfl⟩)
    go_ret
    exact ⟨ret_bool (unhide hn).symm, rfl⟩

theorem cut_lo (S : ByteArray) (i : Nat) : (S.extract 0 i).data.toList = S.data.toList.take i := by rw [Lib.extract_data]; simp
theorem cut_hi (S : ByteArray) (i : Nat) : (S.extract i S.size).data.toList = S.data.toList.drop i := by rw [Lib.extract_data, List.take_of_length_le (by simp)]
theorem cut_at (s : ByteArray) (m : UInt8) (k : Nat) (h : k < s.size) (hk : s[k] = m) (h0 : m ∉ s.data.toList.take k) : Pp.cutL m s.data.toList = (s.data.toList.take k, s.data.toList.drop (k + 1)) := by
  have e : s.data.toList = s.data.toList.take k ++ m :: s.data.toList.drop (k + 1) := by
    rw [← hk, ← drop_cons s k h, List.take_append_drop]
  have := Pp.cutL_found m (s.data.toList.drop (k + 1)) (s.data.toList.take k) h0
  rw [← e] at this
  exact this
theorem not_snoc (s : ByteArray) (m : UInt8) (k : Nat) (h : k < s.size) (hk : ¬ s[k] = m) (h0 : m ∉ s.data.toList.take k) : m ∉ s.data.toList.take (k + 1) := by
  rw [take_snoc s k h]
  intro hm
  rcases List.mem_append.1 hm with hm | hm
  · exact h0 hm
  · exact hk (List.mem_singleton.1 hm).symm

set_option maxHeartbeats 400000 in
theorem cut_any (s : ByteArray) (m : UInt8) (m' : Int) (w : World) (hs : s.size ≤ maxLen) (em : (m.toNat : Int) = m') :
    Calls Tryd.prog 23 #[.string s, .int .u8 m'] w fun e w' => ∃ A R : ByteArray, e = .returned (.tuple #[.string A, .string R]) ∧ A.data.toList = (Pp.cutL m s.data.toList).1 ∧ R.data.toList = (Pp.cutL m s.data.toList).2 ∧ A.size ≤ s.size ∧ R.size ≤ s.size ∧ ∃ q, w' = w.drewN q := by
  unfold maxLen at hs
  have g1 : (m.toNat : Int) ≤ m' := by omega
  have g2 : m' ≤ (m.toNat : Int) := by omega
  clear em
  go_enter Tryd.func23, Tryd.ntmps23
  go_wp2
  go_loop [6] (fun i => ∃ k : Nat, k ≤ s.size ∧ i = .int .i64 k ∧ Hid (m ∉ s.data.toList.take k)) (fun i => s.size - (intOf i).toNat)
  case atStart => exact ⟨0, Nat.zero_le _, rfl, hide (by simp)⟩
  case round =>
    obtain ⟨k, hk, rfl, hno⟩ := hrel
    by_cases hlt : k < s.size
    · by_cases he : s[k] = m
      · have hb : ((s[k].toNat : Int) == m') = true := by rw [he]; simp; omega
        have hc := hide (cut_at s m k hlt he (unhide hno))
        have hk1 : k ≤ s.size := by omega
        have hk2 : k + 1 ≤ s.size := by omega
        clear he hno
        go_wp2_with fail
        go_region
        all_goals
          go_wp2
          go_ret2
          exact ⟨_, _, rfl, by rw [unhide hc, cut_lo], by rw [unhide hc, cut_hi], by simp; omega, by simp, 1, rfl⟩
      · have hb : ((s[k].toNat : Int) == m') = false := by
          rw [beq_eq_false_iff_ne]
          intro h
          exact he (UInt8.toNat_inj.1 (by omega))
        have hn := hide (not_snoc s m k hlt he (unhide hno))
        clear he
        go_wp2
        go_round
        case rel => exact ⟨k + 1, by omega, by go_num, hn⟩
        case measure => simp [intOf]; omega
    · have hc : Hid (Pp.cutL m s.data.toList = (s.data.toList, [])) := by
        have := unhide hno
        rw [List.take_of_length_le (by simp; omega)] at this
        exact Pp.cutL_none m _ this
      go_wp2
      go_ret2
      exact ⟨_, _, rfl, by rw [unhide hc], by rw [unhide hc], Nat.le_refl _, Nat.zero_le _, 0, rfl⟩

theorem val_snoc (s : ByteArray) (k : Nat) (h : k < s.size) : Pp.valL (s.data.toList.take (k + 1)) = 10 * Pp.valL (s.data.toList.take k) + (s[k].toNat - 48) := by
  rw [take_snoc s k h, Pp.valL_snoc]
theorem within_take (lo hi : Nat) (l : List UInt8) (k : Nat) (h : Pp.within lo hi l = true) : Pp.within lo hi (l.take k) = true := by
  simp only [Pp.within, List.all_eq_true] at h ⊢
  exact fun c hc => h c (List.mem_of_mem_take hc)
theorem val_cap (s : ByteArray) (k : Nat) (h9 : s.size ≤ 9) (h : Pp.within 48 57 s.data.toList = true) : Pp.valL (s.data.toList.take k) < 1000000000 := by
  have h1 := Pp.valL_lt _ (within_take 48 57 _ k h)
  have h2 : (s.data.toList.take k).length ≤ 9 := by simp; omega
  have h3 : 10 ^ (s.data.toList.take k).length ≤ 10 ^ 9 := Nat.pow_le_pow_right (by decide) h2
  omega
set_option maxHeartbeats 400000 in
theorem value_any (s : ByteArray) (w : World) (h9 : s.size ≤ 9) (hw : Pp.within 48 57 s.data.toList = true) :
    Calls Tryd.prog 14 #[.string s] w fun e w' => e = .returned (.int .i64 (Pp.valL s.data.toList : Int)) ∧ w = w' := by
  have HW := hide hw
  clear hw
  go_enter Tryd.func14, Tryd.ntmps14
  go_wp2
  go_loop [3, 4] (fun n i => ∃ k : Nat, k ≤ s.size ∧ i = .int .i64 k ∧ n = .int .i64 (Pp.valL (s.data.toList.take k) : Int)) (fun _ i => s.size - (intOf i).toNat)
  case atStart => exact ⟨0, Nat.zero_le _, rfl, rfl⟩
  case round =>
    obtain ⟨k, hk, rfl, rfl⟩ := hrel
    have hcap := val_cap s k h9 (unhide HW)
    by_cases hlt : k < s.size
    · have hsn := hide (val_snoc s k hlt)
      obtain ⟨d1, d2⟩ := within_all 48 57 s (unhide HW) k hlt
      generalize Pp.valL (s.data.toList.take k) = V at hcap hsn
      go_wp2
      go_round
      case rel => exact ⟨k + 1, by omega, by go_num, by rw [unhide hsn]; go_num⟩
      case measure => simp [intOf]; omega
    · go_wp2
      go_ret
      exact ⟨ret_int (by rw [List.take_of_length_le (by simp; omega)]), rfl⟩
end Go.Proofs.YtacjjjjbfjkohaaDoor
