/-
  THE LEAVES of the document's own answer: lone, value, Name, digits, parts.
-/
import Derived.Test.YtacjjjjbfjkohaaDoorLeafB
import Derived.Lib.ItoaNum
import Derived.Laws.IdiomStrings
namespace Go.Proofs.YtacjjjjbfjkohaaDoor
open Go.RowKit

def loneB (lo hi most : Nat) (l : List UInt8) : Bool := Pp.within lo hi l && decide (0 < l.length ∧ l.length ≤ most)
set_option maxHeartbeats 400000 in
theorem lone_any (s : ByteArray) (lo hi most : Nat) (lo' hi' most' : Int) (w : World) (hs : s.size ≤ maxLen) (e1 : (lo : Int) = lo') (e2 : (hi : Int) = hi') (e3 : (most : Int) = most') :
    Calls Tryd.prog 17 #[.string s, .int .u8 lo', .int .u8 hi', .int .i64 most'] w fun e w' => e = .returned (.bool (loneB lo hi most s.data.toList)) ∧ w = w' := by
  unfold maxLen at hs
  have g1 : (lo : Int) ≤ lo' := by omega
  have g2 : lo' ≤ (lo : Int) := by omega
  have g3 : (hi : Int) ≤ hi' := by omega
  have g4 : hi' ≤ (hi : Int) := by omega
  have g5 : (most : Int) ≤ most' := by omega
  have g6 : most' ≤ (most : Int) := by omega
  clear e1 e2 e3
  go_enter Tryd.func17, Tryd.ntmps17
  go_wp2
  go_loop [9] (fun i => ∃ k : Nat, k ≤ s.size ∧ i = .int .i64 k ∧ Hid (Pp.within lo hi (s.data.toList.take k) = true)) (fun i => s.size - (intOf i).toNat)
  case atStart => exact ⟨0, Nat.zero_le _, rfl, hide rfl⟩
  case round =>
    obtain ⟨k, hk, rfl, hall⟩ := hrel
    by_cases hlt : k < s.size
    · by_cases h1 : (s[k].toNat : Int) < lo'
      · go_wp2
        go_ret
        exact ⟨ret_bool (by unfold loneB; rw [within_false lo hi s k hlt (by omega)]; rfl), rfl⟩
      · by_cases h2 : hi' < (s[k].toNat : Int)
        · go_wp2
          go_ret
          exact ⟨ret_bool (by unfold loneB; rw [within_false lo hi s k hlt (by omega)]; rfl), rfl⟩
        · go_wp2
          go_round
          case rel => exact ⟨k + 1, by omega, by go_num, hide (within_snoc lo hi s k hlt (unhide hall) (by omega))⟩
          case measure => simp [intOf]; omega
    · have hw : Hid (Pp.within lo hi s.data.toList = true) := by
        have := unhide hall
        rw [List.take_of_length_le (by simp; omega)] at this
        exact this
      by_cases h0 : 0 < s.size
      · by_cases hm : (s.size : Int) ≤ most'
        · have hm' : s.size ≤ most := by omega
          go_wp2
          go_ret
          exact ⟨ret_bool (by unfold loneB; rw [unhide hw, len_size]; simp [h0, hm']), rfl⟩
        · have hm' : ¬ s.size ≤ most := by omega
          have d : decide ((s.size : Int) ≤ most') = false := by simp; omega
          go_wp2
          go_ret
          exact ⟨ret_bool (by unfold loneB; rw [unhide hw, len_size]; simp [hm']), rfl⟩
      · have d : decide ((0 : Int) < (s.size : Int)) = false := decide_eq_false (by omega)
        go_wp2
        go_ret
        exact ⟨ret_bool (by unfold loneB; rw [unhide hw, len_size]; simp [h0]), rfl⟩

theorem lone_name (l : List UInt8) : loneB 97 122 8 l = Pp.nameB l := by
  unfold loneB Pp.nameB
  rw [Bool.and_comm]
  congr 1
theorem lone_num (l : List UInt8) : Pp.numB l = (loneB 48 57 9 l && !(decide (1 < l.length) && (l.getD 0 0 == 48))) := by
  unfold loneB Pp.numB
  have e : decide (1 ≤ l.length ∧ l.length ≤ 9) = decide (0 < l.length ∧ l.length ≤ 9) := rfl
  rw [e]
  cases Pp.within 48 57 l <;> cases decide (0 < l.length ∧ l.length ≤ 9) <;> simp

/-- The value of a number as a path may hold it; -1: it is none. -/
def valR (l : List UInt8) : Int := if Pp.numB l = true then (Pp.valL l : Int) else -1
theorem valR_no (l : List UInt8) (h : Pp.numB l = false) : valR l = -1 := by unfold valR; rw [h]; rfl
theorem valR_yes (l : List UInt8) (h : Pp.numB l = true) : valR l = (Pp.valL l : Int) := by unfold valR; rw [if_pos h]
set_option maxHeartbeats 800000 in
theorem refValue_any (s : ByteArray) (w : World) (hs : s.size ≤ maxLen) :
    Calls Tryd.prog 18 #[.string s] w fun e w' => e = .returned (.int .i64 (valR s.data.toList)) ∧ w = w' := by
  have hs' := hs
  unfold maxLen at hs'
  cases hl : loneB 48 57 9 s.data.toList with
  | false =>
    have hn : Hid (Pp.numB s.data.toList = false) := by show Pp.numB _ = _; rw [lone_num, hl]; rfl
    have HL := hide hl
    clear hl
    go_enter Tryd.func18, Tryd.ntmps18
    go_wp2_with fail
    refine (lone_any s 48 57 9 _ _ _ _ hs rfl rfl rfl).mono ?_
    rintro e w' ⟨rfl, rfl⟩
    rw [unhide HL]
    go_wp2_with fail
    go_ret
    exact ⟨ret_int (valR_no _ (unhide hn)).symm, rfl⟩
  | true =>
    have hlen : 0 < s.size ∧ s.size ≤ 9 := by
      simp only [loneB, Bool.and_eq_true, decide_eq_true_eq, len_size] at hl
      exact hl.2
    have hwi : Pp.within 48 57 s.data.toList = true := by
      simp only [loneB, Bool.and_eq_true] at hl
      exact hl.1
    obtain ⟨hpos, h9⟩ := hlen
    have hh := hide (head_at s hpos)
    have hnum := hide (lone_num s.data.toList)
    have HL := hide hl
    have HW := hide hwi
    clear hl hwi
    by_cases hbad : 1 < s.size ∧ s[0] = 48
    · obtain ⟨hg, h0⟩ := hbad
      have hn : Hid (Pp.numB s.data.toList = false) := by
        show Pp.numB _ = _
        rw [unhide hnum, unhide HL, len_size, unhide hh]
        simp [hg, h0]
      have g0 : ((s[0].toNat : Int) == 48) = true := by rw [h0]; rfl
      clear h0
      go_enter Tryd.func18, Tryd.ntmps18
      go_wp2_with fail
      refine (lone_any s 48 57 9 _ _ _ _ hs rfl rfl rfl).mono ?_
      rintro e w' ⟨rfl, rfl⟩
      rw [unhide HL]
      go_wp2_with fail
      go_ret
      exact ⟨ret_int (valR_no _ (unhide hn)).symm, rfl⟩
    · have hn : Hid (Pp.numB s.data.toList = true) := by
        show Pp.numB _ = _
        rw [unhide hnum, unhide HL, len_size, unhide hh]
        by_cases hg : 1 < s.size
        · have h0 : ¬ s[0] = 48 := fun e => hbad ⟨hg, e⟩
          simp [h0]
        · simp [hg]
      by_cases hg : 1 < s.size
      · have h0 : ¬ s[0] = 48 := fun e => hbad ⟨hg, e⟩
        have g0 : ((s[0].toNat : Int) == 48) = false := by
          rw [beq_eq_false_iff_ne]
          intro h
          apply h0
          apply UInt8.toNat_inj.1
          have : (48 : UInt8).toNat = 48 := rfl
          omega
        clear h0 hbad
        go_enter Tryd.func18, Tryd.ntmps18
        go_wp2_with fail
        refine (lone_any s 48 57 9 _ _ _ _ hs rfl rfl rfl).mono ?_
        rintro e w' ⟨rfl, rfl⟩
        rw [unhide HL]
        go_wp2
        go_loop [4, 5] (fun n i => ∃ k : Nat, k ≤ s.size ∧ i = .int .i64 k ∧ n = .int .i64 (Pp.valL (s.data.toList.take k) : Int)) (fun _ i => s.size - (intOf i).toNat)
        case atStart => exact ⟨0, Nat.zero_le _, rfl, rfl⟩
        case round =>
          obtain ⟨k, hk, rfl, rfl⟩ := hrel
          have hcap := val_cap s k h9 (unhide HW)
          by_cases hlt : k < s.size
          · have hsn := hide (val_snoc s k hlt)
            obtain ⟨d1, d2⟩ := within_all 48 57 s (unhide HW) k hlt
            generalize Pp.valL (s.data.toList.take k) = V at hcap hsn
            go_wp2
            go_round
            case rel => exact ⟨k + 1, by omega, by go_num, by rw [unhide hsn]; go_num⟩
            case measure => simp [intOf]; omega
          · go_wp2
            go_ret
            exact ⟨ret_int (by rw [valR_yes _ (unhide hn), List.take_of_length_le (by simp; omega)]), rfl⟩
      · have g0 : decide ((1 : Int) < (s.size : Int)) = false := by simp; omega
        clear hbad
        go_enter Tryd.func18, Tryd.ntmps18
        go_wp2_with fail
        refine (lone_any s 48 57 9 _ _ _ _ hs rfl rfl rfl).mono ?_
        rintro e w' ⟨rfl, rfl⟩
        rw [unhide HL]
        go_wp2
        go_loop [4, 5] (fun n i => ∃ k : Nat, k ≤ s.size ∧ i = .int .i64 k ∧ n = .int .i64 (Pp.valL (s.data.toList.take k) : Int)) (fun _ i => s.size - (intOf i).toNat)
        case atStart => exact ⟨0, Nat.zero_le _, rfl, rfl⟩
        case round =>
          obtain ⟨k, hk, rfl, rfl⟩ := hrel
          have hcap := val_cap s k h9 (unhide HW)
          by_cases hlt : k < s.size
          · have hsn := hide (val_snoc s k hlt)
            obtain ⟨d1, d2⟩ := within_all 48 57 s (unhide HW) k hlt
            generalize Pp.valL (s.data.toList.take k) = V at hcap hsn
            go_wp2
            go_round
            case rel => exact ⟨k + 1, by omega, by go_num, by rw [unhide hsn]; go_num⟩
            case measure => simp [intOf]; omega
          · go_wp2
            go_ret
            exact ⟨ret_int (by rw [valR_yes _ (unhide hn), List.take_of_length_le (by simp; omega)]), rfl⟩

set_option maxHeartbeats 800000 in
theorem name_any (i : Nat) (hi : i < 4) (w : World) :
    Calls Tryd.prog 19 #[.int .i64 i] w fun e w' => e = .returned (.string ⟨(Pp.names i).toArray⟩) ∧ Below w.heap.size w w' := by
  match i, hi with
  | 0, _ =>
    go_enter Tryd.func19, Tryd.ntmps19
    go_wp2
    go_ret
    exact ⟨rfl, (Below.refl _ _).alloc (Nat.le_refl _) _⟩
  | 1, _ =>
    go_enter Tryd.func19, Tryd.ntmps19
    go_wp2
    go_ret
    exact ⟨rfl, (Below.refl _ _).alloc (Nat.le_refl _) _⟩
  | 2, _ =>
    go_enter Tryd.func19, Tryd.ntmps19
    go_wp2
    go_ret
    exact ⟨rfl, (Below.refl _ _).alloc (Nat.le_refl _) _⟩
  | 3, _ =>
    go_enter Tryd.func19, Tryd.ntmps19
    go_wp2
    go_ret
    exact ⟨rfl, (Below.refl _ _).alloc (Nat.le_refl _) _⟩
end Go.Proofs.YtacjjjjbfjkohaaDoor
