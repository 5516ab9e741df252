/-
  THE LEAVES: what the small functions answer.
-/
import Derived.Test.YtdpabfggajjapaaRows
import Derived.Test.YtdpabfggajjapaaParts
import Derived.WalkKit
import Derived.WalkSpells
import Derived.WalkLawsBesides
import Derived.Deep.QuietTactic
import Derived.BigQuiet
namespace Go.Proofs.Ytdpabfggajjapaa
open Go.RowKit

theorem hide {p : Prop} (h : p) : Hid p := h
theorem unhide {p : Prop} (h : Hid p) : p := h
theorem ret_bool {a b : Bool} (h : a = b) : Ending.returned (.bool a) = .returned (.bool b) := by rw [h]
theorem ret_int {k : IntKind} {a b : Int} (h : a = b) : Ending.returned (.int k a) = .returned (.int k b) := by rw [h]
theorem take_snoc (s : ByteArray) (k : Nat) (h : k < s.size) : s.data.toList.take (k + 1) = s.data.toList.take k ++ [s[k]] := by
  rw [List.take_succ_eq_append_getElem (by simpa using h)]; rfl

def within (lo hi : Int) (l : List UInt8) : Bool := l.all fun c => decide (lo ≤ (c.toNat : Int) ∧ (c.toNat : Int) ≤ hi)
theorem within_false (lo hi : Int) (s : ByteArray) (k : Nat) (h : k < s.size) (hb : ¬ (lo ≤ (s[k].toNat : Int) ∧ (s[k].toNat : Int) ≤ hi)) : within lo hi s.data.toList = false := by
  rw [Bool.eq_false_iff]
  intro ht
  simp only [within, List.all_eq_true, decide_eq_true_eq] at ht
  exact hb (ht s[k] (Array.mem_toList_iff.2 (Array.getElem_mem _)))
theorem within_snoc (lo hi : Int) (s : ByteArray) (k : Nat) (h : k < s.size) (h0 : within lo hi (s.data.toList.take k) = true) (hb : lo ≤ (s[k].toNat : Int) ∧ (s[k].toNat : Int) ≤ hi) : within lo hi (s.data.toList.take (k + 1)) = true := by
  rw [take_snoc s k h]
  unfold within at h0 ⊢
  rw [List.all_append, h0]
  simp [hb]

set_option maxHeartbeats 400000 in
theorem allWithin_any (s : ByteArray) (lo hi : Int) (w : World) (hs : s.size ≤ maxLen) :
    Calls Try.prog 20 #[.string s, .int .u8 lo, .int .u8 hi] w fun e w' => e = .returned (.bool (within lo hi s.data.toList)) ∧ w = w' := by
  unfold maxLen at hs
  go_enter Try.func20, Try.ntmps20
  go_wp2
  go_loop [7] (fun i => ∃ k : Nat, k ≤ s.size ∧ i = .int .i64 k ∧ Hid (within lo hi (s.data.toList.take k) = true)) (fun i => s.size - (intOf i).toNat)
  case atStart => exact ⟨0, Nat.zero_le _, rfl, hide rfl⟩
  case round =>
    obtain ⟨k, hk, rfl, hall⟩ := hrel
    by_cases hlt : k < s.size
    · by_cases h1 : (s[k].toNat : Int) < lo
      · go_wp2
        go_ret
        exact ⟨ret_bool (within_false lo hi s k hlt (by omega)).symm, rfl⟩
      · by_cases h2 : hi < (s[k].toNat : Int)
        · go_wp2
          go_ret
          exact ⟨ret_bool (within_false lo hi s k hlt (by omega)).symm, rfl⟩
        · go_wp2
          go_round
          case rel => exact ⟨k + 1, by omega, by go_num, hide (within_snoc lo hi s k hlt (unhide hall) (by omega))⟩
          case measure => simp [intOf]; omega
    · go_wp2
      go_ret
      refine ⟨ret_bool ?_, rfl⟩
      have := unhide hall
      rw [List.take_of_length_le (by simp; omega)] at this
      exact this.symm

theorem within_pic (l : List UInt8) (hl : l.length = 64) : within 0 15 l = Pt.okPic l := by
  rw [Bool.eq_iff_iff, Pt.okPic_iff]
  simp only [within, List.all_eq_true, decide_eq_true_eq]
  exact ⟨fun h => ⟨hl, fun c hc => by have := h c hc; omega⟩, fun h c hc => by have := h.2 c hc; omega⟩
theorem notpic (s : ByteArray) (h : s.size ≠ 64) : Pt.okPic s.data.toList = false := by
  rw [Bool.eq_false_iff, ne_eq, Pt.okPic_iff]
  simp
  intro h'; exact absurd h' h

set_option maxHeartbeats 400000 in
theorem isPicture_any (s : ByteArray) (w : World) (hs : s.size ≤ maxLen) :
    Calls Try.prog 14 #[.string s] w fun e w' => e = .returned (.bool (Pt.okPic s.data.toList)) ∧ w = w' := by
  by_cases h : s.size = 64
  · have hb : ((s.size : Int) == 64) = true := by simp; omega
    have hp' : Hid (within 0 15 s.data.toList = Pt.okPic s.data.toList) := within_pic _ (by simpa using h)
    clear h
    go_enter Try.func14, Try.ntmps14
    go_wp2_with (go_at_call 20; refine (allWithin_any s 0 15 _ hs).mono ?_; rintro e w' ⟨rfl, rfl⟩)
    go_ret
    exact ⟨ret_bool (unhide hp'), rfl⟩
  · have hb : ((s.size : Int) == 64) = false := by simp; omega
    go_enter Try.func14, Try.ntmps14
    go_wp2_with fail
    go_ret
    exact ⟨ret_bool (notpic s h).symm, rfl⟩
end Go.Proofs.Ytdpabfggajjapaa
