/-
  atlasref.Picture, atlasref.stretch: what they answer.
-/
import Derived.Test.YtdpabfggajjapaaUnpack
namespace Go.Proofs.Ytdpabfggajjapaa
open Go.RowKit

set_option maxHeartbeats 400000 in
theorem refPicture_any (s : ByteArray) (w : World) (hs : s.size ≤ maxLen) :
    Calls Try.prog 18 #[.string s] w fun e w' => e = .returned (.bool (Pt.okPic s.data.toList)) ∧ w = w' := by
  unfold maxLen at hs
  go_enter Try.func18, Try.ntmps18
  go_wp2
  go_loop [3] (fun i => ∃ k : Nat, k ≤ s.size ∧ i = .int .i64 k ∧ Hid (within 0 15 (s.data.toList.take k) = true)) (fun i => s.size - (intOf i).toNat)
  case atStart => exact ⟨0, Nat.zero_le _, rfl, hide rfl⟩
  case round =>
    obtain ⟨k, hk, rfl, hall⟩ := hrel
    by_cases hlt : k < s.size
    · by_cases h2 : 15 < (s[k].toNat : Int)
      · go_wp2
        go_ret
        refine ⟨ret_bool ?_, rfl⟩
        have hf := within_false 0 15 s k hlt (by omega)
        by_cases h64 : s.size = 64
        · rw [← within_pic _ (by simpa using h64)]; exact hf.symm
        · exact (notpic s h64).symm
      · go_wp2
        go_round
        case rel => exact ⟨k + 1, by omega, by go_num, hide (within_snoc 0 15 s k hlt (unhide hall) (by omega))⟩
        case measure => simp [intOf]; omega
    · by_cases h64 : s.size = 64
      · have hb : ((s.size : Int) == 64) = true := by simp; omega
        have H64 := hide h64
        clear h64
        go_wp2
        go_ret
        refine ⟨ret_bool ?_, rfl⟩
        have := unhide hall
        rw [List.take_of_length_le (by simp; omega)] at this
        rw [← within_pic _ (by simpa using unhide H64), this]
      · have hb : ((s.size : Int) == 64) = false := by simp; omega
        go_wp2
        go_ret
        exact ⟨ret_bool (notpic s h64).symm, rfl⟩

/-- How many pixels ahead of pixel k are of its ink, without another between. -/
def back (l : List UInt8) : Nat → Nat
  | 0 => 0
  | k + 1 => if l[k + 1]? = l[k]? then back l k + 1 else 0
theorem back_le (l : List UInt8) : ∀ k, back l k ≤ k
  | 0 => Nat.le_refl _
  | k + 1 => by have := back_le l k; unfold back; split <;> omega
theorem get_at (s : ByteArray) (k : Nat) (h : k < s.size) : s.data.toList[k]? = some s[k] := by
  rw [List.getElem?_eq_getElem (by simpa using h)]; rfl

/-- At the head of the first loop's round. -/
def BackSo (s : ByteArray) (i f : Nat) : Prop := s.data.toList[f]? = s.data.toList[i]? ∧ back s.data.toList i = (i - f) + back s.data.toList f
theorem backSo_start (s : ByteArray) (i : Nat) : BackSo s i i := ⟨rfl, by omega⟩
theorem backSo_step (s : ByteArray) (i g : Nat) (hg : g + 1 ≤ i) (hi : i < s.size) (he : s[g] = s[i]) (h : BackSo s i (g + 1)) : BackSo s i g := by
  obtain ⟨h1, h2⟩ := h
  have h3 : s.data.toList[g]? = s.data.toList[i]? := by rw [get_at s g (by omega), get_at s i hi, he]
  refine ⟨h3, ?_⟩
  rw [h2, back, if_pos (h1.trans h3.symm)]
  omega
theorem backSo_end0 (s : ByteArray) (i : Nat) (h : BackSo s i 0) : back s.data.toList i = i := by
  rw [h.2]; simp [back]
theorem backSo_end (s : ByteArray) (i g : Nat) (hg : g + 1 ≤ i) (hi : i < s.size) (he : ¬ s[g] = s[i]) (h : BackSo s i (g + 1)) : back s.data.toList i = i - (g + 1) := by
  obtain ⟨h1, h2⟩ := h
  have h3 : ¬ s.data.toList[g + 1]? = s.data.toList[g]? := by
    rw [h1, get_at s g (by omega), get_at s i hi]
    intro h4
    exact he (Option.some.inj h4).symm
  rw [h2, back, if_neg h3]
  omega

theorem back_out (s : ByteArray) (i f : Nat) (hf : f ≤ i) (hi : i < s.size) (hx : ¬ ∃ _ : 0 < f, s[f - 1]'(by omega) = s[i]) (h : BackSo s i f) : back s.data.toList i = i - f := by
  by_cases h0 : f = 0
  · subst h0; exact backSo_end0 s i h
  · obtain ⟨g, rfl⟩ : ∃ g, f = g + 1 := ⟨f - 1, by omega⟩
    refine backSo_end s i g hf hi ?_ h
    intro he
    exact hx ⟨by omega, by simpa using he⟩

/-- At the head of the second loop's round: n pixels behind pixel i are of the ink. -/
def FwdSo (s : ByteArray) (i : Nat) (c : UInt8) (n : Nat) : Prop := Pt.lead c 64 (s.data.toList.drop (i + 1)) = n + Pt.lead c (64 - n) (s.data.toList.drop (i + 1 + n))
theorem fwdSo_start (s : ByteArray) (i : Nat) (c : UInt8) : FwdSo s i c 0 := by unfold FwdSo; simp
theorem fwdSo_more (s : ByteArray) (i : Nat) (c : UInt8) (n : Nat) (hn : n < 64) (hk : i + 1 + n < s.size) (hc : s[i + 1 + n] = c) (h : FwdSo s i c n) : FwdSo s i c (n + 1) := by
  unfold FwdSo at h ⊢
  rw [h, drop_cons s (i + 1 + n) hk, show 64 - n = (64 - (n + 1)) + 1 from by omega]
  simp only [Pt.lead, hc, if_true]
  rw [show i + 1 + n + 1 = i + 1 + (n + 1) from by omega]
  omega
theorem fwdSo_endS (s : ByteArray) (i : Nat) (c : UInt8) (n : Nat) (hn : n < 64) (hk : ¬ i + 1 + n < s.size) (h : FwdSo s i c n) : Pt.lead c 64 (s.data.toList.drop (i + 1)) = n := by
  unfold FwdSo at h
  rw [List.drop_of_length_le (l := s.data.toList) (i := i + 1 + n) (by simp; omega), show 64 - n = (63 - n) + 1 from by omega] at h
  simpa [Pt.lead] using h
theorem fwdSo_endC (s : ByteArray) (i : Nat) (c : UInt8) (n : Nat) (hn : n < 64) (hk : i + 1 + n < s.size) (hc : ¬ s[i + 1 + n] = c) (h : FwdSo s i c n) : Pt.lead c 64 (s.data.toList.drop (i + 1)) = n := by
  unfold FwdSo at h
  rw [drop_cons s (i + 1 + n) hk, show 64 - n = (63 - n) + 1 from by omega] at h
  simpa [Pt.lead, hc] using h

set_option maxHeartbeats 800000 in
theorem stretch_any (s : ByteArray) (i : Nat) (w : World) (hs : s.size ≤ 64) (hi : i < s.size) :
    Calls Try.prog 19 #[.string s, .int .i64 i] w fun e w' => e = .returned (.tuple #[.int .i64 ((i : Int) - (back s.data.toList i : Int)), .int .i64 ((i : Int) + 1 + (Pt.lead s[i] 64 (s.data.toList.drop (i + 1)) : Int))]) ∧ ∃ q, w' = w.drewN q := by
  obtain ⟨c, hc⟩ : ∃ c, c = s[i] := ⟨_, rfl⟩
  rw [← hc]
  have HC := hide hc
  clear hc
  have hi' : (i : Int) < (s.size : Int) := by omega
  go_enter Try.func19, Try.ntmps19
  go_wp2
  go_loopw [6] (fun v wr => ∃ f : Nat, f ≤ i ∧ v = .int .i64 f ∧ Hid (BackSo s i f) ∧ ∃ q, wr = w.drewN q) (fun v _ => (intOf v).toNat)
  case atStart => exact ⟨i, Nat.le_refl _, rfl, backSo_start s i, 0, rfl⟩
  case round =>
    obtain ⟨f, hf, rfl, hB, q, rfl⟩ := hrel
    by_cases hx : ∃ h : 0 < f, s[f - 1]'(by omega) = s[i]
    · obtain ⟨hf0, he⟩ := hx
      obtain ⟨g, rfl⟩ : ∃ g, f = g + 1 := ⟨f - 1, by omega⟩
      simp only [Nat.add_sub_cancel] at he
      have hgs : g < s.size := by omega
      have hp : (0 : Int) < ((g + 1 : Nat) : Int) := by omega
      have hb : ((s[g].toNat : Int) == (s[i].toNat : Int)) = true := by rw [he]; simp
      have hB' := hide (backSo_step s i g hf hi he (unhide hB))
      clear he hB
      go_wp2_with fail
      go_quiet (fail)
      go_wp2
      go_roundw
      case rel => exact ⟨g, by omega, by go_num, hB', _, rfl⟩
      case measure => simp [intOf]
    · have hE := hide (back_out s i f hf hi hx (unhide hB))
      have hbl := back_le s.data.toList i
      clear hB
      by_cases hf0 : 0 < f
      · obtain ⟨g, rfl⟩ : ∃ g, f = g + 1 := ⟨f - 1, by omega⟩
        have hgs : g < s.size := by omega
        have hne : ¬ s[g] = s[i] := fun h => hx ⟨hf0, by simpa using h⟩
        have hp : (0 : Int) < ((g + 1 : Nat) : Int) := by omega
        have hb : ((s[g].toNat : Int) == (s[i].toNat : Int)) = false := by
          rw [beq_eq_false_iff_ne]
          intro h
          exact hne (UInt8.toNat_inj.1 (by omega))
        clear hne hx
        go_wp2_with fail
        go_quiet (fail)
        clear hb hp
        go_wp2
        go_loopw [7] (fun v wr => ∃ n : Nat, i + 1 + n ≤ s.size ∧ v = .int .i64 ((i : Int) + 1 + (n : Int)) ∧ Hid (FwdSo s i c n) ∧ ∃ q, wr = w.drewN q) (fun v _ => s.size - (intOf v).toNat)
        case atStart => exact ⟨0, by omega, by simp, fwdSo_start s i c, (by first | exact ⟨_, rfl⟩ | exact dd _ _ _)⟩
        case round =>
          obtain ⟨n, hn, rfl, hF, q, rfl⟩ := hrel
          by_cases hk : i + 1 + n < s.size
          · have hk' : (i : Int) + 1 + (n : Int) < (s.size : Int) := by omega
            have p1 : (0 : Int) ≤ (i : Int) + 1 + (n : Int) := by omega
            have e1 : ((i : Int) + 1 + (n : Int)).toNat = i + 1 + n := by omega
            by_cases he : s[i + 1 + n] = s[i]
            · have hb : ((s[i + 1 + n].toNat : Int) == (s[i].toNat : Int)) = true := by rw [he]; simp
              have hF' := hide (fwdSo_more s i c n (by omega) hk (he.trans (unhide HC).symm) (unhide hF))
              clear he hF
              go_wp2_with fail
              go_quiet (fail)
              go_wp2
              go_roundw
              case rel => exact ⟨n + 1, by omega, by go_num, hF', _, rfl⟩
              case measure => simp [intOf]; omega
            · have hb : ((s[i + 1 + n].toNat : Int) == (s[i].toNat : Int)) = false := by
                rw [beq_eq_false_iff_ne]
                intro h
                exact he (UInt8.toNat_inj.1 (by omega))
              have hF' := hide (fwdSo_endC s i c n (by omega) hk (by rw [unhide HC]; exact he) (unhide hF))
              clear he hF
              go_wp2_with fail
              go_quiet (fail)
              go_wp2
              go_ret2
              exact ⟨ret_two (by have := unhide hE; omega) (by rw [unhide hF']), (by first | exact ⟨_, rfl⟩ | exact dd _ _ _)⟩
          · have hd : decide ((i : Int) + 1 + (n : Int) < (s.size : Int)) = false := by simp; omega
            have hF' := hide (fwdSo_endS s i c n (by omega) hk (unhide hF))
            clear hF
            go_wp2_with fail
            go_quiet (fail)
            go_wp2
            go_ret2
            exact ⟨ret_two (by have := unhide hE; omega) (by rw [unhide hF']), (by first | exact ⟨_, rfl⟩ | exact dd _ _ _)⟩
      · have hd : decide ((0 : Int) < (f : Int)) = false := by simp; omega
        clear hx
        go_wp2_with fail
        go_quiet (fail)
        clear hd
        go_wp2
        go_loopw [7] (fun v wr => ∃ n : Nat, i + 1 + n ≤ s.size ∧ v = .int .i64 ((i : Int) + 1 + (n : Int)) ∧ Hid (FwdSo s i c n) ∧ ∃ q, wr = w.drewN q) (fun v _ => s.size - (intOf v).toNat)
        case atStart => exact ⟨0, by omega, by simp, fwdSo_start s i c, (by first | exact ⟨_, rfl⟩ | exact dd _ _ _)⟩
        case round =>
          obtain ⟨n, hn, rfl, hF, q, rfl⟩ := hrel
          by_cases hk : i + 1 + n < s.size
          · have hk' : (i : Int) + 1 + (n : Int) < (s.size : Int) := by omega
            have p1 : (0 : Int) ≤ (i : Int) + 1 + (n : Int) := by omega
            have e1 : ((i : Int) + 1 + (n : Int)).toNat = i + 1 + n := by omega
            by_cases he : s[i + 1 + n] = s[i]
            · have hb : ((s[i + 1 + n].toNat : Int) == (s[i].toNat : Int)) = true := by rw [he]; simp
              have hF' := hide (fwdSo_more s i c n (by omega) hk (he.trans (unhide HC).symm) (unhide hF))
              clear he hF
              go_wp2_with fail
              go_quiet (fail)
              go_wp2
              go_roundw
              case rel => exact ⟨n + 1, by omega, by go_num, hF', _, rfl⟩
              case measure => simp [intOf]; omega
            · have hb : ((s[i + 1 + n].toNat : Int) == (s[i].toNat : Int)) = false := by
                rw [beq_eq_false_iff_ne]
                intro h
                exact he (UInt8.toNat_inj.1 (by omega))
              have hF' := hide (fwdSo_endC s i c n (by omega) hk (by rw [unhide HC]; exact he) (unhide hF))
              clear he hF
              go_wp2_with fail
              go_quiet (fail)
              go_wp2
              go_ret2
              exact ⟨ret_two (by have := unhide hE; omega) (by rw [unhide hF']), (by first | exact ⟨_, rfl⟩ | exact dd _ _ _)⟩
          · have hd : decide ((i : Int) + 1 + (n : Int) < (s.size : Int)) = false := by simp; omega
            have hF' := hide (fwdSo_endS s i c n (by omega) hk (unhide hF))
            clear hF
            go_wp2_with fail
            go_quiet (fail)
            go_wp2
            go_ret2
            exact ⟨ret_two (by have := unhide hE; omega) (by rw [unhide hF']), (by first | exact ⟨_, rfl⟩ | exact dd _ _ _)⟩
end Go.Proofs.Ytdpabfggajjapaa
