/-
  THE LEAVES, more of them: the length of a run, the check bytes, a number out of any number.
-/
import Derived.Test.YtdpabfggajjapaaLeaf
namespace Go.Proofs.Ytdpabfggajjapaa
open Go.RowKit

theorem drop_cons (s : ByteArray) (k : Nat) (h : k < s.size) : s.data.toList.drop k = s[k] :: s.data.toList.drop (k + 1) := by
  rw [List.drop_eq_getElem_cons (by simpa using h)]; rfl
/-- What is known at the head of the round: n pixels are of the ink. -/
def RunSo (s : ByteArray) (i : Nat) (c : UInt8) (n : Nat) : Prop := Pt.lead c 15 (s.data.toList.drop (i + 1)) + 1 = n + Pt.lead c (16 - n) (s.data.toList.drop (i + n))
theorem runSo_one (s : ByteArray) (i : Nat) (c : UInt8) : RunSo s i c 1 := by unfold RunSo; show _ = 1 + Pt.lead c 15 _; omega
theorem runSo_more (s : ByteArray) (i : Nat) (c : UInt8) (n : Nat) (hn : n < 16) (hk : i + n < s.size) (hc : s[i + n] = c) (h : RunSo s i c n) : RunSo s i c (n + 1) := by
  unfold RunSo at h ⊢
  rw [h, drop_cons s (i + n) hk, show 16 - n = (16 - (n + 1)) + 1 from by omega]
  simp only [Pt.lead, hc, if_true]
  rw [show i + n + 1 = i + (n + 1) from by omega]
  omega
theorem runSo_end16 (s : ByteArray) (i : Nat) (c : UInt8) (n : Nat) (hn : ¬ n < 16) (hn' : n ≤ 16) (h : RunSo s i c n) : Pt.lead c 15 (s.data.toList.drop (i + 1)) + 1 = n := by
  unfold RunSo at h
  rw [show 16 - n = 0 from by omega] at h
  simpa [Pt.lead] using h
theorem runSo_endS (s : ByteArray) (i : Nat) (c : UInt8) (n : Nat) (hn : n < 16) (hk : ¬ i + n < s.size) (h : RunSo s i c n) : Pt.lead c 15 (s.data.toList.drop (i + 1)) + 1 = n := by
  unfold RunSo at h
  rw [List.drop_of_length_le (l := s.data.toList) (i := i + n) (by simp; omega), show 16 - n = (15 - n) + 1 from by omega] at h
  simpa [Pt.lead] using h
theorem runSo_endC (s : ByteArray) (i : Nat) (c : UInt8) (n : Nat) (hn : n < 16) (hk : i + n < s.size) (hc : ¬ s[i + n] = c) (h : RunSo s i c n) : Pt.lead c 15 (s.data.toList.drop (i + 1)) + 1 = n := by
  unfold RunSo at h
  rw [drop_cons s (i + n) hk, show 16 - n = (15 - n) + 1 from by omega] at h
  simpa [Pt.lead, hc] using h

theorem i64_in (x : Int) (h1 : -9223372036854775808 ≤ x) (h2 : x ≤ 9223372036854775807) : IntKind.i64.wrap x = x := by rw [IntKind.wrap_i64]; omega
theorem dd (w : World) (q n : Nat) : ∃ k, (w.drewN q).drewN n = w.drewN k := ⟨_, World.drewN_drewN _ _ _⟩

set_option maxHeartbeats 400000 in
theorem runLength_any (s : ByteArray) (i : Nat) (w : World) (hs : s.size ≤ 1000) (hi : i < s.size) :
    Calls Try.prog 15 #[.string s, .int .i64 i] w fun e w' => e = .returned (.int .i64 ((Pt.lead s[i] 15 (s.data.toList.drop (i + 1)) + 1 : Nat) : Int)) ∧ ∃ q, w' = w.drewN q := by
  obtain ⟨c, hc⟩ : ∃ c, c = s[i] := ⟨_, rfl⟩
  rw [← hc]
  have HC := hide hc
  clear hc
  go_enter Try.func15, Try.ntmps15
  go_wp2
  go_loopw [5] (fun v wr => ∃ n : Nat, 1 ≤ n ∧ n ≤ 16 ∧ v = .int .i64 n ∧ Hid (RunSo s i c n) ∧ ∃ q, wr = w.drewN q) (fun v _ => 16 - (intOf v).toNat)
  case atStart => exact ⟨1, by omega, by omega, rfl, runSo_one s i c, 0, rfl⟩
  case round =>
    obtain ⟨n, h1, h2, rfl, hR, q, rfl⟩ := hrel
    by_cases hn : n < 16
    · have ew : IntKind.i64.wrap ((i : Int) + (n : Int)) = (i : Int) + (n : Int) := i64_in _ (by omega) (by omega)
      by_cases hk : i + n < s.size
      · have hk' : (i : Int) + (n : Int) < (s.size : Int) := by omega
        have hn' : (n : Int) < 16 := by omega
        have hi' : (i : Int) < (s.size : Int) := by omega
        have p1 : (0 : Int) ≤ (i : Int) + (n : Int) := by omega
        have e1 : ((i : Int) + (n : Int)).toNat = i + n := by omega
        by_cases he : s[i + n] = s[i]
        · have hb : ((s[i + n].toNat : Int) == (s[i].toNat : Int)) = true := by rw [he]; simp
          have hR' := hide (runSo_more s i c n hn hk (he.trans (unhide HC).symm) (unhide hR))
          clear he
          go_wp2_with fail
          go_quiet (fail)
          go_wp2
          go_roundw
          case rel => exact ⟨n + 1, by omega, by omega, by go_num, hR', _, rfl⟩
          case measure => simp [intOf]; omega
        · have hb : ((s[i + n].toNat : Int) == (s[i].toNat : Int)) = false := by
            rw [beq_eq_false_iff_ne]
            intro h
            exact he (UInt8.toNat_inj.1 (by omega))
          have hR' := hide (runSo_endC s i c n hn hk (by rw [unhide HC]; exact he) (unhide hR))
          clear he
          go_wp2_with fail
          go_quiet (fail)
          go_wp2
          go_ret
          exact ⟨ret_int (by rw [unhide hR']), dd _ _ _⟩
      · have hn' : (n : Int) < 16 := by omega
        have hd : decide ((i : Int) + (n : Int) < (s.size : Int)) = false := by simp; omega
        have hR' := hide (runSo_endS s i c n hn hk (unhide hR))
        go_wp2_with fail
        go_quiet (fail)
        go_wp2
        go_ret
        exact ⟨ret_int (by rw [unhide hR']), dd _ _ _⟩
    · have hd : decide ((n : Int) < 16) = false := by simp; omega
      have hR' := hide (runSo_end16 s i c n hn h2 (unhide hR))
      go_wp2_with fail
      go_quiet (fail)
      go_wp2
      go_ret
      exact ⟨ret_int (by rw [unhide hR']), dd _ _ _⟩

theorem sum1_snoc (s : ByteArray) (k : Nat) (h : k < s.size) : Pt.sum1 (s.data.toList.take (k + 1)) = Pt.sum1 (s.data.toList.take k) + s[k].toNat := by
  rw [take_snoc s k h, Pt.sum1_append]; simp [Pt.sum1]
theorem sum2_snoc (s : ByteArray) (k : Nat) (h : k < s.size) : Pt.sum2 64 (s.data.toList.take (k + 1)) = Pt.sum2 64 (s.data.toList.take k) + (64 - (k : Int)) * s[k].toNat := by
  rw [take_snoc s k h, Pt.sum2_append]
  have : (s.data.toList.take k).length = k := by simp; omega
  simp [Pt.sum2, this]
theorem ret_two {k k' : IntKind} {a b c d : Int} (h : a = c) (h' : b = d) : Ending.returned (.tuple #[.int k a, .int k' b]) = .returned (.tuple #[.int k c, .int k' d]) := by rw [h, h']
theorem ch1_int (l : List UInt8) : ((Pt.ch1 l).toNat : Int) = (1 + (Pt.sum1 l : Int)) % 251 := by
  unfold Pt.ch1
  rw [UInt8.toNat_ofNat']
  omega
theorem ch2_int (l : List UInt8) : ((Pt.ch2 l).toNat : Int) = (64 + Pt.sum2 64 l) % 251 := by
  unfold Pt.ch2
  rw [UInt8.toNat_ofNat']
  omega

set_option maxHeartbeats 400000 in
theorem checks_any (s : ByteArray) (w : World) (hs : s.size = 64) :
    Calls Try.prog 16 #[.string s] w fun e w' => e = .returned (.tuple #[.int .u8 (Pt.ch1 s.data.toList).toNat, .int .u8 (Pt.ch2 s.data.toList).toNat]) ∧ w = w' := by
  have hle : s.size ≤ 64 := by omega
  have hge : 64 ≤ s.size := by omega
  have HS := hide hs
  clear hs
  go_enter Try.func16, Try.ntmps16
  go_wp2
  go_loop [4, 5, 6, 7] (fun a b i _ => ∃ k : Nat, k ≤ s.size ∧ i = .int .i64 k ∧ a = .int .i64 (1 + (Pt.sum1 (s.data.toList.take k) : Int)) ∧ b = .int .i64 (64 + Pt.sum2 64 (s.data.toList.take k))) (fun _ _ i _ => s.size - (intOf i).toNat)
  case atStart => exact ⟨0, Nat.zero_le _, rfl, rfl, rfl⟩
  case round =>
    obtain ⟨k, hk, rfl, rfl, rfl⟩ := hrel
    have hl : (s.data.toList.take k).length = k := by simp; omega
    have b1 := Pt.sum1_le (s.data.toList.take k)
    have b2 := Pt.sum2_le (s.data.toList.take k) 64 (by omega) (by omega)
    rw [hl] at b1 b2
    clear hl
    by_cases hlt : k < s.size
    · have e1 := hide (sum1_snoc s k hlt)
      have e2 := hide (sum2_snoc s k hlt)
      have hc : s[k].toNat < 256 := s[k].toNat_lt
      have m1 : 0 ≤ (64 - (k : Int)) * s[k].toNat := Int.mul_nonneg (by omega) (by omega)
      have m2 : (64 - (k : Int)) * s[k].toNat ≤ 64 * 255 := Int.mul_le_mul (by omega) (by omega) (by omega) (by omega)
      go_wp2
      go_round
      case rel => exact ⟨k + 1, by omega, by go_num, by rw [unhide e1]; go_num, by rw [unhide e2]; go_num⟩
      case measure => simp [intOf]; omega
    · go_wp2
      go_ret2
      have ek : s.data.toList.take k = s.data.toList := List.take_of_length_le (by simp; omega)
      exact ⟨ret_two (by rw [ch1_int, ek]) (by rw [ch2_int, ek]), rfl⟩

end Go.Proofs.Ytdpabfggajjapaa
