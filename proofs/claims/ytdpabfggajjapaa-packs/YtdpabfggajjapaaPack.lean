/-
  wire.Pack, wire.Unpack: what they answer.
-/
import Derived.Test.YtdpabfggajjapaaOwn
namespace Go.Proofs.Ytdpabfggajjapaa
open Go.RowKit

theorem runByte_int (n : Nat) (c : UInt8) (hn : n ≤ 15) (hc : c.toNat ≤ 15) : ((Pt.runByte n c).toNat : Int) = 16 * (n : Int) + c.toNat := by
  unfold Pt.runByte
  rw [UInt8.toNat_ofNat']
  omega
/-- What has been laid at the head of the round. -/
def Laid (s : ByteArray) (k : Nat) (l : List UInt8) : Prop := l ++ Pt.runs (s.data.toList.drop k) = 84 :: Pt.runs s.data.toList
theorem laid_start (s : ByteArray) : Laid s 0 [84] := rfl
theorem laid_step (s : ByteArray) (k : Nat) (h : k < s.size) (l : List UInt8) (hl : Laid s k l) :
    Laid s (k + (Pt.lead s[k] 15 (s.data.toList.drop (k + 1)) + 1)) (l ++ [Pt.runByte (Pt.lead s[k] 15 (s.data.toList.drop (k + 1))) s[k]]) := by
  unfold Laid at hl ⊢
  rw [← hl, drop_cons s k h, Pt.runs_cons, List.drop_drop]
  simp [Nat.add_assoc, Nat.add_comm]
theorem laid_end (s : ByteArray) (k : Nat) (h : ¬ k < s.size) (l : List UInt8) (hl : Laid s k l) : l = 84 :: Pt.runs s.data.toList := by
  unfold Laid at hl
  rw [List.drop_of_length_le (by simp; omega)] at hl
  simpa [Pt.runs] using hl

theorem ret_str2 {a b : List UInt8} {n : Int} (h : a = b) : Ending.returned (.tuple #[.string ⟨a.toArray⟩, .int .i64 n]) = .returned (.tuple #[.string ⟨b.toArray⟩, .int .i64 n]) := by rw [h]

set_option maxHeartbeats 400000 in
theorem pack_no (s : ByteArray) (w : World) (hs : s.size ≤ maxLen) (h : Pt.okPic s.data.toList = false) :
    Calls Try.prog 9 #[.string s] w fun e w' => e = .returned (.tuple #[.string ⟨#[]⟩, .int .i64 5]) ∧ w = w' := by
  go_enter Try.func9, Try.ntmps9
  go_wp2_with (go_at_call 14; refine (isPicture_any s _ hs).mono ?_; rintro e w' ⟨rfl, rfl⟩)
  go_ret2
  exact ⟨rfl, rfl⟩

set_option maxHeartbeats 800000 in
theorem pack_yes (s : ByteArray) (w : World) (h : Pt.okPic s.data.toList = true) :
    Calls Try.prog 9 #[.string s] w fun e w' => e = .returned (.tuple #[.string ⟨(Pt.body s.data.toList).toArray⟩, .int .i64 0]) ∧ Below w.heap.size w w' := by
  obtain ⟨h64, hink⟩ := (Pt.okPic_iff _).1 h
  have hs64 : s.size = 64 := by simpa using h64
  have hs : s.size ≤ maxLen := by rw [hs64]; decide
  have hs' : s.size ≤ 1000 := by omega
  have HI := hide hink
  have H64 := hide hs64
  clear h64 hink hs64
  go_enter Try.func9, Try.ntmps9
  go_wp2_with (go_at_call 14; refine (isPicture_any s _ hs).mono ?_; rintro e w' ⟨rfl, rfl⟩)
  go_loopw [4, 5, 6] (fun v i _ wr => ∃ (k : Nat) (l : List UInt8), k ≤ s.size ∧ i = .int .i64 k ∧ l.length ≤ k + 1 ∧ Hid (Laid s k l) ∧ OwnB wr w.heap.size v l ∧ Below w.heap.size w wr) (fun _ i _ _ => s.size - (intOf i).toNat)
  case atStart => exact ⟨0, [84], Nat.zero_le _, rfl, by simp, laid_start s, ownB_one w _ (Nat.le_refl _) 84 84 rfl, (Below.refl _ _).alloc (Nat.le_refl _) _⟩
  case round =>
    obtain ⟨k, l, hk, rfl, hlen, hL, hown, hbel⟩ := hrel
    have hsz := hbel.size
    by_cases hlt : k < s.size
    · have hc15 : s[k].toNat ≤ 15 := unhide HI _ (Array.mem_toList_iff.2 (Array.getElem_mem _))
      have hstep := hide (laid_step s k hlt l (unhide hL))
      have hcall := fun wx => runLength_any s k wx hs' hlt
      have hle := Pt.lead_le s[k] 15 (s.data.toList.drop (k + 1))
      rw [List.length_drop] at hle
      generalize Pt.lead s[k] 15 (s.data.toList.drop (k + 1)) = n at hstep hcall hle
      have hcall' := hide hcall
      clear hcall hL
      obtain ⟨hn15, hnl⟩ := hle
      have hnl' : k + 1 + n ≤ s.size := by simp at hnl; omega
      clear hnl
      go_wp2_with (first | (go_at_call 15; refine (unhide hcall' _).mono ?_; rintro e w1 ⟨rfl, q, hq⟩; subst hq) | (at_builtin; refine wp_append_byte rfl (.tmp 20) (.tmp 29) rfl _ w.heap.size _ l (Pt.runByte n s[k]) _ rfl (hown.drewN _) rfl ?_ ?_ ?_ ?_))
      · rw [runByte_int n _ hn15 hc15]; omega
      · omega
      · simpa using hsz
      · intro v' w1 hown' hbel'
        have hbel2 : Below w.heap.size w w1 := (below_drewN hbel _).trans hbel'
        clear hown hbel hbel'
        go_wp2
        go_roundw
        case rel => exact ⟨k + (n + 1), _, by omega, by go_num, by simp; omega, hstep, hown', hbel2⟩
        case measure => simp [intOf]; omega
    · have hE := laid_end s k hlt l (unhide hL)
      clear hL
      have hE' := hide hE
      clear hE
      go_wp2_with (first | (go_at_call 16; refine (checks_any s _ (unhide H64)).mono ?_; rintro e w1 ⟨rfl, rfl⟩) | (at_builtin; refine wp_append_two rfl (.tmp 39) (.tmp 42) rfl _ w.heap.size _ l (Pt.ch1 s.data.toList) (Pt.ch2 s.data.toList) rfl hown rfl ?_ ?_ ?_))
      · omega
      · exact hsz
      · intro v' w1 hown' hbel'
        have hcv := hown'.str 0
        rw [World.drewN_zero] at hcv
        have hbel2 : Below w.heap.size w w1 := hbel.trans hbel'
        clear hown hbel hbel'
        go_wp2
        go_ret2
        exact ⟨ret_str2 (by rw [unhide hE']; rfl), hbel2⟩

end Go.Proofs.Ytdpabfggajjapaa
