/-
  atlasref.Unpack, atlaslaw.Packs: what they answer.
-/
import Derived.Test.YtdpabfggajjapaaRefB
namespace Go.Proofs.Ytdpabfggajjapaa
open Go.RowKit

theorem mid_size (s : ByteArray) : (Pt.mid s.data.toList).length = s.size - 3 := by
  unfold Pt.mid
  simp
  omega
theorem mid_get (s : ByteArray) (k : Nat) (h : k < s.size - 3) : (Pt.mid s.data.toList)[k]'(by rw [mid_size]; exact h) = s[1 + k] := by
  simp only [Pt.mid, List.getElem_take, List.getElem_drop]
  rfl
theorem mid_snoc (s : ByteArray) (k : Nat) (h : k < s.size - 3) : Pt.spread ((Pt.mid s.data.toList).take (k + 1)) = Pt.spread ((Pt.mid s.data.toList).take k) ++ List.replicate (s[1 + k].toNat / 16 + 1) (s[1 + k] % 16) := by
  rw [List.take_succ_eq_append_getElem (by rw [mid_size]; exact h), mid_get s k h]
  simp [Pt.spread, Pt.ofRun]
theorem mid_len (s : ByteArray) (k : Nat) : (Pt.spread ((Pt.mid s.data.toList).take k)).length ≤ 16 * k := by
  have := (Pt.wt_le ((Pt.mid s.data.toList).take k)).2
  have e : ((Pt.mid s.data.toList).take k).length ≤ k := List.length_take_le _ _
  unfold Pt.wt at this
  omega

set_option maxHeartbeats 400000 in
theorem refUnpack_short (s : ByteArray) (w : World) (hs : s.size ≤ maxLen) (h : s.size < 3 ∨ 67 < s.size) :
    Calls Try.prog 13 #[.string s] w fun e w' => e = .returned (.tuple #[.string ⟨#[]⟩, .int .i64 6]) ∧ w = w' := by
  unfold maxLen at hs
  rcases h with h | h
  · go_enter Try.func13, Try.ntmps13
    go_wp2_with fail
    go_ret2
    exact ⟨rfl, rfl⟩
  · have h' : ¬ s.size < 3 := by omega
    go_enter Try.func13, Try.ntmps13
    go_wp2_with fail
    go_ret2
    exact ⟨rfl, rfl⟩

theorem okBody_yes' (l : List UInt8) (h1 : Pt.okPic (Pt.spread (Pt.mid l)) = true) (h2 : Pt.body (Pt.spread (Pt.mid l)) = l) : Pt.okBody l = true := by
  refine (Pt.okBody_iff l).2 ⟨?_, h1, h2⟩
  have := Pt.body_len _ h1
  rw [h2] at this
  exact this

set_option maxHeartbeats 1600000 in
theorem refUnpack_mid (s : ByteArray) (w : World) (h3 : 3 ≤ s.size) (h67 : s.size ≤ 67) :
    Calls Try.prog 13 #[.string s] w fun e w' => (Pt.okBody s.data.toList = true ∧ e = .returned (.tuple #[.string ⟨(Pt.spread (Pt.mid s.data.toList)).toArray⟩, .int .i64 0]) ∨ Pt.okBody s.data.toList = false ∧ e = .returned (.tuple #[.string ⟨#[]⟩, .int .i64 6])) ∧ Below w.heap.size w w' := by
  have hcap := spread_cap s.data.toList (by simp; omega)
  have n1 := hide (okBody_no1 s.data.toList)
  have n2 := hide (okBody_no2 s.data.toList)
  have n3 := hide (okBody_yes' s.data.toList)
  have hsl : s.toList = s.data.toList := ByteArray.toList_eq s
  have d1 : decide ((s.size : Int) < 3) = false := by simp; omega
  have d2 : decide (67 < (s.size : Int)) = false := by simp; omega
  go_enter Try.func13, Try.ntmps13
  go_wp2
  go_loopw [4, 5] (fun v i wr => ∃ k : Nat, k ≤ s.size - 3 ∧ i = .int .i64 (1 + (k : Int)) ∧ OwnB wr w.heap.size v (Pt.spread ((Pt.mid s.data.toList).take k)) ∧ Below w.heap.size w wr) (fun _ i _ => s.size - (intOf i).toNat)
  case atStart => exact ⟨0, Nat.zero_le _, rfl, ownB_nil _ _, Below.refl _ _⟩
  case round =>
    obtain ⟨k, hk, rfl, hown, hbel⟩ := hrel
    by_cases hlt : k < s.size - 3
    · have hlt' : 1 + k < s.size := by omega
      have hc : s[1 + k].toNat < 256 := s[1 + k].toNat_lt
      have hsn := hide (mid_snoc s k hlt)
      have hsl' := mid_len s k
      generalize hl : Pt.spread ((Pt.mid s.data.toList).take k) = l at hown hsl' hsn
      clear hl
      go_wp2
      go_loopw [4, 6] (fun v i wr => ∃ j : Nat, j ≤ s[1 + k].toNat / 16 + 1 ∧ i = .int .i64 j ∧ OwnB wr w.heap.size v (l ++ List.replicate j (s[1 + k] % 16)) ∧ Below w.heap.size w wr) (fun _ i _ => 17 - (intOf i).toNat)
      case atStart => exact ⟨0, Nat.zero_le _, rfl, by simpa using hown, hbel⟩
      case round =>
        clear hown hbel
        obtain ⟨j, hj, rfl, hown, hbel⟩ := hrel
        have hsz := hbel.size
        have hlen : (l ++ List.replicate j (s[1 + k] % 16)).length ≤ 1000000 := by simp; omega
        by_cases hjl : j < s[1 + k].toNat / 16 + 1
        · go_wp2_with (at_builtin; refine wp_append_byte rfl (.tmp 34) (.tmp 39) rfl _ w.heap.size _ (l ++ List.replicate j (s[1 + k] % 16)) (s[1 + k] % 16) _ rfl hown rfl ?_ hlen hsz ?_)
          · simp
          · intro v' w1 hown' hbel'
            rw [rep_snoc] at hown'
            have hbel2 := hbel.trans hbel'
            clear hown hbel hbel'
            go_wp2
            go_roundw
            case rel => exact ⟨j + 1, by omega, by go_num, hown', hbel2⟩
            case measure => simp [intOf]; omega
        · go_wp2
          go_roundw
          case rel =>
            refine ⟨k + 1, by omega, by go_num, ?_, hbel⟩
            rw [unhide hsn, show s[1 + k].toNat / 16 + 1 = j from by omega]
            exact hown
          case measure => simp [intOf]; omega
    · rw [List.take_of_length_le (show (Pt.mid s.data.toList).length ≤ k by rw [mid_size]; omega)] at hown
      generalize hM : Pt.spread (Pt.mid s.data.toList) = m at hcap n1 n2 n3 hown
      have HM := hide hM
      clear hM
      have hcv := hown.str 0
      rw [World.drewN_zero] at hcv
      clear hown
      have hms : (⟨m.toArray⟩ : ByteArray).size ≤ maxLen := by rw [size_of_len]; unfold maxLen; omega
      cases hp : Pt.okPic m with
      | false =>
        have hb : Pt.okBody s.data.toList = false := unhide n1 hp
        have HP := hide hp
        clear hp
        go_wp2_with fail
        refine (refPack_no ⟨m.toArray⟩ _ hms (by simpa using unhide HP)).mono ?_
        rintro e w2 ⟨rfl, rfl⟩
        go_wp2_with fail
        go_ret2
        exact ⟨.inr ⟨hb, rfl⟩, hbel⟩
      | true =>
        have HP := hide hp
        clear hp
        go_wp2_with fail
        refine (refPack_yes ⟨m.toArray⟩ _ (by simpa using unhide HP)).mono ?_
        rintro e w2 ⟨rfl, hb2⟩
        have hb3 := hbel.trans (hb2.mono hbel.size)
        clear hbel hb2 hcv
        by_cases hq : Pt.body m = s.data.toList
        · have hB : Pt.okBody s.data.toList = true := unhide n3 (unhide HP) hq
          have hbe : (Pt.body m == s.data.toList) = true := by simp [hq]
          clear hq
          go_wp2_with fail
          go_ret2
          exact ⟨.inl ⟨hB, ret_str2 (unhide HM).symm⟩, hb3⟩
        · have hB : Pt.okBody s.data.toList = false := unhide n2 hq
          have hbe : (Pt.body m == s.data.toList) = false := by simp [hq]
          clear hq
          go_wp2_with fail
          go_ret2
          exact ⟨.inr ⟨hB, rfl⟩, hb3⟩

theorem refUnpack_any (s : ByteArray) (w : World) (hs : s.size ≤ maxLen) :
    Calls Try.prog 13 #[.string s] w fun e w' => (Pt.okBody s.data.toList = true ∧ e = .returned (.tuple #[.string ⟨(Pt.spread (Pt.mid s.data.toList)).toArray⟩, .int .i64 0]) ∨ Pt.okBody s.data.toList = false ∧ e = .returned (.tuple #[.string ⟨#[]⟩, .int .i64 6])) ∧ Below w.heap.size w w' := by
  by_cases h : 3 ≤ s.size ∧ s.size ≤ 67
  · exact refUnpack_mid s w h.1 h.2
  · refine (refUnpack_short s w hs (by omega)).mono ?_
    rintro e w' ⟨rfl, rfl⟩
    exact ⟨.inr ⟨okBody_short _ (by simp; omega), rfl⟩, Below.refl _ _⟩
theorem refUnpack_yes (s : ByteArray) (w : World) (hs : s.size ≤ maxLen) (h : Pt.okBody s.data.toList = true) :
    Calls Try.prog 13 #[.string s] w fun e w' => e = .returned (.tuple #[.string ⟨(Pt.spread (Pt.mid s.data.toList)).toArray⟩, .int .i64 0]) ∧ Below w.heap.size w w' := by
  refine (refUnpack_any s w hs).mono ?_
  rintro e w' ⟨⟨_, rfl⟩ | ⟨h', _⟩, hb⟩
  · exact ⟨rfl, hb⟩
  · rw [h] at h'; cases h'
theorem refUnpack_no (s : ByteArray) (w : World) (hs : s.size ≤ maxLen) (h : Pt.okBody s.data.toList = false) :
    Calls Try.prog 13 #[.string s] w fun e w' => e = .returned (.tuple #[.string ⟨#[]⟩, .int .i64 6]) ∧ Below w.heap.size w w' := by
  refine (refUnpack_any s w hs).mono ?_
  rintro e w' ⟨⟨h', _⟩ | ⟨_, rfl⟩, hb⟩
  · rw [h] at h'; cases h'
  · exact ⟨rfl, hb⟩

set_option maxHeartbeats 400000 in
theorem packed_walk (s : ByteArray) (w : World) (hs : s.size ≤ maxLen) :
    Calls Try.prog 6 #[.string s] w fun e w' => e = .returned (.bool true) ∧ Below w.heap.size w w' := by
  cases hp : Pt.okPic s.data.toList with
  | false =>
    have HP := hide hp
    clear hp
    go_enter Try.func6, Try.ntmps6
    go_wp2_with fail
    refine (pack_no s _ hs (unhide HP)).mono ?_
    rintro e w1 ⟨rfl, rfl⟩
    go_wp2_with fail
    refine (refPack_no s _ hs (unhide HP)).mono ?_
    rintro e w1 ⟨rfl, rfl⟩
    go_wp2_with fail
    go_ret
    exact ⟨rfl, Below.refl _ _⟩
  | true =>
    have HP := hide hp
    clear hp
    go_enter Try.func6, Try.ntmps6
    go_wp2_with fail
    refine (pack_yes s _ (unhide HP)).mono ?_
    rintro e w1 ⟨rfl, hb1⟩
    go_wp2_with fail
    refine (refPack_yes s _ (unhide HP)).mono ?_
    rintro e w2 ⟨rfl, hb2⟩
    go_wp2_with fail
    go_ret
    exact ⟨rfl, hb1.trans (hb2.mono hb1.size)⟩

set_option maxHeartbeats 400000 in
theorem unpacked_walk (s : ByteArray) (w : World) (hs : s.size ≤ maxLen) :
    Calls Try.prog 7 #[.string s] w fun e w' => e = .returned (.bool true) ∧ Below w.heap.size w w' := by
  cases hp : Pt.okBody s.data.toList with
  | false =>
    have HP := hide hp
    clear hp
    go_enter Try.func7, Try.ntmps7
    go_wp2_with fail
    refine (unpack_no s _ hs (unhide HP)).mono ?_
    rintro e w1 ⟨rfl, hb1⟩
    go_wp2_with fail
    refine (refUnpack_no s _ hs (unhide HP)).mono ?_
    rintro e w2 ⟨rfl, hb2⟩
    go_wp2_with fail
    go_ret
    exact ⟨rfl, hb1.trans (hb2.mono hb1.size)⟩
  | true =>
    have HP := hide hp
    clear hp
    go_enter Try.func7, Try.ntmps7
    go_wp2_with fail
    refine (unpack_yes s _ hs (unhide HP)).mono ?_
    rintro e w1 ⟨rfl, hb1⟩
    go_wp2_with fail
    refine (refUnpack_yes s _ hs (unhide HP)).mono ?_
    rintro e w2 ⟨rfl, hb2⟩
    go_wp2_with fail
    go_ret
    exact ⟨rfl, hb1.trans (hb2.mono hb1.size)⟩

set_option maxHeartbeats 400000 in
theorem packs_walk (s t : ByteArray) (w : World) (hs : s.size ≤ maxLen) (ht : t.size ≤ maxLen) :
    Calls Try.prog 3 #[.string s, .string t] w fun e w' => e = .returned (.bool true) ∧ Below w.heap.size w w' := by
  go_enter Try.func3, Try.ntmps3
  go_wp2_with fail
  refine (packed_walk s _ hs).mono ?_
  rintro e w1 ⟨rfl, hb1⟩
  go_wp2_with fail
  refine (unpacked_walk t _ ht).mono ?_
  rintro e w2 ⟨rfl, hb2⟩
  go_wp2_with fail
  go_ret
  exact ⟨rfl, hb1.trans (hb2.mono hb1.size)⟩
end Go.Proofs.Ytdpabfggajjapaa
