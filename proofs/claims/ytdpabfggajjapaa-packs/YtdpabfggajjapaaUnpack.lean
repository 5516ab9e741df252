/-
  wire.Unpack: what it answers.
-/
import Derived.Test.YtdpabfggajjapaaPack
import Derived.Lib.Strings
namespace Go.Proofs.Ytdpabfggajjapaa
open Go.RowKit

theorem mid_extract (s : ByteArray) (h : 3 ≤ s.size) : (s.extract 1 (s.size - 2)).data.toList = Pt.mid s.data.toList := by
  rw [Lib.extract_data]
  unfold Pt.mid
  rw [show s.data.toList.length = s.size from by simp, show s.size - 2 - 1 = s.size - 3 from by omega]

set_option maxHeartbeats 400000 in
theorem unpack_short (s : ByteArray) (w : World) (hs : s.size ≤ maxLen) (h : s.size < 7 ∨ 67 < s.size) :
    Calls Try.prog 10 #[.string s] w fun e w' => e = .returned (.tuple #[.string ⟨#[]⟩, .int .i64 6]) ∧ w = w' := by
  unfold maxLen at hs
  rcases h with h | h
  · go_enter Try.func10, Try.ntmps10
    go_wp2_with fail
    go_ret2
    exact ⟨rfl, rfl⟩
  · have h' : ¬ s.size < 7 := by omega
    go_enter Try.func10, Try.ntmps10
    go_wp2_with fail
    go_ret2
    exact ⟨rfl, rfl⟩

theorem okBody_no1 (l : List UInt8) (h : Pt.okPic (Pt.spread (Pt.mid l)) = false) : Pt.okBody l = false := by unfold Pt.okBody; rw [h]; simp
theorem okBody_no2 (l : List UInt8) (h : ¬ Pt.body (Pt.spread (Pt.mid l)) = l) : Pt.okBody l = false := by unfold Pt.okBody; simp [h]
theorem okBody_yes (l : List UInt8) (h : 7 ≤ l.length ∧ l.length ≤ 67) (h1 : Pt.okPic (Pt.spread (Pt.mid l)) = true) (h2 : Pt.body (Pt.spread (Pt.mid l)) = l) : Pt.okBody l = true := (Pt.okBody_iff l).2 ⟨h, h1, h2⟩
theorem spread_cap (l : List UInt8) (h : l.length ≤ 67) : (Pt.spread (Pt.mid l)).length ≤ 1072 := by
  have := (Pt.wt_le (Pt.mid l)).2
  have e : (Pt.mid l).length ≤ 67 := by unfold Pt.mid; simp; omega
  unfold Pt.wt at this
  omega

set_option maxHeartbeats 400000 in
theorem unpack_mid (s : ByteArray) (w : World) (h7 : 7 ≤ s.size) (h67 : s.size ≤ 67) :
    Calls Try.prog 10 #[.string s] w fun e w' => (Pt.okBody s.data.toList = true ∧ e = .returned (.tuple #[.string ⟨(Pt.spread (Pt.mid s.data.toList)).toArray⟩, .int .i64 0]) ∨ Pt.okBody s.data.toList = false ∧ e = .returned (.tuple #[.string ⟨#[]⟩, .int .i64 6])) ∧ Below w.heap.size w w' := by
  have hm := hide (mid_extract s (by omega))
  have hcap := spread_cap s.data.toList (by simp; omega)
  have n1 := hide (okBody_no1 s.data.toList)
  have n2 := hide (okBody_no2 s.data.toList)
  have n3 := hide (okBody_yes s.data.toList (by simp; omega))
  have hsl : s.toList = s.data.toList := ByteArray.toList_eq s
  have hle : (s.extract 1 (s.size - 2)).size ≤ 1000 := by simp; omega
  go_enter Try.func10, Try.ntmps10
  go_wp2_with fail
  refine (spread_any _ _ hle).mono ?_
  rintro e w1 ⟨rfl, hb1⟩
  rw [unhide hm]
  generalize hM : Pt.spread (Pt.mid s.data.toList) = m at hcap n1 n2 n3
  have HM := hide hM
  clear hM hm hle
  have hms : (⟨m.toArray⟩ : ByteArray).size ≤ maxLen := by rw [size_of_len]; unfold maxLen; omega
  cases hp : Pt.okPic m with
  | false =>
    have hb : Pt.okBody s.data.toList = false := unhide n1 hp
    have HP := hide hp
    clear hp
    go_wp2_with fail
    refine (pack_no ⟨m.toArray⟩ _ hms (by simpa using unhide HP)).mono ?_
    rintro e w2 ⟨rfl, rfl⟩
    go_wp2_with fail
    go_ret2
    exact ⟨.inr ⟨hb, rfl⟩, hb1⟩
  | true =>
    have HP := hide hp
    clear hp
    go_wp2_with fail
    refine (pack_yes ⟨m.toArray⟩ _ (by simpa using unhide HP)).mono ?_
    rintro e w2 ⟨rfl, hb2⟩
    have hb3 := hb1.trans (hb2.mono hb1.size)
    clear hb1 hb2
    by_cases hq : Pt.body m = s.data.toList
    · have hB : Pt.okBody s.data.toList = true := unhide n3 (unhide HP) hq
      have hbe : (Pt.body m == s.data.toList) = true := by simp [hq]
      clear hq
      go_wp2_with fail
      go_ret2
      exact ⟨.inl ⟨hB, ret_str2 (unhide HM).symm⟩, hb3⟩
    · have hB : Pt.okBody s.data.toList = false := unhide n2 hq
      have hbe : (Pt.body m == s.data.toList) = false := by simp [hq]
      clear hq
      go_wp2_with fail
      go_ret2
      exact ⟨.inr ⟨hB, rfl⟩, hb3⟩

theorem okBody_short (l : List UInt8) (h : l.length < 7 ∨ 67 < l.length) : Pt.okBody l = false := by
  rw [Bool.eq_false_iff]
  intro h'
  have := ((Pt.okBody_iff l).1 h').1
  omega
theorem unpack_any (s : ByteArray) (w : World) (hs : s.size ≤ maxLen) :
    Calls Try.prog 10 #[.string s] w fun e w' => (Pt.okBody s.data.toList = true ∧ e = .returned (.tuple #[.string ⟨(Pt.spread (Pt.mid s.data.toList)).toArray⟩, .int .i64 0]) ∨ Pt.okBody s.data.toList = false ∧ e = .returned (.tuple #[.string ⟨#[]⟩, .int .i64 6])) ∧ Below w.heap.size w w' := by
  by_cases h : 7 ≤ s.size ∧ s.size ≤ 67
  · exact unpack_mid s w h.1 h.2
  · refine (unpack_short s w hs (by omega)).mono ?_
    rintro e w' ⟨rfl, rfl⟩
    exact ⟨.inr ⟨okBody_short _ (by simp; omega), rfl⟩, Below.refl _ _⟩
theorem unpack_yes (s : ByteArray) (w : World) (hs : s.size ≤ maxLen) (h : Pt.okBody s.data.toList = true) :
    Calls Try.prog 10 #[.string s] w fun e w' => e = .returned (.tuple #[.string ⟨(Pt.spread (Pt.mid s.data.toList)).toArray⟩, .int .i64 0]) ∧ Below w.heap.size w w' := by
  refine (unpack_any s w hs).mono ?_
  rintro e w' ⟨⟨_, rfl⟩ | ⟨h', _⟩, hb⟩
  · exact ⟨rfl, hb⟩
  · rw [h] at h'; cases h'
theorem unpack_no (s : ByteArray) (w : World) (hs : s.size ≤ maxLen) (h : Pt.okBody s.data.toList = false) :
    Calls Try.prog 10 #[.string s] w fun e w' => e = .returned (.tuple #[.string ⟨#[]⟩, .int .i64 6]) ∧ Below w.heap.size w w' := by
  refine (unpack_any s w hs).mono ?_
  rintro e w' ⟨⟨h', _⟩ | ⟨_, rfl⟩, hb⟩
  · rw [h] at h'; cases h'
  · exact ⟨rfl, hb⟩
end Go.Proofs.Ytdpabfggajjapaa
